import PyProof.Rows.All
import PyProof.TupleKey
import KE.KSortTup
import PyProof.Rows.SetFrom
import PyProof.SetKind
import Wide.All
import OpenK.AllK
import Wide.FinOn
import Lean
import PyProof.EqAt
import PyProof.EqKinds
import PyProof.TupleCall
import PyProof.CompFree
import PyProof.ConsumeWalk
import PyProof.CompMap
import KE.IntBitsLaws
import KE.KDictSum
import PyProof.Rows.EqDataRows
import PyProof.Rows.SortWalk
import KE.KLcPair
import PyProof.Cells
import PyProof.SumAny
import PyProof.ZipIter
import PyProof.EnumIter
import PyProof.Rows.ZipGen
import PyProof.Rows.FactsT2
import PyProof.WalkInts
import PyProof.SeqI3
import KE.KEqSeq
import PyProof.Rows.Range3
import PyProof.Rows.ChunkLeaf
import PyProof.InstStoreFacts
import PyProof.ExcClass3
import PyProof.ExcInit
import PyProof.Rows.InDataRows
import PySem.Challenge.RW_conicplaces_k55_lines_met
set_option Elab.async false
set_option linter.all false
set_option maxRecDepth 100000
set_option maxHeartbeats 4000000
namespace L2
open PySem PySem.Spec PyProof.Rows
def Still (A : Around) (h : Heap) : Prop := A.handled = none ∨ ∃ (e : Addr) (o : Obj) (vs : Array Value), A.handled = some (.ref e) ∧ h.get? e = some o ∧ o.data = .fields vs ∧ vs[2]? = some .none
theorem Still.mono {A : Around} {h h' : Heap} (S : Still A h) (k : ∀ e o, A.handled = some (.ref e) → h.get? e = some o → h'.get? e = some o) : Still A h' := by
  rcases S with z | ⟨e, o, vs, hh, he, r⟩
  · exact .inl z
  · exact .inr ⟨e, o, vs, hh, k e o hh he, r⟩
theorem Still.in1 {A : Around} {h : Heap} (S : Still A h) : Still A.in1 h := S
theorem plain_unchain : plainId "proto.unchain" = true := by decide +kernel
theorem entry_unchain : entryFor table "proto.unchain" = some Builtin.«proto.unchain» := entryFor_of_tree (by kernel_rfl)
section
variable {P : Program} {w : World} {A : Around} {E : Value → Shared → Prop} {s : Shared}
theorem raiseNew_still {α : Type} {x : Addr} {ox : Obj} {vx : Array Value} {Q : α → Shared → Prop} (S : Still A s.heap) (hx : s.heap.get? x = some ox) (hd : ox.data = .fields vx) (sz : 2 < vx.size) (nx : A.handled ≠ some (.ref x))
    (q : ∀ h' o', Heap.SameBut x s.heap h' → h'.get? x = some o' → o'.cls = ox.cls → E (.ref x) { s with heap := h' }) : wpAny (model P w) A (raiseNew (.ref x) : Sem α) Q E s := by
  simp only [raiseNew]
  refine wpAny_bind (wpAny_handled ?_)
  rcases S with hn | ⟨e, o, vs, hh, he, hdo, h2⟩
  · rw [hn]
    exact wpAny_bind (wpAny_pure (wpAny_throw (q s.heap ox (Heap.SameBut.refl _ _) hx rfl)))
  · rw [hh] at nx ⊢
    have ne : e ≠ x := fun z => nx (by rw [z])
    have nb : (Value.ref e != Value.ref x) = true := by
      simp [ne]
    simp only [nb, if_true]
    refine wpAny_bind (wpAny_holding (wpAny_runValue (codeAny_builtin entry_unchain ?_)))
    rw [Around.under_plainId plain_unchain _]
    show wpAny _ _ (field (.ref e) 2 >>= _) _ _ s
    refine wpAny_bind (wpAny_field he hdo (x := .none) h2 ?_)
    simp only [beq_self_eq_true, if_true]
    refine wpAny_pure ?_
    show wpAny _ _ (updateField x 2 (.ref e) >>= _) _ _ s
    refine wpAny_bind ?_
    unfold updateField
    refine wpAny_bind (wpAny_load hx ?_)
    rw [hd]
    simp only [sz, if_true]
    refine wpAny_update hx (wpAny_throw (q _ _ (Heap.SameBut.update ..) (Heap.get?_update_self _ hx (Obj.isFreed_of_fields (Obj.data_mapFields hd _))) (Obj.cls_mapFields ..)))
theorem Still.ne_new {A : Around} {h : Heap} (S : Still A h) {x : Addr} (hx : h.objs.size ≤ x) : A.handled ≠ some (.ref x) := by
  rcases S with z | ⟨e, o, vs, hh, he, _⟩
  · rw [z]
    intro c
    cases c
  · rw [hh]
    intro c
    cases c
    exact Nat.not_lt.mpr hx (Heap.lt_size he)
theorem stop_still {α : Type} {Q : α → Shared → Prop} (S : Still A s.heap) (q : ∀ h' e, (∀ b o, s.heap.get? b = some o → h'.get? b = some o) → (∃ o, h'.get? e = some o ∧ o.cls = .type "StopIteration") → E (.ref e) { s with heap := h' }) :
    wpAny (model P w) A (newExc (.type "StopIteration") ([] : List Value) >>= fun e => (raiseNew e : Sem α)) Q E s := by
  refine wpAny_bind ?_
  simp only [newExc, newTuple]
  refine wpAny_bind (wpAny_newObj_type ?_ (by size_fits)); refine wpAny_bind (m := firstArgMember _ _) (wpAny_of_eq (a := Value.none) (by first | rfl | (simp only [firstArgMember]; rfl)) ?_)
  refine wpAny_newObj_type ?_ (by size_fits)
  have up : ∀ (a b : Obj) c o, s.heap.get? c = some o → ((s.heap.push a).push b).get? c = some o := fun a b c o e => Heap.get?_push_of_some _ (Heap.get?_push_of_some _ e)
  refine raiseNew_still (S.mono fun e o _ h => up _ _ e o h) (Heap.get?_push_size _ rfl) rfl (by simp <;> omega) (S.ne_new (by simp only [Heap.size_push]; exact Nat.le_succ _)) fun h' o' sb ho hc => ?_
  refine q h' _ (fun b o e => ?_) ⟨o', ho, hc⟩
  have lt := Heap.lt_size e
  rw [sb.2 b (fun z => by rw [z] at lt; simp only [Heap.size_push] at lt; exact Nat.not_lt.mpr (Nat.le_succ _) lt)]
  exact up _ _ b o e
theorem list_end_still {it l : Addr} {i : Nat} {items : Array Value} {Q : Option Value → Shared → Prop} (S : Still A s.heap) (ni : A.handled ≠ some (.ref it)) (hit : s.heap.IsListIter it l i) (hl : s.heap.IsList l items) (hx : items[i]? = none)
    (q : ∀ h', Heap.ExtBut it s.heap h' → Q none { s with heap := h' }) : wpAny (model P w) A (pyNext (.ref it)) Q E s := by
  obtain ⟨o, ho, hc, hd⟩ := id hit
  obtain ⟨ol, hol, _, nl, hdl⟩ := hl
  unfold pyNext
  refine wpAny_bind (wpAny_attempt (wpAny_callSpecial?_slot (name := Str.ofString "__next__") hit.typeIs slot_listiter_next (wpAny_call_entry slot_listiter_next hit.typeIs entry_listiter_next ?_ (args_listiter_next _))))
  show wpAny _ _ (field (.ref it) 0 >>= _) _ _ s
  refine wpAny_bind (wpAny_field ho hd (x := .ref l) rfl ?_)
  show wpAny _ _ (if (Value.ref l == Value.none) = true then _ else _) _ _ s
  rw [if_neg (show ¬ ((Value.ref l == Value.none) = true) from Bool.false_ne_true)]
  show wpAny _ _ (field (.ref it) 1 >>= _) _ _ s
  refine wpAny_bind (wpAny_field ho hd (x := .int i 0) rfl (wpAny_bind (wpAny_seqItems hol hdl ?_)))
  simp only [Int.toNat_natCast, hx]
  refine wpAny_bind (wpAny_rule (wpAny_bind (wpAny_setField ho hd (by simp) ?_)))
  refine stop_still (A := A.in1) (S.in1.mono fun e o' hh h => ?_) fun h' e k he => ?_
  · exact (Heap.SameBut.update ..).extBut _ _ (fun z => ni (by rw [← z]; exact hh)) h
  · obtain ⟨oe, e1, e2⟩ := he
    refine wpAny_bind (wpAny_isInstance (T := "StopIteration") (b := true) ⟨oe, e1, e2⟩ isSubtype_stop ?_)
    exact wpAny_pure (q _ fun b o' nb h => k _ _ ((Heap.SameBut.update ..).extBut _ _ nb h))
theorem tuple_end_still {it l : Addr} {i : Nat} {items : Array Value} {Q : Option Value → Shared → Prop} (S : Still A s.heap) (ni : A.handled ≠ some (.ref it)) (hit : s.heap.IsTupleIter it l i) (hl : s.heap.IsTuple l items) (hx : items[i]? = none)
    (q : ∀ h', Heap.ExtBut it s.heap h' → Q none { s with heap := h' }) : wpAny (model P w) A (pyNext (.ref it)) Q E s := by
  obtain ⟨o, ho, hc, hd⟩ := id hit
  obtain ⟨ol, hol, _, nl, hdl⟩ := hl
  unfold pyNext
  refine wpAny_bind (wpAny_attempt (wpAny_callSpecial?_slot (name := Str.ofString "__next__") hit.typeIs F.slot_tuple_iterator_next (wpAny_call_entry F.slot_tuple_iterator_next hit.typeIs F.entry_tuple_iterator_next ?_ (F.args_tuple_iterator_next_1 _))))
  show wpAny _ _ (field (.ref it) 0 >>= _) _ _ s
  refine wpAny_bind (wpAny_field ho hd (x := .ref l) rfl ?_)
  show wpAny _ _ (if (Value.ref l == Value.none) = true then _ else _) _ _ s
  rw [if_neg (show ¬ ((Value.ref l == Value.none) = true) from Bool.false_ne_true)]
  show wpAny _ _ (field (.ref it) 1 >>= _) _ _ s
  refine wpAny_bind (wpAny_field ho hd (x := .int i 0) rfl (wpAny_bind (wpAny_seqItems hol hdl ?_)))
  simp only [Int.toNat_natCast, hx]
  refine wpAny_bind (wpAny_rule (wpAny_bind (wpAny_setField ho hd (by simp) ?_)))
  refine stop_still (A := A.in1) (S.in1.mono fun e o' hh h => ?_) fun h' e k he => ?_
  · exact (Heap.SameBut.update ..).extBut _ _ (fun z => ni (by rw [← z]; exact hh)) h
  · obtain ⟨oe, e1, e2⟩ := he
    refine wpAny_bind (wpAny_isInstance (T := "StopIteration") (b := true) ⟨oe, e1, e2⟩ isSubtype_stop ?_)
    exact wpAny_pure (q _ fun b o' nb h => k _ _ ((Heap.SameBut.update ..).extBut _ _ nb h))
theorem range_end_still {it : Addr} {x left step : Int} {Q : Option Value → Shared → Prop} (S : Still A s.heap) (hit : IsRangeIter s.heap it x left step) (hleft : left ≤ 0)
    (q : ∀ h', Heap.ExtBut it s.heap h' → Q none { s with heap := h' }) : wpAny (model P w) A (pyNext (.ref it)) Q E s := by
  have hT : s.TypeIs (.ref it) "range_iterator" := ⟨_, hit, rfl⟩
  unfold pyNext
  refine wpAny_bind (wpAny_attempt (wpAny_callSpecial?_slot (name := Str.ofString "__next__") hT F.slot_range_iterator_next (wpAny_call_entry F.slot_range_iterator_next hT F.entry_range_iterator_next ?_ (F.args_range_iterator_next_1 _))))
  show wpAny _ _ (field (.ref it) 0 >>= _) _ _ s
  refine wpAny_bind (wpAny_field hit rfl (x := rawInt x) rfl ?_)
  show wpAny _ _ (field (.ref it) 1 >>= _) _ _ s
  refine wpAny_bind (wpAny_field hit rfl (x := rawInt left) rfl ?_)
  show wpAny _ _ (field (.ref it) 2 >>= _) _ _ s
  refine wpAny_bind (wpAny_field hit rfl (x := rawInt step) rfl ?_)
  show wpAny _ _ (if left ≤ 0 then _ else _) _ _ s
  rw [if_pos hleft]
  refine wpAny_bind (wpAny_rule ?_)
  refine wpAny_bind ?_
  refine stop_still (A := A.in1) S.in1 fun h' e k he => ?_
  obtain ⟨oe, e1, e2⟩ := he
  refine wpAny_bind (wpAny_isInstance (T := "StopIteration") (b := true) ⟨oe, e1, e2⟩ isSubtype_stop ?_)
  exact wpAny_pure (q _ fun b o' _ h => k _ _ h)
theorem tnext_end_still {j a : Addr} {i : Nat} {us : Array Value} {Q : Value → Shared → Prop} (S : Still A s.heap) (nj : A.handled ≠ some (.ref j)) (g0 : s.heap.IsTupleIter j a i) (g1 : s.heap.IsTuple a us) (ex : us[i]? = none)
    (q : ∀ h' e, Heap.ExtBut j s.heap h' → (∃ o, h'.get? e = some o ∧ o.cls = .type "StopIteration") → E (.ref e) { s with heap := h' }) : wpAny (model P w) A (Builtin.SmallTypes.nextOf (.ref j)) Q E s := by
  obtain ⟨o1, k1, k2, k3⟩ := id g0
  obtain ⟨o2, k4, _, n2, k5⟩ := g1
  unfold Builtin.SmallTypes.nextOf
  refine wpAny_bind (wpAny_callSpecial?_slot (name := Str.ofString "__next__") g0.typeIs F.slot_tuple_iterator_next (wpAny_call_entry F.slot_tuple_iterator_next g0.typeIs F.entry_tuple_iterator_next ?_ (F.args_tuple_iterator_next_1 _)))
  show wpAny _ _ (field (.ref j) 0 >>= _) _ _ s
  refine wpAny_bind (wpAny_field k1 k3 (x := .ref a) rfl ?_)
  show wpAny _ _ (if (Value.ref a == Value.none) = true then _ else _) _ _ s
  rw [if_neg (show ¬ ((Value.ref a == Value.none) = true) from Bool.false_ne_true)]
  show wpAny _ _ (field (.ref j) 1 >>= _) _ _ s
  refine wpAny_bind (wpAny_field k1 k3 (x := .int i 0) rfl (wpAny_bind (wpAny_seqItems k4 k5 ?_)))
  simp only [Int.toNat_natCast, ex]
  refine wpAny_bind (wpAny_rule (wpAny_bind (wpAny_setField k1 k3 (by simp) ?_)))
  refine stop_still (A := A.in1) (S.in1.mono fun e o' hh h => ?_) fun h' e k he => ?_
  · exact (Heap.SameBut.update ..).extBut _ _ (fun z => nj (by rw [← z]; exact hh)) h
  · exact q h' e (fun b o' nb h => k _ _ ((Heap.SameBut.update ..).extBut _ _ nb h)) he
theorem unpackItems_still {t : Addr} {items : Array Value} {Q : List Value → Shared → Prop} (S : Still A s.heap) (ht : IsTup s.heap t items)
    (q : ∀ h', Heap.ExtBut s.heap.objs.size s.heap h' → Q items.toList { s with heap := h' }) : wpAny (model P w) A (unpackItems (.ref t) items.size none) Q E s := by
  have hlt : t ≠ s.heap.objs.size := by obtain ⟨o, ho, _⟩ := ht; exact Nat.ne_of_lt (Heap.lt_size ho)
  unfold unpackItems
  refine wpAny_bind ?_
  unfold notIterableAtAll
  refine wpAny_bind (wpAny_specialOf ht.typeIs slot_tuple_iter.lookup (wpAny_pure ?_))
  simp only [Bool.false_eq_true, if_false]
  refine wpAny_bind (wpAny_holding (iter_tuple ht ?_))
  refine wpAny_bind (wpAny_holding (draw_tuple hlt items.size 0 _ _ ⟨_, Heap.get?_push_size _ rfl, rfl, rfl⟩ (ht.push _) (by omega) fun h₁ hit₁ hs₁ => ?_))
  rw [show List.take items.size (List.drop 0 items.toList) = items.toList from by rw [List.drop_zero]; exact List.take_of_length_le (by simp), if_neg (by simp)]
  have ht₁ : IsTup h₁ t items := (ht.push _).extBut hs₁.extBut hlt
  have nn := S.ne_new (Nat.le_refl _)
  have S1 : Still A h₁ := S.mono fun e o hh he => hs₁.extBut _ _ (fun z => nn (by rw [← z]; exact hh)) (Heap.get?_push_of_some _ he)
  refine wpAny_bind (wpAny_holding (tuple_end_still S1 nn hit₁ (show h₁.IsTuple t items from ht₁) (by simp) fun h₂ he₂ => ?_))
  simp only [Option.isSome_none, Bool.false_eq_true, if_false]
  exact wpAny_pure (q h₂ fun b o hb e => he₂ b o hb (hs₁.extBut b o hb (Heap.get?_push_of_some _ e)))
theorem assign_Tuple_still {env : Env} {elts : List Expr} {x1} {pos : Pos} {t : Addr} {items : Array Value} {Q : Unit → Shared → Prop} (S : Still A s.heap) (ht : IsTup s.heap t items)
    (hn : (assignEach elts env).length = items.size) (hstar : (assignEach elts env).findIdx? (·.1) = none)
    (h : ∀ h', Heap.ExtBut s.heap.objs.size s.heap h' → wpAny (model P w) A (assignInOrder ((assignEach elts env).map (·.2)) items.toList) Q E { s with heap := h' }) :
    wpAny (model P w) A (assign (.Tuple elts x1 pos) env (.ref t)) Q E s := by
  rw [assign_Tuple]
  refine wpAny_bind (wpAny_standAt ?_)
  unfold unpack
  rw [hn, hstar]
  exact wpAny_bind (wpAny_holding (unpackItems_still S ht h))
end
theorem walks_list_still {P : Program} {w : World} {A : Around} {e : Addr} {o : Obj} {vs : Array Value} (hh : A.handled = some (.ref e)) (hd : o.data = .fields vs) (h2 : vs[2]? = some .none) (I ax : Addr) (hne : ax ≠ I) (nI : e ≠ I) (items : Array Value) :
    Walks P w A I [I, ax, e] [I] items.size (fun i v => items[i]? = some v) (fun i h => h.IsListIter I ax i ∧ h.IsList ax items ∧ h.get? e = some o) where
  sub := fun b hb => by simp at hb; simp [hb]
  frame := fun _ _ _ st hk => ⟨st.1.at fun o e => hk I (by simp) o e, st.2.1.at fun o e => hk ax (by simp) o e, hk e (by simp) _ st.2.2⟩
  item := fun i s Q E hi st q => by
    refine wpAny_pyNext_list_item st.1 st.2.1 (x := items[i]) (by simp [hi]) fun h' hit' hs' => ?_
    exact q _ h' s.toks (by simp [hi]) ⟨hit', st.2.1.extBut hs'.extBut hne, hs'.extBut _ _ nI st.2.2⟩ fun b o hb e => hs'.extBut b o (fun h => hb (by simp [h])) e
  done := fun s Q E st q => list_end_still (.inr ⟨e, o, vs, hh, st.2.2, hd, h2⟩) (by rw [hh]; intro c; cases c; exact nI rfl) st.1 st.2.1 (by simp) fun h' he' => q h' s.toks fun b o hb e => he' b o (fun h => hb (by simp [h])) e
  self := fun _ _ _ _ st q => wpAny_pyIter_listiter st.1 q
theorem walks_list_any {P : Program} {w : World} {A : Around} {h0 : Heap} (S : Still A h0) (I ax : Addr) (hne : ax ≠ I) (nI : A.handled ≠ some (.ref I)) (items : Array Value) :
    ∃ (fp : List Addr) (st : Nat → Heap → Prop), Walks P w A I fp [I] items.size (fun i v => items[i]? = some v) st ∧ (∀ h, h.IsListIter I ax 0 → h.IsList ax items → (∀ b o, h0.get? b = some o → h.get? b = some o) → st 0 h) ∧
      ∀ b ∈ fp, b = I ∨ b = ax ∨ ∃ o, h0.get? b = some o := by
  rcases S with z | ⟨e, o, vs, hh, he, hd, h2⟩
  · exact ⟨_, _, Walks.list z I ax hne items, fun h a b _ => ⟨a, b⟩, fun b hb => by
      have : b = I ∨ b = ax := by simpa using hb
      rcases this with r | r
      · exact .inl r
      · exact .inr (.inl r)⟩
  · refine ⟨_, _, walks_list_still hh hd h2 I ax hne (fun z => nI (by rw [hh, z])) items, fun h a b k => ⟨a, b, k _ _ he⟩, fun b hb => ?_⟩
    have : b = I ∨ b = ax ∨ b = e := by simpa using hb
    rcases this with r | r | r
    · exact .inl r
    · exact .inr (.inl r)
    · exact .inr (.inr ⟨o, by rw [r]; exact he⟩)
theorem range_item_still {P : Program} {w : World} {A : Around} {E : Value → Shared → Prop} {s : Shared} {it : Addr} {a c : Int} {n i : Nat} {Q : Option Value → Shared → Prop} (hi : i < n) (st : IsRangeIter s.heap it (a + (i : Nat) * c) ((n : Int) - (i : Nat)) c)
    (q : ∀ v h' tk, (∃ t, v = .int (a + (i : Nat) * c) t) → IsRangeIter h' it (a + ((i + 1 : Nat) : Int) * c) ((n : Int) - ((i + 1 : Nat) : Int)) c → (∀ b o, b ∉ [it] → s.heap.get? b = some o → h'.get? b = some o) → Q (some v) { s with heap := h', toks := tk }) :
    wpAny (model P w) A (pyNext (.ref it)) Q E s := by
  refine wpAny_pyNext_range_item st (by omega) fun h1 it1 s1 => ?_
  refine q _ h1 _ ⟨_, rfl⟩ ?_ fun b o nb x => s1.extBut b o (fun z => nb (by simp [z])) x
  have e1 : a + ((i + 1 : Nat) : Int) * c = a + (i : Int) * c + c := by push_cast; rw [Int.add_mul, Int.one_mul, Int.add_assoc]
  have e2 : (n : Int) - ((i + 1 : Nat) : Int) = (n : Int) - (i : Int) - 1 := by push_cast; omega
  rw [e1, e2]
  exact it1
end L2

namespace L2
open PySem PySem.Spec PyProof.Rows

abbrev Key := Sum Int Str
def keyIs : Key → Value → Bool
  | .inl k, v => Value.isInt k v
  | .inr x, v => Value.isStrOf x v
def keyH (w : World) : Key → Int
  | .inl k => hashInt k
  | .inr x => hashStr w x
theorem keyIs_shape : ∀ {k : Key} {v : Value}, keyIs k v = true → (∃ i t, k = Sum.inl i ∧ v = Value.int i t) ∨ (∃ x t, k = Sum.inr x ∧ v = Value.str x t)
  | .inl i, v, h => by
    obtain ⟨t, e⟩ := Value.isInt_shape (k := i) (v := v) h
    exact .inl ⟨i, t, rfl, e⟩
  | .inr x, v, h => by
    obtain ⟨t, e⟩ := Value.isStrOf_shape (x := x) (v := v) h
    exact .inr ⟨x, t, rfl, e⟩
theorem key_ll (a b : Int) : decide ((Sum.inl a : Key) = Sum.inl b) = (a == b) := by
  by_cases e : a = b
  · subst e; simp
  · have h : ¬ (Sum.inl a : Key) = Sum.inl b := fun q => e (Sum.inl.inj q)
    rw [decide_eq_false h]
    exact (beq_eq_false_iff_ne.mpr e).symm
theorem key_rr (a b : Str) : decide ((Sum.inr a : Key) = Sum.inr b) = decide (a = b) := by
  by_cases e : a = b
  · subst e; simp
  · have h : ¬ (Sum.inr a : Key) = Sum.inr b := fun q => e (Sum.inr.inj q)
    rw [decide_eq_false h, decide_eq_false e]
theorem key_lr (a : Int) (b : Str) : decide ((Sum.inl a : Key) = Sum.inr b) = false := decide_eq_false (fun q => nomatch q)
theorem key_rl (a : Str) (b : Int) : decide ((Sum.inr a : Key) = Sum.inl b) = false := decide_eq_false (fun q => nomatch q)

def mixKind (prog : Program) (w : World) : PySem.KeyKind prog w Key where
  is := keyIs
  hash := keyH w
  inj := fun v a b ha hb => by
    rcases keyIs_shape ha with ⟨i, t, rfl, rfl⟩ | ⟨x, t, rfl, rfl⟩
    · rcases keyIs_shape hb with ⟨j, u, rfl, e⟩ | ⟨y, u, rfl, e⟩
      · injection e with e1 _; rw [e1]
      · exact nomatch e
    · rcases keyIs_shape hb with ⟨j, u, rfl, e⟩ | ⟨y, u, rfl, e⟩
      · exact nomatch e
      · injection e with e1 _; rw [e1]
  byValue := fun k v h => by
    rcases keyIs_shape h with ⟨i, t, rfl, rfl⟩ | ⟨x, t, rfl, rfl⟩ <;> rfl
  pyHash := fun hv h => by
    rcases keyIs_shape hv with ⟨i, t, rfl, rfl⟩ | ⟨x, t, rfl, rfl⟩
    · exact wpAny_pyHash_int h
    · exact wpAny_pyHash_str h
  eqBool := fun hu hv h => by
    rcases keyIs_shape hu with ⟨i, t, rfl, rfl⟩ | ⟨x, t, rfl, rfl⟩
    · rcases keyIs_shape hv with ⟨j, u, rfl, rfl⟩ | ⟨y, u, rfl, rfl⟩
      · rw [key_ll] at h; exact wpAny_eqBool_int h
      · rw [key_lr] at h; exact SeqAt.EqAt.int_str i t y u _ _ _ _ h
    · rcases keyIs_shape hv with ⟨j, u, rfl, rfl⟩ | ⟨y, u, rfl, rfl⟩
      · rw [key_rl] at h; exact SeqAt.EqAt.str_int x t j u _ _ _ _ h
      · rw [key_rr] at h; exact wpAny_eqBool_str h
  «strs» := fun k x t v h => by
    rcases keyIs_shape h with ⟨i, u, rfl, e⟩ | ⟨y, u, rfl, e⟩
    · exact nomatch e
    · injection e with e1 _
      subst e1
      cases v <;> rfl

end L2

namespace L2
open PySem PySem.Spec PyProof.Rows

inductive V where
  | non | bl (b : Bool) | int (i : Int) | str (x : Str) | byt (b : Array UInt8) | flt (b : UInt64) | ref (a : Addr) | ty (n : String)
  deriving DecidableEq

def RelV : V → Value → Prop
  | .non, u => u = Value.none
  | .bl b, u => u = Value.bool b
  | .int i, u => ∃ t, u = Value.int i t
  | .str x, u => ∃ t, u = Value.str x t
  | .byt b, u => ∃ t, u = Value.bytes b t
  | .flt b, u => ∃ t, u = Value.float b t
  | .ref a, u => u = Value.ref a
  | .ty n, u => u = Value.type n

abbrev Vals : List V → List Value → Prop := Paired RelV
theorem Vals.length {xs : List V} {us : List Value} (r : Vals xs us) : xs.length = us.length := Paired.length r
theorem Vals.get : ∀ {xs : List V} {us : List Value} {i : Nat} {x : V}, Vals xs us → xs[i]? = some x → ∃ u, us[i]? = some u ∧ RelV x u
  | _, _, _, _, .nil, e => by simp at e
  | _, _, 0, _, .cons r _, e => by simp at e; subst e; exact ⟨_, rfl, r⟩
  | _, _, i + 1, x, .cons _ t, e => by
    obtain ⟨u, h1, h2⟩ := Vals.get (i := i) (x := x) t (by simpa using e)
    exact ⟨u, by simpa using h1, h2⟩
theorem Vals.append : ∀ {xs ys : List V} {us ws : List Value}, Vals xs us → Vals ys ws → Vals (xs ++ ys) (us ++ ws)
  | _, _, _, _, .nil, s => s
  | _, _, _, _, .cons r t, s => .cons r (Vals.append t s)
theorem Vals.take : ∀ {xs : List V} {us : List Value} (n : Nat), Vals xs us → Vals (xs.take n) (us.take n)
  | _, _, 0, _ => .nil
  | _, _, _ + 1, .nil => .nil
  | _, _, n + 1, .cons r t => .cons r (Vals.take n t)
theorem Vals.drop : ∀ {xs : List V} {us : List Value} (n : Nat), Vals xs us → Vals (xs.drop n) (us.drop n)
  | _, _, 0, r => r
  | _, _, _ + 1, .nil => .nil
  | _, _, n + 1, .cons _ t => Vals.drop n t
theorem Vals.none_of : ∀ {xs : List V} {us : List Value} {i : Nat}, Vals xs us → xs[i]? = none → us[i]? = none := fun {xs us i} r e => by
  have h1 := r.length
  have h2 : xs.length ≤ i := List.getElem?_eq_none_iff.mp e
  exact List.getElem?_eq_none_iff.mpr (by omega)

def RelO : Option V → Option Value → Prop
  | some v, some u => RelV v u
  | none, none => True
  | _, _ => False
def KV {κ : Type} : List (κ × V) → List (κ × Value) → Prop := Paired fun (p : κ × V) (q : κ × Value) => p.1 = q.1 ∧ RelV p.2 q.2

def kV : Key → V
  | .inl i => .int i
  | .inr x => .str x

inductive HO where
  /-- a list -/
  | lst (xs : List V)
  /-- a tuple (never changes) -/
  | tup (xs : List V)
  /-- a dict whose keys are ints and texts; one whose keys are tuples of ints and texts (the empty one is both) -/
  | dK (kvs : List (Key × V)) | dT (kvs : List (List Key × V))
  /-- a set of ints: its members, its size -/
  | set (S : Int → Bool) (n : Nat)
  /-- an instance of the class at C, its dict at dx, its attributes -/
  | ins (C dx : Addr) (fs : List (Str × V))
  /-- the dict of the instance at x -/
  | own (x : Addr)
  /-- the dict of an exception -/
  | xd (fs : List (Str × V))
  /-- a bound method, f of x -/
  | met (f x : Addr)
  /-- a range object lo, lo + 1, .. below hi -/
  | rng (lo hi : Int)
  /-- a thing that is known to the object (the script; a dict while a loop walks it): read, never written while it is so -/
  | frz (o : Obj) (u : HO)
  /-- a code object's table -/
  | tbl (ps : Array Value)
  /-- any other thing, by what is true of its one object (a def of one's own: SetO a S n := HO.ext fun h => ..) -/
  | ext (φ : Heap → Prop)

abbrev Hp := Addr → Option HO
def upd (H : Hp) (a : Addr) (o : HO) : Hp := fun b => if b = a then some o else H b
theorem upd_same {H : Hp} {a : Addr} {o : HO} : upd H a o a = some o := by unfold upd; rw [if_pos rfl]
theorem upd_ne {H : Hp} {a b : Addr} {o : HO} (h : b ≠ a) : upd H a o b = H b := by unfold upd; rw [if_neg h]
theorem ne_of_none {H : Hp} {a b : Addr} {o : HO} (h : H a = some o) (h' : H b = none) : a ≠ b := by
  intro e; subst e; rw [h] at h'; cases h'

section
variable (P : Program) (w : World)
def ObjOk (H : Hp) (h : Heap) (a : Addr) : HO → Prop
  | .lst xs => xs.length ≤ sizeLine ∧ ∃ (its : List Value) (n : Nat), Vals xs its ∧ h.get? a = some { cls := .type "list", data := .seq its.toArray n }
  | .tup xs => xs.length ≤ sizeLine ∧ ∃ its : List Value, Vals xs its ∧ IsTup h a its.toArray
  | .dK kvs => kvs.length ≤ sizeLine ∧ (a == sysModules) = false ∧ ∃ vs, KV kvs vs ∧ h.DictOf (mixKind P w) a vs
  | .dT kvs => kvs.length ≤ sizeLine ∧ (a == sysModules) = false ∧ ∃ xs : List (List Key × Addr × Value),
      Paired (fun (p : List Key × V) (q : List Key × Addr × Value) => p.1 = q.1 ∧ H q.2.1 = some (.tup (p.1.map kV)) ∧ RelV p.2 q.2.2) kvs xs ∧
      ∃ o es ep, h.get? a = some o ∧ o.ExactDict ∧ o.data = .dict es ep ∧ es.toList = xs.map (entryOfKey (tupleKind (mixKind P w))) ∧ (xs.map (·.1)).Nodup
  | .set S n => h.SetOf (intKind P w) a S n
  | .ins C dx fs => H dx = some (.own a) ∧ fs.length ≤ 1000 ∧ dx ≠ a ∧ h.get? a = some (PySem.W.instObj C dx) ∧
      ∃ mA, h.Ns1 dx mA ∧ (∀ f, RelO (fs.lookup f) (mA f)) ∧ PySem.Within mA (fs.map (·.1))
  | .own _ => ∃ o, h.get? a = some o
  | .xd fs => ∃ mA, h.Ns1 a mA ∧ ∀ f, RelO (fs.lookup f) (mA f)
  | .rng lo hi => ∃ t u v, h.get? a = some { cls := .type "range", data := .fields #[.int lo t, .int hi u, .int 1 v] }
  | .frz o u => h.get? a = some o ∧ ObjOk H h a u
  | .tbl ps => h.get? a = some { cls := .none, data := .fields ps }
  | .met f x => h.get? a = some (PySem.W.methodObj (.ref f) (.ref x))
  | .ext φ => φ h ∧ (∃ o, h.get? a = some o) ∧ ∀ h1 h2 : Heap, φ h1 → (∀ o, h1.get? a = some o → h2.get? a = some o) → φ h2
def HOk (H : Hp) (h : Heap) : Prop := ∀ a o, H a = some o → ObjOk P w H h a o
end

section
variable {P : Program} {w : World} {H H' : Hp} {h h' : Heap} {a : Addr} {o : HO}
theorem ObjOk.lt (x : ObjOk P w H h a o) : a < h.objs.size := by
  cases o with
  | lst xs => obtain ⟨_, _, _, _, e⟩ := x; exact Heap.lt_size e
  | tup xs => obtain ⟨_, _, _, p⟩ := x; exact p.lt
  | dK kvs => obtain ⟨_, _, _, _, o, _, _, e, _⟩ := x; exact Heap.lt_size e
  | dT kvs => obtain ⟨_, _, _, _, o, _, _, e, _⟩ := x; exact Heap.lt_size e
  | set S n => obtain ⟨o, _, _, _, e, _⟩ := x; exact Heap.lt_size e
  | ins C dx fs => obtain ⟨_, _, _, e, _⟩ := x; exact Heap.lt_size e
  | own y => obtain ⟨_, e⟩ := x; exact Heap.lt_size e
  | xd fs => obtain ⟨_, ⟨_, _, _, e, _⟩, _⟩ := x; exact Heap.lt_size e
  | rng lo hi => obtain ⟨_, _, _, e⟩ := x; exact Heap.lt_size e
  | frz ob u => obtain ⟨e, _⟩ := x; exact Heap.lt_size e
  | tbl ps => exact Heap.lt_size (show h.get? a = some _ from x)
  | met f y => exact Heap.lt_size (show h.get? a = some _ from x)
  | ext φ => obtain ⟨_, ⟨_, e⟩, _⟩ := x; exact Heap.lt_size e
theorem Paired.mapP {α β : Type} {F G : α → β → Prop} : ∀ {l₁ : List α} {l₂ : List β}, Paired F l₁ l₂ → (∀ a b, F a b → G a b) → Paired G l₁ l₂
  | _, _, .nil, _ => .nil
  | _, _, .cons r t, f => .cons (f _ _ r) (Paired.mapP t f)
theorem ObjOk.stay (x : ObjOk P w H h a o) (k : ∀ b u, (b = a ∨ H b = some (.own a)) → h.get? b = some u → h'.get? b = some u)
    (ho : ∀ b, H b = some (.own a) → H' b = some (.own a)) (ht : ∀ b xs, H b = some (.tup xs) → H' b = some (.tup xs)) : ObjOk P w H' h' a o := by
  induction o with
  | lst xs => obtain ⟨z, its, n, r, e⟩ := x; exact ⟨z, its, n, r, k _ _ (.inl rfl) e⟩
  | tup xs => obtain ⟨z, its, r, ob, e, c⟩ := x; exact ⟨z, its, r, ob, k _ _ (.inl rfl) e, c⟩
  | dK kvs => obtain ⟨z, y, vs, r, ob, es, ep, e, c⟩ := x; exact ⟨z, y, vs, r, ob, es, ep, k _ _ (.inl rfl) e, c⟩
  | dT kvs =>
    obtain ⟨z, y, xs, r, ob, es, ep, e, c⟩ := x
    exact ⟨z, y, xs, Paired.mapP r fun p q z => ⟨z.1, ht _ _ z.2.1, z.2.2⟩, ob, es, ep, k _ _ (.inl rfl) e, c⟩
  | set S n => obtain ⟨ob, es, ep, t, e, c⟩ := x; exact ⟨ob, es, ep, t, k _ _ (.inl rfl) e, c⟩
  | ins C dx fs =>
    obtain ⟨d, z, ne, e, mA, ⟨od, es, ep, e2, c⟩, r⟩ := x
    exact ⟨ho _ d, z, ne, k _ _ (.inl rfl) e, mA, ⟨od, es, ep, k _ _ (.inr d) e2, c⟩, r⟩
  | own y => obtain ⟨ob, e⟩ := x; exact ⟨ob, k _ _ (.inl rfl) e⟩
  | xd fs => obtain ⟨mA, ⟨od, es, ep, e, c⟩, r⟩ := x; exact ⟨mA, ⟨od, es, ep, k _ _ (.inl rfl) e, c⟩, r⟩
  | rng lo hi => obtain ⟨t, u, v, e⟩ := x; exact ⟨t, u, v, k _ _ (.inl rfl) e⟩
  | frz ob u ih => obtain ⟨e, q⟩ := x; exact ⟨k _ _ (.inl rfl) e, ih q⟩
  | tbl ps =>
    have e : h.get? a = some { cls := .none, data := .fields ps } := x
    show h'.get? a = some { cls := .none, data := .fields ps }
    exact k a _ (.inl rfl) e
  | met f y =>
    have e : h.get? a = some (PySem.W.methodObj (.ref f) (.ref y)) := x
    show h'.get? a = some (PySem.W.methodObj (.ref f) (.ref y))
    exact k a _ (.inl rfl) e
  | ext φ => obtain ⟨p, ⟨o, e⟩, st⟩ := x; exact ⟨st _ _ p fun o q => k _ _ (.inl rfl) q, ⟨o, k _ _ (.inl rfl) e⟩, st⟩
theorem HOk.lt (x : HOk P w H h) (e : H a = some o) : a < h.objs.size := (x a o e).lt
theorem HOk.fresh (x : HOk P w H h) (e : h.objs.size ≤ a) : H a = none := by
  cases q : H a with
  | none => rfl
  | some u => exact absurd (Nat.lt_of_lt_of_le (x.lt q) e) (Nat.lt_irrefl _)
theorem HOk.kept (x : HOk P w H h) (k : ∀ b u, h.get? b = some u → h'.get? b = some u) : HOk P w H h' := fun a o e =>
  (x a o e).stay (fun b u _ q => k b u q) (fun _ q => q) fun _ _ q => q
theorem HOk.laid (x : HOk P w H h) (k : ∀ b u, h.get? b = some u → h'.get? b = some u) (hp : h.objs.size ≤ a) (new : ObjOk P w (upd H a o) h' a o) : HOk P w (upd H a o) h' := fun b u e => by
  have hn := x.fresh hp
  by_cases hb : b = a
  · subst hb; rw [upd_same] at e; cases e; exact new
  · rw [upd_ne hb] at e
    exact (x b u e).stay (fun c v _ q => k c v q) (fun c q => by rw [upd_ne (ne_of_none q hn)]; exact q) fun c xs q => by rw [upd_ne (ne_of_none q hn)]; exact q
end

def Rd (H : Hp) (a : Addr) (u : HO) : Prop := H a = some u ∨ ∃ o, H a = some (.frz o u)
theorem Rd.ok {P : Program} {w : World} {H : Hp} {h : Heap} {a : Addr} {u : HO} (r : Rd H a u) (x : HOk P w H h) : ObjOk P w H h a u := by
  rcases r with r | ⟨o, r⟩
  · exact x a u r
  · obtain ⟨_, q⟩ := x a _ r
    exact q
def Mut : Option HO → Prop
  | some (.lst _) => True
  | some (.dK _) => True
  | some (.dT _) => True
  | some (.set _ _) => True
  | some (.ins _ _ _) => True
  | some (.ext _) => True
  | _ => False
section
variable {P : Program} {w : World} {H : Hp} {h h' : Heap} {x e : Addr} {o' : HO}
theorem HOk.write (ok : HOk P w H h) (mu : Mut (H x)) (he : e = x ∨ H e = some (.own x)) (k : ∀ b u, b ≠ e → h.get? b = some u → h'.get? b = some u) (heo : ∃ u, h'.get? e = some u)
    (new : ObjOk P w (upd H x o') h' x o') : HOk P w (upd H x o') h' := fun b u q => by
  have nown : ∀ c y, H c = some (.own y) → c ≠ x := fun c y r z => by subst z; rw [r] at mu; exact mu
  have ntup : ∀ c xs, H c = some (.tup xs) → c ≠ x := fun c xs r z => by subst z; rw [r] at mu; exact mu
  by_cases hb : b = x
  · subst hb; rw [upd_same] at q; cases q; exact new
  · rw [upd_ne hb] at q
    by_cases hbe : b = e
    · have q' : H b = some (.own x) := by
        rcases he with z | z
        · exact absurd (hbe.trans z) hb
        · rw [hbe]; exact z
      rw [q] at q'; cases q'
      obtain ⟨v, hv⟩ := heo
      exact ⟨v, by rw [hbe]; exact hv⟩
    · refine (ok b u q).stay (fun c v hc r => k c v ?_ r) (fun c r => by rw [upd_ne (nown c b r)]; exact r) fun c xs r => by rw [upd_ne (ntup c xs r)]; exact r
      rcases hc with rfl | hc
      · exact hbe
      · rintro rfl
        rcases he with z | z
        · exact nown c b hc z
        · rw [hc] at z; cases z; exact hb rfl
end

structure Un (fs ex : List Addr) (H H' : Hp) (h h' : Heap) : Prop where
  keep : ∀ b o, h.get? b = some o → H b = none → b ∉ fs → b ∉ ex → h'.get? b = some o
  slot : ∀ b o, h.get? b = some o → H b = none → b ∈ fs → b ∉ ex → ∃ sl, h'.get? b = some { o with slots := sl }
  free : ∀ b o, h.get? b = some o → H b = none → b ∉ ex → H' b = none
  there : ∀ b o, h.get? b = some o → b ∉ ex → ∃ o', h'.get? b = some o'
  tups : ∀ b xs, H b = some (.tup xs) → H' b = some (.tup xs)
  frzs : ∀ b o u, H b = some (.frz o u) → H' b = some (.frz o u)
  tbls : ∀ b ps, H b = some (.tbl ps) → ∃ more, H' b = some (.tbl (ps ++ more))
section
variable {fs fs' ex ex' : List Addr} {H H1 H2 : Hp} {h h1 h2 h' : Heap} {a x e : Addr} {o : HO}
theorem Un.any (u : Un fs ex H H1 h h1) {b : Addr} {ob : Obj} (q : h.get? b = some ob) (n : H b = none) (hx : b ∉ ex) : ∃ sl, h1.get? b = some { ob with slots := sl } := by
  by_cases hb : b ∈ fs
  · exact u.slot b ob q n hb hx
  · exact ⟨ob.slots, u.keep b ob q n hb hx⟩
theorem Un.kept (k : ∀ b u, h.get? b = some u → h'.get? b = some u) : Un fs ex H H h h' :=
  ⟨fun b ob q _ _ _ => k b ob q, fun b ob q _ _ _ => ⟨ob.slots, k b ob q⟩, fun _ _ _ n _ => n, fun b ob q _ => ⟨ob, k b ob q⟩, fun _ _ q => q, fun _ _ _ q => q, fun _ ps q => ⟨#[], by rw [q]; simp⟩⟩
theorem Un.refl : Un fs ex H H h h := Un.kept fun _ _ q => q
theorem Un.laid (k : ∀ b u, h.get? b = some u → h'.get? b = some u) (hp : h.objs.size ≤ a) (hn : H a = none) : Un fs ex H (upd H a o) h h' where
  keep := fun b u q _ _ _ => k b u q
  slot := fun b u q _ _ _ => ⟨u.slots, k b u q⟩
  free := fun b u q n _ => by rw [upd_ne (Nat.ne_of_lt (Nat.lt_of_lt_of_le (Heap.lt_size q) hp))]; exact n
  there := fun b u q _ => ⟨u, k b u q⟩
  tups := fun b xs q => by rw [upd_ne (ne_of_none q hn)]; exact q
  frzs := fun b u xs q => by rw [upd_ne (ne_of_none q hn)]; exact q
  tbls := fun b ps q => ⟨#[], by rw [upd_ne (ne_of_none q hn), q]; simp⟩
theorem Un.write (mu : Mut (H x)) (he : e = x ∨ H e = some (.own x)) (k : ∀ b u, b ≠ e → h.get? b = some u → h'.get? b = some u) (heo : ∃ u, h'.get? e = some u) : Un fs ex H (upd H x o) h h' := by
  have hx : ∀ b, H b = none → b ≠ x := fun b n z => by subst z; rw [n] at mu; exact mu
  have hb : ∀ b, H b = none → b ≠ e := fun b n z => by
    subst z
    rcases he with r | r
    · exact hx b n r
    · rw [n] at r; cases r
  have hm : ∀ b u, H b = some u → ¬ Mut (some u) → b ≠ x := fun b u q nm z => by subst z; rw [q] at mu; exact nm mu
  refine ⟨fun b u q n _ _ => k b u (hb b n) q, fun b u q n _ _ => ⟨u.slots, k b u (hb b n) q⟩, fun b u q n _ => by rw [upd_ne (hx b n)]; exact n, fun b u q _ => ?_,
    fun b xs q => by rw [upd_ne (hm b _ q fun z => z)]; exact q, fun b u xs q => by rw [upd_ne (hm b _ q fun z => z)]; exact q, fun b ps q => ⟨#[], by rw [upd_ne (hm b _ q fun z => z), q]; simp⟩⟩
  by_cases hbe : b = e
  · subst hbe; exact heo
  · exact ⟨u, k b u hbe q⟩
end

def trk (h : Heap) (H : Hp) : List Addr := (List.range h.objs.size).filter fun a => (H a).isSome
def hidT (h : Heap) (H : Hp) : Heap := PySem.W.hideAll h (trk h H)
theorem hidT_size (h : Heap) (H : Hp) : (hidT h H).objs.size = h.objs.size := PySem.W.hideAll_size _ _
theorem hidT_get {h : Heap} {H : Hp} {b : Addr} {o : Obj} (e : h.get? b = some o) (n : H b = none) : (hidT h H).get? b = some o :=
  PySem.W.hideAll_get _ e fun hm => by
    have q : (H b).isSome = true := (List.mem_filter.mp hm).2
    rw [n] at q; simp at q
theorem of_hidT {h : Heap} {H : Hp} {b : Addr} {o : Obj} (e : (hidT h H).get? b = some o) : h.get? b = some o ∧ H b = none := by
  have e' : h.get? b = some o := PySem.W.of_hideAll (trk h H) e
  refine ⟨e', ?_⟩
  cases q : H b with
  | none => rfl
  | some x =>
    have hm : b ∈ trk h H := List.mem_filter.mpr ⟨List.mem_range.mpr (Heap.lt_size e'), by simp [q]⟩
    have z : (hidT h H).get? b = none := PySem.W.hideAll_none (trk h H) hm
    rw [z] at e; cases e

def allNews (g h : Heap) (L : Addr) : List (Addr × Obj) := (List.range h.objs.size).filterMap fun a => if a = L ∨ (g.get? a).isSome = true then none else (h.get? a).map fun o => (a, o)
def rest (g h : Heap) (L d : Addr) : List (Addr × Obj) := (allNews g h L).filter fun p => decide (p.1 ≠ d)
end L2

namespace L2
open PySem PySem.Spec PyProof.Rows

structure Mod (K : PySem.W.Frag) (mg : Str → Option Value) (base : Heap) : Prop where
  kin : K.In base
  glob : base.Ns mainGlobals mg
  blt : ∃ mb, base.Ns builtinsNs mb ∧ ∀ x : Str, x ≠ "__name__" → mb x = bootBuiltins x
  nolimit : base.NoLimit

structure Cx where
  prog : Program
  w : World
  K : PySem.W.Frag
  mg : Str → Option Value
  base : Heap
  A : Around
  N : List Str
  s₀ : Shared
  H₀ : Hp
  env : Env
  outer : List Env
  stack : List Env
  ex : List Addr
  fn : Str → Bool
  calm : Bool
  still : Bool
  fz : List (Addr × Obj × HO)
  pn : List (Addr × Obj)
  xe : Value → Shared → Prop
def frs (l : List Env) : List Addr := l.filterMap (·.frame)
abbrev Cx.fs (X : Cx) : List Addr := frs X.outer

def Vis (sc : Scope) (x : Str) : Prop := sc.names.lookup x = some .local ∨ sc.names.lookup x = some .cell ∨ sc.names.lookup x = some .free
def Loc (sc : Scope) (x : Str) : Prop := sc.names.lookup x = some .local ∨ sc.names.lookup x = some .cell
def Look (env : Env) (h : Heap) (m : Str → Option Value) (x : Str) (u : Value) : Prop :=
  (env.kindOf x = some .local ∧ m x = some u) ∨ ((env.kindOf x = some .cell ∨ env.kindOf x = some .free) ∧ ∃ c, env.cells.lookup x = some c ∧ h.IsCell c (some u))

structure Cx.Ok (X : Cx) : Prop where
  mod : Mod X.K X.mg X.base
  kind : X.env.scope.kind = .function
  glob : X.env.globals = mainGlobals
  blt : X.env.builtins = builtinsNs
  above : X.s₀.heap.objs.size ≤ X.env.locals
  inj : ∀ x y c, X.env.cells.lookup x = some c → X.env.cells.lookup y = some c → x = y
  has : ∀ x, (X.env.kindOf x = some .cell ∨ X.env.kindOf x = some .free) → ∃ c, X.env.cells.lookup x = some c
  cab : ∀ x c, X.fn x = true → X.env.cells.lookup x = some c → X.s₀.heap.objs.size ≤ c
  hd : X.calm = true → X.A.handled = none
  hs : X.still = true → X.A.handled = none ∨ ∃ e o u vs, X.A.handled = some (.ref e) ∧ (e, o, u) ∈ X.fz ∧ o.data = .fields vs ∧ vs[2]? = some .none
  frames : X.A.frames = some X.stack
  stk : X.stack = X.outer ∨ (X.stack = X.env :: X.outer ∧ X.env.frame = some X.env.locals)
  exf : ∀ b ∈ X.ex, b ≠ X.env.locals ∧ ∀ x c, X.env.cells.lookup x = some c → c ≠ b
  bs : ∀ b o, X.base.get? b = some o → X.s₀.heap.get? b = some o ∧ X.H₀ b = none
  bsz : X.base.objs.size ≤ X.s₀.heap.objs.size
  noex : ∀ b o, X.base.get? b = some o → b ∉ X.ex
  exfs : ∀ b ∈ X.ex, b ∉ X.fs
  funs : X.s₀.heap.FunFrames X.base X.outer
  frf : ∀ b ∈ X.fs, X.H₀ b = none

structure Inv (X : Cx) (pins : List (Addr × Obj)) (σ : List (Option V)) (H : Hp) (s : Shared) : Prop where
  ok : X.Ok
  fzs : ∀ p ∈ X.fz, H p.1 = some (.frz p.2.1 p.2.2)
  os : s.os = X.s₀.os
  bare : AllBare s.gens
  base : Un X.fs X.ex X.H₀ H X.s₀.heap s.heap
  loc : ∃ m, s.heap.Ns X.env.locals m ∧ ∀ (i : Nat) (x : Str) (v : V), X.N[i]? = some x → σ[i]? = some (some v) → Vis X.env.scope x → ∃ u, RelV v u ∧ Look X.env s.heap m x u
  cell : ∀ x c, X.env.cells.lookup x = some c → ∃ v, s.heap.IsCell c v
  free : H X.env.locals = none
  freeC : ∀ x c, X.env.cells.lookup x = some c → H c = none
  pin : ∀ p ∈ X.pn ++ pins, s.heap.get? p.1 = some p.2 ∧ H p.1 = none ∧ p.1 ≠ X.env.locals ∧ p.1 ∉ X.fs ∧ ∀ v, p.2.data ≠ .cell v
  hok : HOk X.prog X.w H s.heap
  len : σ.length = X.N.length

section
variable {X : Cx} {pins : List (Addr × Obj)} {σ : List (Option V)} {H H' : Hp} {s : Shared} {h' : Heap}

theorem Cx.Ok.nofr (ok : X.Ok) {b : Addr} {o : Obj} (e : X.base.get? b = some o) : b ∉ X.fs := fun hb => by
  have := (ok.funs.mem hb).1
  rw [e] at this; cases this
theorem Inv.bs (I : Inv X pins σ H s) : ∀ b o, X.base.get? b = some o → s.heap.get? b = some o ∧ H b = none := fun b o e =>
  ⟨I.base.keep b o (I.ok.bs b o e).1 (I.ok.bs b o e).2 (I.ok.nofr e) (I.ok.noex b o e), I.base.free b o (I.ok.bs b o e).1 (I.ok.bs b o e).2 (I.ok.noex b o e)⟩
theorem Inv.bk (I : Inv X pins σ H s) : ∀ b o, X.base.get? b = some o → s.heap.get? b = some o := fun b o e => (I.bs b o e).1
theorem Inv.mod (I : Inv X pins σ H s) : Mod X.K X.mg X.base := I.ok.mod
theorem Inv.kIn (I : Inv X pins σ H s) : X.K.In s.heap := I.ok.mod.kin.keeps I.bk
theorem Inv.lt (I : Inv X pins σ H s) : X.env.locals < s.heap.objs.size := let ⟨_, hn, _⟩ := I.loc; hn.lt
theorem Inv.sz (I : Inv X pins σ H s) : X.s₀.heap.objs.size ≤ s.heap.objs.size := Nat.le_trans I.ok.above (Nat.le_of_lt I.lt)
theorem Inv.nofs (I : Inv X pins σ H s) {a : Addr} (h : s.heap.objs.size ≤ a) : a ∉ X.fs := fun hb => by
  obtain ⟨_, o, ho, _⟩ := I.ok.funs.mem hb
  exact absurd (Nat.lt_of_lt_of_le (Heap.lt_size ho) (Nat.le_trans I.sz h)) (Nat.lt_irrefl _)
theorem Inv.cne (I : Inv X pins σ H s) : ∀ x c, X.env.cells.lookup x = some c → c ≠ X.env.locals := fun x c e z => by
  obtain ⟨v, o, ho, hd⟩ := I.cell x c e
  obtain ⟨m, ⟨o', es, ep, ho', hd', _⟩, _⟩ := I.loc
  rw [z, ho'] at ho; cases ho; rw [hd'] at hd; cases hd
theorem Inv.funs (I : Inv X pins σ H s) : s.heap.FunFrames X.base X.outer := by
  have all : ∀ (l : List Env), (∀ b ∈ frs l, b ∈ X.fs) → X.s₀.heap.FunFrames X.base l → s.heap.FunFrames X.base l := by
    intro l
    induction l with
    | nil => intro _ _; trivial
    | cons env r ih =>
      intro hs hl
      obtain ⟨hk, ⟨L, o, hf, hn, ho, hd⟩, hr⟩ := hl
      have hL : L ∈ X.fs := hs L (by unfold frs; rw [List.filterMap_cons, hf]; exact List.mem_cons_self)
      obtain ⟨sl, e⟩ := I.base.slot L o ho (I.ok.frf L hL) hL fun z => I.ok.exfs L z hL
      exact ⟨hk, ⟨L, _, hf, hn, e, hd⟩, ih (fun b hb => hs b (by unfold frs; rw [List.filterMap_cons, hf]; exact List.mem_cons_of_mem _ hb)) hr⟩
  exact all X.outer (fun _ hb => hb) I.ok.funs

theorem Inv.stack (I : Inv X pins σ H s) : s.heap.FunFrames X.base X.stack := by
  rcases I.ok.stk with e | ⟨e, hf⟩
  · rw [e]; exact I.funs
  · rw [e]
    obtain ⟨m, hn, _⟩ := I.loc
    refine .cons (by rw [I.ok.kind]; decide) hf hn ?_ I.funs
    exact Heap.get?_none_of_le (Nat.le_trans I.ok.bsz I.ok.above)
theorem Inv.stkSub (I : Inv X pins σ H s) : ∀ b ∈ frs X.stack, b ∈ X.env.locals :: X.fs := fun b hb => by
  rcases I.ok.stk with e | ⟨e, hf⟩
  · rw [e] at hb; exact List.mem_cons_of_mem _ hb
  · rw [e] at hb
    unfold frs at hb
    rw [List.filterMap_cons, hf] at hb
    exact hb
theorem Inv.stkFree (I : Inv X pins σ H s) : ∀ b ∈ frs X.stack, H b = none := fun b hb => by
  rcases List.mem_cons.mp (I.stkSub b hb) with e | hb
  · rw [e]; exact I.free
  · obtain ⟨_, o, ho, _⟩ := I.ok.funs.mem hb
    exact I.base.free b o ho (I.ok.frf b hb) fun z => I.ok.exfs b z hb

theorem Inv.step {g' : Array GenState} {t' : Nat} {d' : Drawn} {ch : List Addr} (I : Inv X pins σ H s)
    (hch : ∀ b ∈ ch, (b ∈ X.ex ∨ X.s₀.heap.objs.size ≤ b) ∧ b ≠ X.env.locals ∧ (∀ x c, X.env.cells.lookup x = some c → c ≠ b) ∧ ∀ p ∈ X.pn ++ pins, p.1 ≠ b)
    (keep : ∀ b o, b ≠ X.env.locals → b ∉ X.fs → b ∉ ch → s.heap.get? b = some o → H b = none → h'.get? b = some o)
    (slot : ∀ b o, b ≠ X.env.locals → b ∈ X.fs → b ∉ ch → s.heap.get? b = some o → H b = none → ∃ sl, h'.get? b = some { o with slots := sl }) (free : ∀ b o, b ∉ ch → s.heap.get? b = some o → H b = none → H' b = none)
    (there : ∀ b o, b ∉ ch → s.heap.get? b = some o → ∃ o', h'.get? b = some o')
    (tups : ∀ b xs, H b = some (.tup xs) → H' b = some (.tup xs)) (frzs : ∀ b o u, H b = some (.frz o u) → H' b = some (.frz o u)) (tbls : ∀ b ps, H b = some (.tbl ps) → ∃ more, H' b = some (.tbl (ps ++ more)))
    (ns : ∀ m, s.heap.Ns X.env.locals m → h'.Ns X.env.locals m) (hok : HOk X.prog X.w H' h') (hg : AllBare g') :
    Inv X pins σ H' { s with heap := h', gens := g', drawn := d', toks := t' } := by
  have neL : ∀ b o, X.s₀.heap.get? b = some o → b ≠ X.env.locals := fun b o e => Nat.ne_of_lt (Nat.lt_of_lt_of_le (Heap.lt_size e) I.ok.above)
  have neC : ∀ b o, X.s₀.heap.get? b = some o → b ∉ X.ex → b ∉ ch := fun b o e hx hb => by
    rcases (hch b hb).1 with z | z
    · exact hx z
    · exact absurd (Nat.lt_of_lt_of_le (Heap.lt_size e) z) (Nat.lt_irrefl _)
  have cellK : ∀ x c, X.env.cells.lookup x = some c → ∀ v, s.heap.IsCell c v → h'.IsCell c v := fun x c e v ⟨o, ho, hd⟩ => by
    have nch : c ∉ ch := fun z => (hch c z).2.2.1 x c e rfl
    by_cases hc : c ∈ X.fs
    · obtain ⟨sl, q⟩ := slot c o (I.cne x c e) hc nch ho (I.freeC x c e)
      exact ⟨_, q, hd⟩
    · exact ⟨o, keep c o (I.cne x c e) hc nch ho (I.freeC x c e), hd⟩
  refine ⟨I.ok, fun p hp => frzs _ _ _ (I.fzs p hp), I.os, hg, ⟨fun b o e n hb hx => ?_, fun b o e n hb hx => ?_, fun b o e n hx => ?_, fun b o e hx => ?_, fun b xs e => tups b xs (I.base.tups b xs e), fun b o xs e => frzs b o xs (I.base.frzs b o xs e), fun b ps e => ?_⟩, ?_, fun x c e => ?_, ?_, fun x c e => ?_, fun p hp => ?_, hok, I.len⟩
  · exact keep b o (neL b o e) hb (neC b o e hx) (I.base.keep b o e n hb hx) (I.base.free b o e n hx)
  · obtain ⟨sl, e1⟩ := I.base.slot b o e n hb hx
    obtain ⟨sl', e2⟩ := slot b _ (neL b o e) hb (neC b o e hx) e1 (I.base.free b o e n hx)
    exact ⟨sl', e2⟩
  · obtain ⟨o', e1⟩ := I.base.there b o e hx
    exact free b o' (neC b o e hx) e1 (I.base.free b o e n hx)
  · obtain ⟨o', e1⟩ := I.base.there b o e hx
    exact there b o' (neC b o e hx) e1
  · obtain ⟨m1, e1⟩ := I.base.tbls b ps e
    obtain ⟨m2, e2⟩ := tbls b _ e1
    exact ⟨m1 ++ m2, by rw [e2, Array.append_assoc]⟩
  · obtain ⟨m, hn, hl⟩ := I.loc
    refine ⟨m, ns m hn, fun i x v e1 e2 e3 => ?_⟩
    obtain ⟨u, r, l⟩ := hl i x v e1 e2 e3
    refine ⟨u, r, ?_⟩
    rcases l with l | ⟨k, c, e, z⟩
    · exact .inl l
    · exact .inr ⟨k, c, e, cellK x c e _ z⟩
  · obtain ⟨v, z⟩ := I.cell x c e
    exact ⟨v, cellK x c e v z⟩
  · obtain ⟨m, ⟨o, _, _, ho, _⟩, _⟩ := I.loc
    exact free _ o (fun z => (hch _ z).2.1 rfl) ho I.free
  · obtain ⟨v, o, ho, hd⟩ := I.cell x c e
    exact free c o (fun z => (hch c z).2.2.1 x c e rfl) ho (I.freeC x c e)
  · obtain ⟨e, n, ne, nf, d⟩ := I.pin p hp
    have nch : p.1 ∉ ch := fun z => (hch p.1 z).2.2.2 p hp rfl
    exact ⟨keep p.1 p.2 ne nf nch e n, free p.1 p.2 nch e n, ne, nf, d⟩
theorem Inv.un {t' : Nat} (I : Inv X pins σ H s) (u : Un X.fs [] H H' s.heap h') (hok : HOk X.prog X.w H' h') : Inv X pins σ H' { s with heap := h', toks := t' } := by
  obtain ⟨m, ⟨o, es, ep, ho, r⟩, _⟩ := id I.loc
  obtain ⟨sl, hL⟩ := u.any ho I.free (by simp)
  exact I.step (g' := s.gens) (d' := s.drawn) (ch := []) (fun _ z => nomatch z) (fun b o _ hb _ e n => u.keep b o e n hb (by simp)) (fun b o _ hb _ e n => u.slot b o e n hb (by simp)) (fun b o _ e n => u.free b o e n (by simp)) (fun b o _ e => u.there b o e (by simp)) u.tups u.frzs u.tbls (fun m' hm => by
    obtain ⟨o', es', ep', ho', r'⟩ := hm
    rw [ho] at ho'; cases ho'
    exact ⟨_, es', ep', hL, r'⟩) hok I.bare
theorem Inv.call {g' : Array GenState} {t' : Nat} {d' : Drawn} {ch : List Addr} (I : Inv X pins σ H s) (u : Un (frs X.stack) ch H H' s.heap h') (hok : HOk X.prog X.w H' h') (hg : AllBare g')
    (hch : ∀ b ∈ ch, (b ∈ X.ex ∨ X.s₀.heap.objs.size ≤ b) ∧ b ≠ X.env.locals ∧ (∀ x c, X.env.cells.lookup x = some c → c ≠ b) ∧ ∀ p ∈ X.pn ++ pins, p.1 ≠ b) :
    Inv X pins σ H' { s with heap := h', gens := g', drawn := d', toks := t' } := by
  obtain ⟨m, ⟨o, es, ep, ho, r⟩, _⟩ := id I.loc
  obtain ⟨sl, hL⟩ := u.any ho I.free fun z => (hch _ z).2.1 rfl
  exact I.step (ch := ch) hch (fun b o hL hb hc e n => u.keep b o e n (fun z => (List.mem_cons.mp (I.stkSub b z)).elim hL hb) hc) (fun b o _ _ hc e n => u.any e n hc) (fun b o hc e n => u.free b o e n hc) (fun b o hc e => u.there b o e hc) u.tups u.frzs u.tbls (fun m' hm => by
    obtain ⟨o', es', ep', ho', r'⟩ := hm
    rw [ho] at ho'; cases ho'
    exact ⟨_, es', ep', hL, r'⟩) hok hg
theorem Inv.turned {t' : Nat} {it : Addr} (I : Inv X pins σ H s) (k : ∀ b o, b ≠ it → s.heap.get? b = some o → h'.get? b = some o) (hn : H it = none) (hL : it ≠ X.env.locals)
    (h1 : it ∈ X.ex ∨ X.s₀.heap.objs.size ≤ it) (h2 : ∀ x c, X.env.cells.lookup x = some c → c ≠ it) (h3 : ∀ p ∈ X.pn ++ pins, p.1 ≠ it) : Inv X pins σ H { s with heap := h', toks := t' } := by
  have nit : ∀ b u, H b = some u → b ≠ it := fun b u e z => by rw [z, hn] at e; cases e
  refine I.step (g' := s.gens) (d' := s.drawn) (ch := [it]) (fun b hb => ?_) (fun b o _ _ hc e _ => k b o (fun z => hc (by simp [z])) e) (fun b o _ _ hc e _ => ⟨o.slots, k b o (fun z => hc (by simp [z])) e⟩) (fun _ _ _ _ n => n)
    (fun b o hc e => ⟨o, k b o (fun z => hc (by simp [z])) e⟩) (fun _ _ e => e) (fun _ _ _ e => e) (fun b ps e => ⟨#[], by rw [e]; simp⟩) (fun m hm => ?_) (fun b u e => ?_) I.bare
  · have e : b = it := by simpa using hb
    subst e
    exact ⟨h1, hL, h2, h3⟩
  · obtain ⟨o, es, ep, ho, r⟩ := hm
    exact ⟨o, es, ep, k _ o (Ne.symm hL) ho, r⟩
  · refine (I.hok b u e).stay (fun c v hc q => k c v ?_ q) (fun _ q => q) fun _ _ q => q
    rcases hc with z | z
    · rw [z]; exact nit b u e
    · exact nit c _ z
theorem Inv.stl (I : Inv X pins σ H s) (hc : X.still = true) : Still X.A s.heap := by
  rcases I.ok.hs hc with z | ⟨e, o, u, vs, hh, hm, r⟩
  · exact .inl z
  · exact .inr ⟨e, o, vs, hh, (I.hok e _ (I.fzs _ hm)).1, r⟩
theorem Inv.stn (I : Inv X pins σ H s) (hc : X.still = true) {b : Addr} (n : H b = none) : X.A.handled ≠ some (.ref b) := by
  rcases I.ok.hs hc with z | ⟨e, o, u, vs, hh, hm, r⟩
  · rw [z]; intro c; cases c
  · rw [hh]; intro c; cases c
    have y := I.fzs _ hm
    have y' : H b = some (.frz o u) := y
    rw [n] at y'; cases y'
theorem Inv.tok (I : Inv X pins σ H s) (t : Nat) : Inv X pins σ H { s with toks := t } := I.un (h' := s.heap) (t' := t) Un.refl I.hok
theorem Inv.kept {t' : Nat} (I : Inv X pins σ H s) (k : ∀ b u, s.heap.get? b = some u → h'.get? b = some u) : Inv X pins σ H { s with heap := h', toks := t' } := I.un (Un.kept k) (I.hok.kept k)
theorem Inv.laid {a : Addr} {o : HO} {t' : Nat} (I : Inv X pins σ H s) (k : ∀ b u, s.heap.get? b = some u → h'.get? b = some u) (hp : s.heap.objs.size ≤ a) (new : ObjOk X.prog X.w (upd H a o) h' a o) :
    Inv X pins σ (upd H a o) { s with heap := h', toks := t' } := I.un (Un.laid k hp (I.hok.fresh hp)) (I.hok.laid k hp new)
theorem Inv.write {x e : Addr} {o : HO} {t' : Nat} (I : Inv X pins σ H s) (mu : Mut (H x)) (he : e = x ∨ H e = some (.own x)) (k : ∀ b u, b ≠ e → s.heap.get? b = some u → h'.get? b = some u) (heo : ∃ u, h'.get? e = some u)
    (new : ObjOk X.prog X.w (upd H x o) h' x o) : Inv X pins σ (upd H x o) { s with heap := h', toks := t' } := I.un (Un.write mu he k heo) (I.hok.write mu he k heo new)
theorem Inv.pins_of {pins' : List (Addr × Obj)} (I : Inv X pins σ H s) (h : ∀ p ∈ pins', s.heap.get? p.1 = some p.2 ∧ H p.1 = none ∧ p.1 ≠ X.env.locals ∧ p.1 ∉ X.fs ∧ ∀ v, p.2.data ≠ .cell v) : Inv X pins' σ H s :=
  ⟨I.ok, I.fzs, I.os, I.bare, I.base, I.loc, I.cell, I.free, I.freeC, fun p hp => (List.mem_append.mp hp).elim (fun z => I.pin p (List.mem_append_left _ z)) (h p), I.hok, I.len⟩

theorem nodup_ix {N : List Str} (hN : N.Nodup) {i j : Nat} {x : Str} (a : N[i]? = some x) (b : N[j]? = some x) : i = j := by
  obtain ⟨h1, e1⟩ := List.getElem?_eq_some_iff.mp a
  obtain ⟨h2, e2⟩ := List.getElem?_eq_some_iff.mp b
  exact (List.getElem_inj hN).mp (e1.trans e2.symm)

theorem store_ok2 {M : Model} {A : Around} {E : Value → Shared → Prop} {i : Nat} {x : Str} {v : V} {u : Value} {Q : Unit → Shared → Prop} (I : Inv X pins σ H s) (hN : X.N.Nodup) (hi : X.N[i]? = some x) (hx : Loc X.env.scope x) (r : RelV v u)
    (h : ∀ s', Inv X pins (σ.set i (some v)) H s' → (∃ a, Heap.SameBut a s.heap s'.heap ∧ (a = X.env.locals ∨ X.env.cells.lookup x = some a)) → Q () s') (hf : X.fn x = true ∨ X.env.scope.names.lookup x = some .local := by first | exact .inl rfl | exact .inr rfl | assumption) : wpAny M A (storeName X.env x u) Q E s := by
  obtain ⟨m, hn, hl⟩ := id I.loc
  have hcls : (X.env.scope.kind == .class || (X.env.scope.kind == .module && X.env.locals != X.env.globals)) = false := by rw [I.ok.kind]; rfl
  have hiσ : i < σ.length := by rw [I.len]; exact (List.getElem?_eq_some_iff.mp hi).1
  have cne := I.cne
  have tracked : ∀ {a : Addr} {h' : Heap}, (∃ o, s.heap.get? a = some o ∧ H a = none) → Heap.SameBut a s.heap h' → HOk X.prog X.w H h' := fun {a h'} ha hs b ob e => by
    obtain ⟨_, _, hfree⟩ := ha
    refine (I.hok b ob e).stay (fun c w' hc q => (hs.2 c ?_).trans q) (fun _ q => q) fun _ _ q => q
    rintro rfl
    rcases hc with rfl | hc
    · rw [hfree] at e; cases e
    · rw [hfree] at hc; cases hc
  rcases hx with hk | hk
  · refine wpAny_storeName_local hk hn (fun h' hn' hs => ?_) hcls
    obtain ⟨oL, _, _, hoL, _⟩ := id hn
    refine h _ ⟨I.ok, I.fzs, I.os, I.bare, ⟨fun b o e n hb hx => ?_, fun b o e n hb hx => ?_, I.base.free, fun b o e hx => ?_, I.base.tups, I.base.frzs, I.base.tbls⟩, ⟨_, hn', fun j y v' e1 e2 e3 => ?_⟩, fun y c e => ?_, I.free, I.freeC, fun p hp => ?_, tracked ⟨oL, hoL, I.free⟩ hs, by simpa using I.len⟩ ⟨_, hs, .inl rfl⟩
    · exact (hs.2 b (Nat.ne_of_lt (Nat.lt_of_lt_of_le (Heap.lt_size e) I.ok.above))).trans (I.base.keep b o e n hb hx)
    · obtain ⟨sl, e1⟩ := I.base.slot b o e n hb hx
      exact ⟨sl, (hs.2 b (Nat.ne_of_lt (Nat.lt_of_lt_of_le (Heap.lt_size e) I.ok.above))).trans e1⟩
    · obtain ⟨o', e1⟩ := I.base.there b o e hx
      exact ⟨o', (hs.2 b (Nat.ne_of_lt (Nat.lt_of_lt_of_le (Heap.lt_size e) I.ok.above))).trans e1⟩
    · by_cases hj : j = i
      · subst hj
        rw [hi] at e1; cases e1
        rw [List.getElem?_set_self hiσ] at e2
        cases e2
        exact ⟨u, r, .inl ⟨hk, by simp⟩⟩
      · rw [List.getElem?_set_ne (Ne.symm hj)] at e2
        obtain ⟨u', r', q⟩ := hl j y v' e1 e2 e3
        refine ⟨u', r', ?_⟩
        rcases q with ⟨k, e⟩ | ⟨k, c, e, z⟩
        · refine .inl ⟨k, ?_⟩
          have : y ≠ x := fun e => hj (nodup_ix hN e1 (e ▸ hi))
          simp [this, e]
        · exact .inr ⟨k, c, e, z.sameBut hs (cne y c e)⟩
    · obtain ⟨w', z⟩ := I.cell y c e
      exact ⟨w', z.sameBut hs (cne y c e)⟩
    · obtain ⟨e, n, ne, nf, d⟩ := I.pin p hp
      exact ⟨(hs.2 p.1 ne).trans e, n, ne, nf, d⟩
  · have hfn : X.fn x = true := by
      rcases hf with z | z
      · exact z
      · rw [z] at hk; cases hk
    obtain ⟨c, hc⟩ := I.ok.has x (.inl hk)
    obtain ⟨w', z⟩ := I.cell x c hc
    refine wpAny_storeName_cell I.ok.kind hk hc z (fun h' hc' hs => ?_)
    obtain ⟨oc, hoc, hocd⟩ := id z
    refine h { s with heap := h' } ⟨I.ok, I.fzs, I.os, I.bare, ⟨fun b o e n hb hx => ?_, fun b o e n hb hx => ?_, I.base.free, fun b o e hx => ?_, I.base.tups, I.base.frzs, I.base.tbls⟩, ⟨m, hn.sameBut hs (Ne.symm (cne x c hc)), fun j y v' e1 e2 e3 => ?_⟩, fun y c' e => ?_, I.free, I.freeC, fun p hp => ?_, tracked ⟨oc, hoc, I.freeC x c hc⟩ hs, by simpa using I.len⟩ ⟨c, hs, .inr hc⟩
    · exact (hs.2 b (Nat.ne_of_lt (Nat.lt_of_lt_of_le (Heap.lt_size e) (I.ok.cab x c hfn hc)))).trans (I.base.keep b o e n hb hx)
    · obtain ⟨sl, e1⟩ := I.base.slot b o e n hb hx
      exact ⟨sl, (hs.2 b (Nat.ne_of_lt (Nat.lt_of_lt_of_le (Heap.lt_size e) (I.ok.cab x c hfn hc)))).trans e1⟩
    · obtain ⟨o', e1⟩ := I.base.there b o e hx
      exact ⟨o', (hs.2 b (Nat.ne_of_lt (Nat.lt_of_lt_of_le (Heap.lt_size e) (I.ok.cab x c hfn hc)))).trans e1⟩
    · by_cases hj : j = i
      · subst hj
        rw [hi] at e1; cases e1
        rw [List.getElem?_set_self hiσ] at e2
        cases e2
        exact ⟨u, r, .inr ⟨.inl hk, c, hc, hc'⟩⟩
      · rw [List.getElem?_set_ne (Ne.symm hj)] at e2
        obtain ⟨u', r', q⟩ := hl j y v' e1 e2 e3
        refine ⟨u', r', ?_⟩
        rcases q with q | ⟨k, c', e, z'⟩
        · exact .inl q
        · refine .inr ⟨k, c', e, z'.sameBut hs ?_⟩
          rintro rfl
          exact hj (nodup_ix hN e1 (I.ok.inj _ _ _ e hc ▸ hi))
    · by_cases hcc : c' = c
      · subst hcc; exact ⟨_, hc'⟩
      · obtain ⟨w2, z2⟩ := I.cell y c' e
        exact ⟨w2, z2.sameBut hs hcc⟩
    · obtain ⟨e, n, ne, nf, d⟩ := I.pin p hp
      refine ⟨(hs.2 p.1 ?_).trans e, n, ne, nf, d⟩
      intro q
      rw [q, hoc] at e
      have q' : oc = p.2 := Option.some.inj e
      exact d w' (by rw [← q']; exact hocd)
theorem store_ok {M : Model} {A : Around} {E : Value → Shared → Prop} {i : Nat} {x : Str} {v : V} {u : Value} {Q : Unit → Shared → Prop} (I : Inv X pins σ H s) (hN : X.N.Nodup) (hi : X.N[i]? = some x) (hx : Loc X.env.scope x) (r : RelV v u)
    (h : ∀ s', Inv X pins (σ.set i (some v)) H s' → Q () s') (hf : X.fn x = true ∨ X.env.scope.names.lookup x = some .local := by first | exact .inl rfl | exact .inr rfl | assumption) : wpAny M A (storeName X.env x u) Q E s :=
  store_ok2 I hN hi hx r (fun s' I' _ => h s' I') hf
theorem Inv.call' {s' : Shared} {ch : List Addr} (I : Inv X pins σ H s) (ho : s'.os = s.os) (u : Un (frs X.stack) ch H H' s.heap s'.heap) (hok : HOk X.prog X.w H' s'.heap) (hg : AllBare s'.gens)
    (hch : ∀ b ∈ ch, (b ∈ X.ex ∨ X.s₀.heap.objs.size ≤ b) ∧ b ≠ X.env.locals ∧ (∀ x c, X.env.cells.lookup x = some c → c ≠ b) ∧ ∀ p ∈ X.pn ++ pins, p.1 ≠ b) : Inv X pins σ H' s' := by
  obtain ⟨h', g', d', t', o'⟩ := s'
  have e : o' = s.os := ho
  subst e
  exact I.call (g' := g') (t' := t') (d' := d') u hok hg hch
end

abbrev XK := Value → Option Addr → Hp → Prop
abbrev St := List (Option V)
abbrev VK := V → Hp → Prop
abbrev TE := St → Hp → VK → Prop
abbrev TT := St → Hp → (Bool → Hp → Prop) → Prop
abbrev TA := St → Hp → (List V → Hp → Prop) → Prop
structure Ends where
  nx : St → Hp → Prop
  rt : VK
  bk : St → Hp → Prop := fun _ _ => False
  ct : St → Hp → Prop := fun _ _ => False
abbrev TS := Ends → St → Hp → Prop

def EP (X : Cx) (pins : List (Addr × Obj)) (σ : St) (Q : VK) (u : Value) (s' : Shared) : Prop := ∃ v H', Inv X pins σ H' s' ∧ RelV v u ∧ Q v H'
def TP (X : Cx) (pins : List (Addr × Obj)) (σ : St) (Q : Bool → Hp → Prop) (b : Bool) (s' : Shared) : Prop := ∃ H', Inv X pins σ H' s' ∧ Q b H'
def AP (X : Cx) (pins : List (Addr × Obj)) (σ : St) (Q : List V → Hp → Prop) (us : List Value) (s' : Shared) : Prop := ∃ vs H', Inv X pins σ H' s' ∧ Vals vs us ∧ Q vs H'
def SP (X : Cx) (pins : List (Addr × Obj)) (D : Ends) (f : Flow) (s' : Shared) : Prop :=
  match f with
  | .next => ∃ σ' H', Inv X pins σ' H' s' ∧ D.nx σ' H'
  | .brk => ∃ σ' H', Inv X pins σ' H' s' ∧ D.bk σ' H'
  | .cont => ∃ σ' H', Inv X pins σ' H' s' ∧ D.ct σ' H'
  | .ret u => ∃ v σ' H', Inv X pins σ' H' s' ∧ RelV v u ∧ D.rt v H'

def PE (X : Cx) (e : Expr) (t : TE) : Prop :=
  ∀ (pins : List (Addr × Obj)) (s : Shared) (σ : St) (H : Hp) (Q : VK), Inv X pins σ H s → t σ H Q → wpAny (model X.prog X.w) X.A (eval e X.env) (EP X pins σ Q) X.xe s
def PT (X : Cx) (e : Expr) (t : TT) : Prop :=
  ∀ (pins : List (Addr × Obj)) (s : Shared) (σ : St) (H : Hp) (Q : Bool → Hp → Prop), Inv X pins σ H s → t σ H Q → wpAny (model X.prog X.w) X.A (isTrue e X.env (eval e X.env)) (TP X pins σ Q) X.xe s
def PW (X : Cx) (e : Expr) (t : TT) : Prop :=
  ∀ (whole : Sem Value) (pins : List (Addr × Obj)) (s : Shared) (σ : St) (H : Hp) (Q : Bool → Hp → Prop), Inv X pins σ H s → t σ H Q → wpAny (model X.prog X.w) X.A (isTrue e X.env whole) (TP X pins σ Q) X.xe s
theorem PW.pt {X : Cx} {e : Expr} {t : TT} (h : PW X e t) : PT X e t := h _
def PA (X : Cx) (es : List Expr) (t : TA) : Prop :=
  ∀ (pos : Pos) (pins : List (Addr × Obj)) (s : Shared) (σ : St) (H : Hp) (Q : List V → Hp → Prop), Inv X pins σ H s → t σ H Q → wpAny (model X.prog X.w) X.A (spliced (backTo pos (starEach es X.env))) (AP X pins σ Q) X.xe s
def PS (X : Cx) (st : Stmt) (t : TS) : Prop :=
  ∀ (pins : List (Addr × Obj)) (s : Shared) (σ : St) (H : Hp) (D : Ends), Inv X pins σ H s → t D σ H → wpAny (model X.prog X.w) X.A (exec st X.env) (SP X pins D) X.xe s
def PSs (X : Cx) (st : List Stmt) (t : TS) : Prop :=
  ∀ (pins : List (Addr × Obj)) (s : Shared) (σ : St) (H : Hp) (D : Ends), Inv X pins σ H s → t D σ H → wpAny (model X.prog X.w) X.A (execs st X.env) (SP X pins D) X.xe s
theorem thn {α : Type} {t : Sem α} {Q Q' : α → Shared → Prop} {M : Model} {A : Around} {E : Value → Shared → Prop} {s : Shared} (h : wpAny M A t Q E s) (hQ : ∀ a s, Q a s → Q' a s) : wpAny M A t Q' E s := wpAny_mono h hQ fun _ _ x => x
end L2

namespace L2
open PySem PySem.Spec PyProof.Rows
section
variable {X : Cx}

def tVar (i : Nat) : TE := fun σ H Q => ∃ v, σ[i]? = some (some v) ∧ Q v H
def tC (v : V) : TE := fun _ H Q => Q v H
theorem pe_var {i : Nat} {x : Str} {pos : Pos} (hN : X.N[i]? = some x) (hv : Vis X.env.scope x) (hd : (x == ("__debug__" : Str)) = false := by decide) (hcd : (x == ("__classdict__" : Str)) = false := by decide) : PE X (.Name x pos) (tVar i) := by
  intro pins s σ H Q I h
  obtain ⟨v, e, h⟩ := h
  obtain ⟨m, hn, hl⟩ := I.loc
  obtain ⟨u, r, l⟩ := hl i x v hN e hv
  have fin : EP X pins σ Q u s := ⟨v, H, I, r, h⟩
  rcases l with ⟨hk, hm⟩ | ⟨hk, c, hc, hcell⟩
  · exact wpAny_Name (wpAny_loadName_local I.ok.kind hk hn hm fin) hd
  · rcases hk with hk | hk
    · exact wpAny_Name (wpAny_loadName_cell I.ok.kind hk hc hcell fin) hd
    · exact wpAny_Name (wpAny_loadName_free I.ok.kind hk hc hcell fin hcd) hd
theorem pe_int {i j pos} : PE X (.Constant (.int i) j pos) (tC (.int i)) := fun _ _ _ H _ I h => wpAny_Constant_int ⟨.int i, H, I.tok _, ⟨_, rfl⟩, h⟩
theorem pe_bl {b j pos} : PE X (.Constant (.bool b) j pos) (tC (.bl b)) := fun _ _ _ H _ I h => Constant_bool ⟨.bl b, H, I, rfl, h⟩
theorem pe_non {j pos} : PE X (.Constant .none j pos) (tC .non) := fun _ _ _ H _ I h => Constant_none ⟨.non, H, I, rfl, h⟩
def Gl (X : Cx) (x : Str) : Prop := X.env.kindOf x = some .globalImplicit
theorem ld_glob {E : Value → Shared → Prop} {pins : List (Addr × Obj)} {s : Shared} {σ : St} {H : Hp} {x : Str} {u : Value} {pos : Pos} {Q : Value → Shared → Prop} (I : Inv X pins σ H s) (hg : Gl X x) (hm : X.mg x = some u) (h : Q u s)
    (hd : (x == ("__debug__" : Str)) = false := by decide) : wpAny (model X.prog X.w) X.A (eval (.Name x pos) X.env) Q E s :=
  Calls.Name_function_global I.ok.kind hg (Calls.loadGlobal_global (by rw [I.ok.glob]; exact I.mod.glob.keeps I.bk) hm h) hd
theorem ld_blt {E : Value → Shared → Prop} {pins : List (Addr × Obj)} {s : Shared} {σ : St} {H : Hp} {x : Str} {u : Value} {pos : Pos} {Q : Value → Shared → Prop} (I : Inv X pins σ H s) (hg : Gl X x) (hm : X.mg x = none) (hv : bootBuiltins x = some u) (h : Q u s)
    (hn : x ≠ "__name__" := by decide) (hd : (x == ("__debug__" : Str)) = false := by decide) : wpAny (model X.prog X.w) X.A (eval (.Name x pos) X.env) Q E s := by
  obtain ⟨mb, h1, h2⟩ := I.mod.blt
  exact Calls.Name_function_global I.ok.kind hg (Calls.loadGlobal_builtin (by rw [I.ok.glob]; exact I.mod.glob.keeps I.bk) hm (by rw [I.ok.blt]; exact h1.keeps I.bk) ((h2 x hn).trans hv) h) hd
theorem pe_glob {x : Str} {v : V} {u : Value} {pos : Pos} (hg : Gl X x) (hm : X.mg x = some u) (r : RelV v u) (hd : (x == ("__debug__" : Str)) = false := by decide) : PE X (.Name x pos) (tC v) :=
  fun _ _ _ H _ I h => ld_glob I hg hm ⟨v, H, I, r, h⟩ hd
theorem pe_bltn {x : Str} {v : V} {u : Value} {pos : Pos} (hg : Gl X x) (hm : X.mg x = none) (hv : bootBuiltins x = some u) (r : RelV v u) (hn : x ≠ "__name__" := by decide) (hd : (x == ("__debug__" : Str)) = false := by decide) : PE X (.Name x pos) (tC v) :=
  fun _ _ _ H _ I h => ld_blt I hg hm hv ⟨v, H, I, r, h⟩ hn hd

def t2I (ta tb : TE) (k : Int → Int → Hp → Prop) : St → Hp → Prop := fun σ H => ta σ H fun x H1 => tb σ H1 fun y H2 => ∃ i j, x = .int i ∧ y = .int j ∧ k i j H2
def tAdd (ta tb : TE) : TE := fun σ H Q => t2I ta tb (fun i j H2 => Q (.int (i + j)) H2) σ H
def tSub (ta tb : TE) : TE := fun σ H Q => t2I ta tb (fun i j H2 => Q (.int (i - j)) H2) σ H
def tMul (ta tb : TE) : TE := fun σ H Q => t2I ta tb (fun i j H2 => (-(2 ^ 64) < i ∧ i < 2 ^ 64) ∧ Q (.int (i * j)) H2) σ H
variable {a b : Expr} {ta tb : TE} {pos : Pos}
def PC (X : Cx) (op : CmpOp) (a b : Expr) (t : TE) : Prop :=
  ∀ (pins : List (Addr × Obj)) (s : Shared) (σ : St) (H : Hp) (Q : VK), Inv X pins σ H s → t σ H Q →
    wpAny (model X.prog X.w) X.A (eval a X.env) (fun v s₁ => wpAny (model X.prog X.w) X.A (eval b X.env) (fun u s₂ => wpAny (model X.prog X.w) X.A (compareOp op v u) (EP X pins σ Q) X.xe s₂) X.xe s₁) X.xe s
def tCmp (p : Int → Int → Bool) (ta tb : TE) : TE := fun σ H Q => t2I ta tb (fun i j H2 => Q (.bl (p i j)) H2) σ H
abbrev tLt : TE → TE → TE := tCmp fun i j => decide (i < j)
abbrev tLe : TE → TE → TE := tCmp fun i j => decide (i ≤ j)
abbrev tGt : TE → TE → TE := tCmp fun i j => decide (j < i)
abbrev tGe : TE → TE → TE := tCmp fun i j => decide (j ≤ i)
abbrev tEqI : TE → TE → TE := tCmp fun i j => decide (i = j)
abbrev tNeI : TE → TE → TE := tCmp fun i j => !decide (i = j)
def tIsN (ta : TE) : TE := fun σ H Q => ta σ H fun x H1 => Q (.bl (decide (x = .non))) H1
def tNotN (ta : TE) : TE := fun σ H Q => ta σ H fun x H1 => Q (.bl (!decide (x = .non))) H1
def tB (t : TE) : TT := fun σ H Q => t σ H fun x H1 => ∃ c, x = .bl c ∧ Q c H1
theorem pt_val {e : Expr} {t : TE} (h : PE X e t) (he : ∀ whole, isTrue e X.env whole = (do let v ← whole; standAt e.pos; holding [v] (truthy v)) := by intro _; rfl) : PT X e (tB t) := by
  intro pins s σ H Q I hw
  refine isTrue_plain (thn (h pins s σ H _ I hw) fun v s1 ⟨x, H1, I1, r1, q1⟩ => ?_) (he _)
  obtain ⟨d, rfl, q⟩ := q1
  cases r1
  exact wpAny_truthy_bool ⟨H1, I1, q⟩

variable {tA tB' : TT} {rest : List Expr}
def tAnd (t u : TT) : TT := fun σ H Q => t σ H fun c H1 => if c = true then u σ H1 Q else Q false H1
def tOr (t u : TT) : TT := fun σ H Q => t σ H fun c H1 => if c = true then Q true H1 else u σ H1 Q
def tNot (t : TT) : TT := fun σ H Q => t σ H fun c H1 => Q (!c) H1
theorem pw_and1 (ha : PT X a tA) : PW X (.BoolOp .And [a] pos) tA := by
  intro wh pins s σ H Q I h
  refine isTrue_and (thn (ha pins s σ H Q I h) fun c s1 e => ?_)
  cases c with
  | true => exact isTrue_and_nil e
  | false => exact e
theorem pw_or1 (ha : PT X a tA) : PW X (.BoolOp .Or [a] pos) tA := by
  intro wh pins s σ H Q I h
  refine isTrue_or (thn (ha pins s σ H Q I h) fun c s1 e => ?_)
  cases c with
  | false => exact isTrue_or_nil e
  | true => exact e
theorem pw_and (ha : PT X a tA) (hb : PW X (.BoolOp .And (b :: rest) pos) tB') : PW X (.BoolOp .And (a :: b :: rest) pos) (tAnd tA tB') := by
  intro wh pins s σ H Q I h
  refine isTrue_and (thn (ha pins s σ H _ I h) fun c s1 ⟨H1, I1, q1⟩ => ?_)
  cases c with
  | true => exact hb wh pins s1 σ H1 Q I1 q1
  | false => exact ⟨H1, I1, q1⟩
theorem pw_or (ha : PT X a tA) (hb : PW X (.BoolOp .Or (b :: rest) pos) tB') : PW X (.BoolOp .Or (a :: b :: rest) pos) (tOr tA tB') := by
  intro wh pins s σ H Q I h
  refine isTrue_or (thn (ha pins s σ H _ I h) fun c s1 ⟨H1, I1, q1⟩ => ?_)
  cases c with
  | true => exact ⟨H1, I1, q1⟩
  | false => exact hb wh pins s1 σ H1 Q I1 q1
theorem pt_not (ha : PT X a tA) : PT X (.UnaryOp .Not a pos) (tNot tA) := by
  intro pins s σ H Q I h
  exact isTrue_not (ha pins s σ H (fun c H1 => Q (!c) H1) I h)
def tAndV (ta tb : TE) : TE := fun σ H Q => ta σ H fun x H1 => ∃ c, x = .bl c ∧ if c = true then tb σ H1 Q else Q (.bl false) H1
def tOrV (ta tb : TE) : TE := fun σ H Q => ta σ H fun x H1 => ∃ c, x = .bl c ∧ if c = true then Q (.bl true) H1 else tb σ H1 Q
def tNotV (ta : TE) : TE := fun σ H Q => ta σ H fun x H1 => ∃ c, x = .bl c ∧ Q (.bl (!c)) H1
theorem pe_one {op} {t : TE} (h : PE X a t) : PE X (.BoolOp op [a] pos) t := fun pins s σ H Q I hw => BoolOp_one (h pins s σ H Q I hw)
theorem pe_and (ha : PE X a ta) (hb : PE X (.BoolOp .And (b :: rest) pos) tb) : PE X (.BoolOp .And (a :: b :: rest) pos) (tAndV ta tb) := by
  intro pins s σ H Q I h
  refine BoolOp_and (thn (ha pins s σ H _ I h) fun v s1 ⟨x, H1, I1, r1, q1⟩ => ?_)
  obtain ⟨c, rfl, q1⟩ := q1
  cases r1
  refine wpAny_truthy_bool ?_
  cases c with
  | true => exact hb pins s1 σ H1 Q I1 q1
  | false => exact ⟨.bl false, H1, I1, rfl, q1⟩
theorem pe_or (ha : PE X a ta) (hb : PE X (.BoolOp .Or (b :: rest) pos) tb) : PE X (.BoolOp .Or (a :: b :: rest) pos) (tOrV ta tb) := by
  intro pins s σ H Q I h
  refine BoolOp_or (thn (ha pins s σ H _ I h) fun v s1 ⟨x, H1, I1, r1, q1⟩ => ?_)
  obtain ⟨c, rfl, q1⟩ := q1
  cases r1
  refine wpAny_truthy_bool ?_
  cases c with
  | false => exact hb pins s1 σ H1 Q I1 q1
  | true => exact ⟨.bl true, H1, I1, rfl, q1⟩
theorem pe_not (ha : PE X a ta) : PE X (.UnaryOp .Not a pos) (tNotV ta) := by
  intro pins s σ H Q I h
  refine UnaryOp_ (thn (ha pins s σ H _ I h) fun v s1 ⟨x, H1, I1, r1, q1⟩ => ?_)
  obtain ⟨c, rfl, q1⟩ := q1
  cases r1
  exact not_of (wpAny_truthy_bool ⟨.bl (!c), H1, I1, rfl, q1⟩)
def tIf (t : TT) (ta tb : TE) : TE := fun σ H Q => t σ H fun c H1 => if c = true then ta σ H1 Q else tb σ H1 Q
end
end L2

namespace L2
open PySem PySem.Spec PyProof.Rows

def SqL (K : PySem.W.Frag) (H : Hp) (a : Addr) (xs : List V) : Prop :=
  Rd H a (.lst xs) ∨
    ∃ (o : Obj) (its : Array Value) (n : Nat), K.lookup a = some o ∧ o.cls = .type "list" ∧ o.dict = none ∧ o.data = .seq its n ∧ its.size ≤ sizeLine ∧ Vals xs its.toList
def SqT (K : PySem.W.Frag) (H : Hp) (a : Addr) (xs : List V) : Prop :=
  Rd H a (.tup xs) ∨
    ∃ (o : Obj) (its : Array Value) (n : Nat), K.lookup a = some o ∧ o.cls = .type "tuple" ∧ o.data = .seq its n ∧ its.size ≤ sizeLine ∧ Vals xs its.toList
def absV : Value → Option V
  | .none => some .non
  | .bool b => some (.bl b)
  | .int i _ => some (.int i)
  | .str x _ => some (.str x)
  | .bytes b _ => some (.byt b)
  | .float b _ => some (.flt b)
  | .ref a => some (.ref a)
  | .type n => some (.ty n)
  | _ => none
theorem RelV.abs {x : V} {u : Value} (r : RelV x u) : absV u = some x := by
  cases x with
  | non => cases r; rfl
  | bl _ => cases r; rfl
  | int _ => obtain ⟨t, rfl⟩ := r; rfl
  | str _ => obtain ⟨t, rfl⟩ := r; rfl
  | byt _ => obtain ⟨t, rfl⟩ := r; rfl
  | flt _ => obtain ⟨t, rfl⟩ := r; rfl
  | ref _ => cases r; rfl
  | ty _ => cases r; rfl
theorem RelV.inj {x y : V} {u : Value} (r : RelV x u) (q : RelV y u) : x = y := Option.some.inj (r.abs.symm.trans q.abs)
theorem Vals.inj : ∀ {xs ys : List V} {us : List Value}, Vals xs us → Vals ys us → xs = ys
  | _, _, _, .nil, .nil => rfl
  | _, _, _, .cons r t, .cons r' t' => by rw [r.inj r', Vals.inj t t']
section
variable {X : Cx} {pins : List (Addr × Obj)} {σ : St} {H : Hp} {s : Shared} {a : Addr} {xs ys : List V}
theorem SqL.of {K : PySem.W.Frag} (h : H a = some (.lst xs)) : SqL K H a xs := .inl (.inl h)
theorem SqT.of {K : PySem.W.Frag} (h : H a = some (.tup xs)) : SqT K H a xs := .inl (.inl h)
theorem Inv.list (I : Inv X pins σ H s) (h : SqL X.K H a xs) : ∃ its : List Value, Vals xs its ∧ PlainL s.heap a its.toArray ∧ xs.length ≤ sizeLine := by
  rcases h with h | ⟨o, its, n, hk, hc, hd, hs, hz, r⟩
  · obtain ⟨z, its, n, r, e⟩ := h.ok I.hok
    exact ⟨its, r, ⟨_, n, e, rfl, rfl, rfl⟩, z⟩
  · refine ⟨its.toList, r, ⟨o, n, I.kIn a o hk, hc, hd, by simpa using hs⟩, ?_⟩
    have e := r.length
    simp only [Array.length_toList] at e
    omega
theorem Inv.tuple (I : Inv X pins σ H s) (h : SqT X.K H a xs) : ∃ its : List Value, Vals xs its ∧ IsTup s.heap a its.toArray ∧ xs.length ≤ sizeLine := by
  rcases h with h | ⟨o, its, n, hk, hc, hs, hz, r⟩
  · obtain ⟨z, its, r, p⟩ := h.ok I.hok
    exact ⟨its, r, p, z⟩
  · refine ⟨its.toList, r, ⟨o, I.kIn a o hk, hc, n, by simpa using hs⟩, ?_⟩
    have e := r.length
    simp only [Array.length_toList] at e
    omega
theorem Inv.list_inj (I : Inv X pins σ H s) (h : SqL X.K H a xs) (h' : SqL X.K H a ys) : xs = ys := by
  obtain ⟨its, r, ⟨o, n, e, _, _, d⟩, _⟩ := I.list h
  obtain ⟨its', r', ⟨o', n', e', _, _, d'⟩, _⟩ := I.list h'
  rw [e] at e'; cases e'
  rw [d] at d'
  injection d' with d1 _
  have : its = its' := by simpa using congrArg Array.toList d1
  subst this
  exact r.inj r'
theorem Inv.tuple_inj (I : Inv X pins σ H s) (h : SqT X.K H a xs) (h' : SqT X.K H a ys) : xs = ys := by
  obtain ⟨its, r, ⟨o, e, _, n, d⟩, _⟩ := I.tuple h
  obtain ⟨its', r', ⟨o', e', _, n', d'⟩, _⟩ := I.tuple h'
  rw [e] at e'; cases e'
  rw [d] at d'
  injection d' with d1 _
  have : its = its' := by simpa using congrArg Array.toList d1
  subst this
  exact r.inj r'
end

abbrev Cx.wish (X : Cx) (E : Value → Shared → Prop) : Cx := { X with xe := E }
abbrev Cx.nox (X : Cx) : Cx := X.wish fun _ _ => False
theorem Cx.Ok.wish {X : Cx} (ok : X.Ok) (E : Value → Shared → Prop) : (X.wish E).Ok :=
  ⟨ok.mod, ok.kind, ok.glob, ok.blt, ok.above, ok.inj, ok.has, ok.cab, ok.hd, ok.hs, ok.frames, ok.stk, ok.exf, ok.bs, ok.bsz, ok.noex, ok.exfs, ok.funs, ok.frf⟩
theorem Cx.Ok.unwish {X : Cx} {E : Value → Shared → Prop} (ok : (X.wish E).Ok) : X.Ok :=
  ⟨ok.mod, ok.kind, ok.glob, ok.blt, ok.above, ok.inj, ok.has, ok.cab, ok.hd, ok.hs, ok.frames, ok.stk, ok.exf, ok.bs, ok.bsz, ok.noex, ok.exfs, ok.funs, ok.frf⟩
section
variable {X : Cx} {pins : List (Addr × Obj)} {σ : St} {H : Hp} {s : Shared} {E : Value → Shared → Prop}
theorem Inv.wish (I : Inv X pins σ H s) (E : Value → Shared → Prop) : Inv (X.wish E) pins σ H s := ⟨I.ok.wish E, I.fzs, I.os, I.bare, I.base, I.loc, I.cell, I.free, I.freeC, I.pin, I.hok, I.len⟩
theorem Inv.unwish (I : Inv (X.wish E) pins σ H s) : Inv X pins σ H s := ⟨I.ok.unwish, I.fzs, I.os, I.bare, I.base, I.loc, I.cell, I.free, I.freeC, I.pin, I.hok, I.len⟩
theorem SP.unwish {D : Ends} {f : Flow} {s' : Shared} (h : SP (X.wish E) pins D f s') : SP X pins D f s' := by
  cases f with
  | next => obtain ⟨σ', H', I, q⟩ := h; exact ⟨σ', H', I.unwish, q⟩
  | brk => obtain ⟨σ', H', I, q⟩ := h; exact ⟨σ', H', I.unwish, q⟩
  | cont => obtain ⟨σ', H', I, q⟩ := h; exact ⟨σ', H', I.unwish, q⟩
  | ret u => obtain ⟨v, σ', H', I, r, q⟩ := h; exact ⟨v, σ', H', I.unwish, r, q⟩
theorem PSs.nox {st : List Stmt} {t : TS} (h : PSs X.nox st t) : PSs X st t := fun pins s σ H D I hw =>
  wpAny_mono (h pins s σ H D (I.wish _) hw) (fun _ _ q => q.unwish) fun _ _ z => False.elim z
end

section
variable {X : Cx} {st : Stmt} {rest : List Stmt} {t u : TS} {e : Expr} {te : TE} {pos : Pos}
def tNext : TS := fun D σ H => D.nx σ H
def tSeq (t u : TS) : TS := fun D σ H => t { D with nx := u D } σ H
theorem pss_nil : PSs X [] tNext := fun _ _ σ H _ I h => wpAny_execs_nil ⟨σ, H, I, h⟩
theorem pss_cons (h1 : PS X st t) (h2 : PSs X rest u) : PSs X (st :: rest) (tSeq t u) := by
  intro pins s σ H D I h
  refine wpAny_execs_cons (thn (h1 pins s σ H { D with nx := u D } I h) fun f s1 q => ?_)
  cases f with
  | next =>
    obtain ⟨σ', H', I', q⟩ := q
    exact h2 pins s1 σ' H' D I' q
  | ret v => exact q
  | brk => exact q
  | cont => exact q
theorem pss_one (h1 : PS X st t) : PSs X [st] t := by
  intro pins s σ H D I h
  refine wpAny_execs_cons (thn (h1 pins s σ H D I h) fun f s1 q => ?_)
  cases f with
  | next => exact wpAny_execs_nil q
  | ret v => exact q
  | brk => exact q
  | cont => exact q
def tBreak : TS := fun D σ H => D.bk σ H
def tCont : TS := fun D σ H => D.ct σ H
theorem Inv.quiet {pins : List (Addr × Obj)} {σ : St} {H : Hp} {s : Shared} (I : Inv X pins σ H s) : interactive X.env = false := by simp [interactive, I.ok.kind]
def tDrop (te : TE) : TS := fun D σ H => te σ H fun _ H1 => D.nx σ H1
theorem ps_expr (he : PE X e te) (hs : swapsWith e none pos.line X.env = pure false := by rfl) : PS X (.Expr e pos) (tDrop te) := by
  intro pins s σ H D I h
  exact wpAny_Expr_any (thn (he pins s σ H _ I h) fun v s1 ⟨x, H1, I1, r1, q1⟩ => ⟨σ, H1, I1, q1⟩) I.quiet hs
def tRet (te : TE) : TS := fun D σ H => te σ H D.rt
theorem ps_ret (he : PE X e te) : PS X (.Return (some e) pos) (tRet te) := by
  intro pins s σ H D I h
  exact wpAny_Return_some (thn (he pins s σ H _ I h) fun v s1 ⟨x, H1, I1, r1, q1⟩ => ⟨x, σ, H1, I1, r1, q1⟩)
def tRetN : TS := fun D _ H => D.rt .non H
def tIfS (c : TT) (t u : TS) : TS := fun D σ H => c σ H fun b H1 => if b = true then t D σ H1 else u D σ H1
theorem ps_if {c : Expr} {a b : List Stmt} {tc : TT} (hc : PT X c tc) (ha : PSs X a t) (hb : PSs X b u) : PS X (.If c a b pos) (tIfS tc t u) := by
  intro pins s σ H D I h
  refine wpAny_If (thn (hc pins s σ H _ I h) fun d s1 ⟨H1, I1, q1⟩ => ?_)
  cases d with
  | true => exact ha pins s1 σ H1 D I1 q1
  | false => exact hb pins s1 σ H1 D I1 q1
def tNever : TS := fun _ _ _ => False
theorem pss_never {sts : List Stmt} : PSs X sts tNever := fun _ _ _ _ _ _ h => h.elim
end

abbrev TG := V → St → Hp → (St → Hp → Prop) → Prop
abbrev TGs := List V → St → Hp → (St → Hp → Prop) → Prop
def PG (X : Cx) (target : Expr) (t : TG) : Prop :=
  ∀ (pins : List (Addr × Obj)) (s : Shared) (σ : St) (H : Hp) (v : V) (u : Value) (Q : St → Hp → Prop), Inv X pins σ H s → RelV v u → t v σ H Q →
    wpAny (model X.prog X.w) X.A (assign target X.env u) (fun _ s' => ∃ σ' H', Inv X pins σ' H' s' ∧ Q σ' H') X.xe s
def PGs (X : Cx) (ts : List Expr) (t : TGs) : Prop :=
  ∀ (pins : List (Addr × Obj)) (s : Shared) (σ : St) (H : Hp) (vs : List V) (us : List Value) (Q : St → Hp → Prop), Inv X pins σ H s → Vals vs us → t vs σ H Q →
    wpAny (model X.prog X.w) X.A (assignInOrder ((assignEach ts X.env).map (·.2)) us) (fun _ s' => ∃ σ' H', Inv X pins σ' H' s' ∧ Q σ' H') X.xe s
abbrev TSet := V → V → V → Hp → (Hp → Prop) → Prop
def PSet (X : Cx) (t : TSet) : Prop :=
  ∀ (pins : List (Addr × Obj)) (s : Shared) (σ : St) (H : Hp) (o i v : V) (ov iv u : Value) (Q : Hp → Prop), Inv X pins σ H s → RelV o ov → RelV i iv → RelV v u → t o i v H Q →
    wpAny (model X.prog X.w) X.A (setItem ov iv u) (fun _ s' => ∃ H', Inv X pins σ H' s' ∧ Q H') X.xe s
abbrev TIp := V → V → Hp → VK → Prop
def PIp (X : Cx) (op : Operator) (t : TIp) : Prop :=
  ∀ (pins : List (Addr × Obj)) (s : Shared) (σ : St) (H : Hp) (x y : V) (v u : Value) (Q : VK), Inv X pins σ H s → RelV x v → RelV y u → t x y H Q →
    wpAny (model X.prog X.w) X.A (inplaceOp op v u) (EP X pins σ Q) X.xe s
section
variable {X : Cx} {pos : Pos}
def gName (i : Nat) : TG := fun v σ H Q => Q (σ.set i (some v)) H
theorem pg_name {i : Nat} {x : Str} (hN : X.N.Nodup) (hi : X.N[i]? = some x) (hx : Loc X.env.scope x) (hf : X.fn x = true ∨ X.env.scope.names.lookup x = some .local := by first | exact .inl rfl | exact .inr rfl | assumption) : PG X (.Name x pos) (gName i) := by
  intro pins s σ H v u Q I r h
  exact wpAny_assign_Name (store_ok I hN hi hx r (fun s' I' => ⟨_, H, I', h⟩) hf)
def gNil : TGs := fun vs σ H Q => vs = [] ∧ Q σ H
def gCons (t : TG) (u : TGs) : TGs := fun vs σ H Q => ∃ v r, vs = v :: r ∧ t v σ H fun σ' H' => u r σ' H' Q
theorem pgs_nil : PGs X [] gNil := by
  intro pins s σ H vs us Q I r h
  obtain ⟨e, h⟩ := h
  subst e
  cases r
  exact assignInOrder_nil ⟨σ, H, I, h⟩
theorem pgs_cons {e : Expr} {es : List Expr} {t : TG} {u : TGs} (h1 : PG X e t) (h2 : PGs X es u)
    (hs : (assignEach (e :: es) X.env).map (·.2) = assign e X.env :: (assignEach es X.env).map (·.2) := by rfl) : PGs X (e :: es) (gCons t u) := by
  intro pins s σ H vs us Q I r h
  obtain ⟨v, vr, e1, h⟩ := h
  subst e1
  cases r with
  | cons r rr =>
    rw [hs]
    refine assignInOrder_cons (thn (h1 pins s σ H _ _ _ I r h) fun _ s1 ⟨σ1, H1, I1, q1⟩ => ?_)
    exact h2 pins s1 σ1 H1 _ _ Q I1 rr q1
def gTup (K : PySem.W.Frag) (n : Nat) (t : TGs) : TG := fun v σ H Q => ∃ a xs, v = .ref a ∧ SqT K H a xs ∧ xs.length = n ∧ t xs σ H Q
theorem pg_tup {es : List Expr} {k : Nat} {t : TGs} {n : Nat} (hc : X.still = true) (h : PGs X es t)
    (hn : (assignEach es X.env).length = n := by rfl) (hst : (assignEach es X.env).findIdx? (·.1) = none := by rfl) : PG X (.Tuple es k pos) (gTup X.K n t) := by
  intro pins s σ H v u Q I r hw
  obtain ⟨a, xs, e1, hq, hl, hw⟩ := hw
  subst e1
  cases r
  obtain ⟨its, rv, ht, hz⟩ := I.tuple hq
  refine assign_Tuple_still (I.stl hc) ht (by simp [hn, ← hl, rv.length]) hst fun h' hx => ?_
  have I1 : Inv X pins σ H { s with heap := h' } := I.kept (t' := s.toks) fun b o e => hx b o (Nat.ne_of_lt (Heap.lt_size e)) e
  exact h pins _ σ H xs _ Q I1 (by simpa using rv) hw
def gSub (to ti : TE) (t : TSet) : TG := fun v σ H Q => to σ H fun o H1 => ti σ H1 fun i H2 => t o i v H2 fun H3 => Q σ H3
def tAsg (te : TE) (g : TG) : TS := fun D σ H => te σ H fun x H1 => g x σ H1 D.nx
theorem ps_asg {tg e : Expr} {te : TE} {g : TG} (he : PE X e te) (hg : PG X tg g) (hs : swapsWithSole [tg] e pos.line X.env = pure false := by rfl) (hw : swappedStores [tg] e X.env = pure none := by rfl)
    (h1 : (assignEach [tg] X.env).map (·.2) = [assign tg X.env] := by rfl) : PS X (.Assign [tg] e pos) (tAsg te g) := by
  intro pins s σ H D I h
  refine wpAny_Assign_stores (thn (he pins s σ H _ I h) fun v s1 ⟨x, H1, I1, r1, q1⟩ => ?_) hs hw
  rw [h1]
  exact thn (hg pins s1 σ H1 x v _ I1 r1 q1) fun _ s2 q => q
theorem ps_set {i : Nat} {x : Str} {e : Expr} {te : TE} {pos' : Pos} (hN : X.N.Nodup) (hi : X.N[i]? = some x) (hx : Loc X.env.scope x) (he : PE X e te) (hs : swapsWith e (some (.Name x pos')) pos.line X.env = pure false := by rfl) (hf : X.fn x = true ∨ X.env.scope.names.lookup x = some .local := by first | exact .inl rfl | exact .inr rfl | assumption) :
    PS X (.Assign [.Name x pos'] e pos) (tAsg te (gName i)) := by
  intro pins s σ H D I h
  refine wpAny_Assign_Name (thn (he pins s σ H _ I h) fun v s1 ⟨y, H1, I1, r1, q1⟩ => ?_) hs
  exact store_ok I1 hN hi hx r1 (fun s2 I2 => ⟨_, H1, I2, q1⟩) hf
def tPar (i j : Nat) (ta : TA) : TS := fun D σ H => ta σ H fun vs H1 => ∃ v w, vs = [v, w] ∧ D.nx ((σ.set i (some v)).set j (some w)) H1
theorem ps_par {i j : Nat} {x y : Str} {a b : Expr} {ta : TA} {px py pt : Pos} {kt k2 pt2} (hc : X.still = true) (hN : X.N.Nodup) (hi : X.N[i]? = some x) (hj : X.N[j]? = some y) (hij : i ≠ j)
    (hx : X.env.scope.names.lookup x = some .local) (hy : X.env.scope.names.lookup y = some .local) (ha : PA X [a, b] ta)
    (hw : swappedStores [.Tuple [.Name x px, .Name y py] kt pt] (.Tuple [a, b] k2 pt2) X.env = pure (some [x, y]))
    (hs : swapsWithSole [.Tuple [.Name x px, .Name y py] kt pt] (.Tuple [a, b] k2 pt2) pos.line X.env = pure false := by rfl) :
    PS X (.Assign [.Tuple [.Name x px, .Name y py] kt pt] (.Tuple [a, b] k2 pt2) pos) (tPar i j ta) := by
  intro pins s σ H D I h
  rw [exec_Assign_arm]
  refine wpAny_bind (wpAny_standAt ?_)
  rw [hs]
  refine wpAny_bind (wpAny_pure ?_)
  rw [if_neg (by decide)]
  refine wpAny_bind (Tuple_ (thn (ha _ pins s σ H _ I h) fun us s1 ⟨vs, H1, I1, r1, q1⟩ => ?_))
  obtain ⟨v, w, e1, q1⟩ := q1
  subst e1
  obtain ⟨u1, u2, rfl, rv, rw'⟩ : ∃ u1 u2, us = [u1, u2] ∧ RelV v u1 ∧ RelV w u2 := by
    cases r1 with
    | cons p q =>
      cases q with
      | cons p' q' =>
        cases q'
        exact ⟨_, _, rfl, p, p'⟩
  refine wpAny_newObj_type ?_ (by show 2 ≤ sizeLine; decide)
  have I2 : Inv X pins σ H1 { s1 with heap := s1.heap.push { cls := .type "tuple", data := .seq [u1, u2].toArray } } := I1.kept (t' := s1.toks) fun b o e => Heap.get?_push_of_some _ e
  rw [hw]
  refine wpAny_bind (wpAny_pure ?_)
  show wpAny (model X.prog X.w) X.A (do rule "assign.swapped-stores"; let items ← unpackItems (.ref s1.heap.objs.size) 2 none; assignInOrder [fun v => bindName X.env y v, fun v => bindName X.env x v] items.reverse; pure Flow.next) _ _ _
  refine wpAny_bind (wpAny_rule (wpAny_bind (unpackItems_still (items := #[u1, u2]) (I2.stl hc) (IsTup.new s1.heap _) fun h' hx' => ?_)))
  have I3 := I2.kept (h' := h') (t' := s1.toks) fun b o e => hx' b o (Nat.ne_of_lt (Heap.lt_size e)) e
  show wpAny _ _ (assignInOrder [fun v => bindName X.env y v, fun v => bindName X.env x v] [u2, u1] >>= fun _ => pure Flow.next) _ _ _
  refine wpAny_bind (assignInOrder_cons (wpAny_bindName (store_ok I3 hN hj (.inl hy) rw' (fun s2 I4 => ?_) (.inr hy))))
  refine assignInOrder_cons (wpAny_bindName (store_ok I4 hN hi (.inl hx) rv (fun s3 I5 => assignInOrder_nil (wpAny_pure ?_)) (.inr hx)))
  rw [List.set_comm _ _ (Ne.symm hij)] at I5
  exact ⟨_, H1, I5, q1⟩
def tAug (i : Nat) (te : TE) (ti : TIp) : TS := fun D σ H => ∃ x, σ[i]? = some (some x) ∧ te σ H fun y H1 => ti x y H1 fun z H2 => D.nx (σ.set i (some z)) H2
def tAugS (to ti te : TE) (tget : V → V → Hp → VK → Prop) (tip : TIp) (tset : TSet) : TS := fun D σ H => to σ H fun o H1 => ti σ H1 fun i H2 => tget o i H2 fun x H3 => te σ H3 fun y H4 => tip x y H4 fun z H5 => tset o i z H5 fun H6 => D.nx σ H6
def PGet (X : Cx) (t : V → V → Hp → VK → Prop) : Prop :=
  ∀ (pins : List (Addr × Obj)) (s : Shared) (σ : St) (H : Hp) (o i : V) (ov iv : Value) (Q : VK), Inv X pins σ H s → RelV o ov → RelV i iv → t o i H Q →
    wpAny (model X.prog X.w) X.A (getItem ov iv) (EP X pins σ Q) X.xe s
def ipI (f : Int → Int → Int) : TIp := fun x y H Q => ∃ i j, x = .int i ∧ y = .int j ∧ Q (.int (f i j)) H
end

section
variable {X : Cx} {pos : Pos}
def tWhile (c : TT) (tb : TS) : TS := fun D σ H => ∃ W : Nat → St → Hp → Prop, (∃ m, W m σ H) ∧ ∀ m σ H, W m σ H →
  c σ H fun b H1 => if b = true then ∃ N : St → Hp → Prop, (∀ σ' H', N σ' H' → ∃ m', m' < m ∧ W m' σ' H') ∧ tb { D with nx := N, ct := N, bk := D.nx } σ H1 else D.nx σ H1
theorem ps_while {c : Expr} {body : List Stmt} {tc : TT} {tb : TS} (hp : PassesOwn (model X.prog X.w) X.A X.env X.xe) (hc : PT X c tc) (hb : PSs X body tb) : PS X (.While c body [] pos) (tWhile tc tb) := by
  intro pins s σ H D I h
  obtain ⟨W, ⟨m0, w0⟩, turn⟩ := h
  refine wpAny_While (codeAny_whileLoop (fun n s' => ∃ σ' H', Inv X pins σ' H' s' ∧ W n σ' H') ?_ m0 ⟨σ, H, I, w0⟩)
  rintro n s1 ⟨σ1, H1, I1, w1⟩
  refine wpAny_passesOwn hp (thn (hc pins s1 σ1 H1 _ I1 (turn n σ1 H1 w1)) fun b s2 ⟨H2, I2, q2⟩ => ?_)
  cases b with
  | true =>
    obtain ⟨N, hN, q2⟩ := q2
    rw [if_pos rfl]
    refine wpAny_passesOwn hp (thn (hb pins s2 σ1 H2 _ I2 q2) fun f s3 q3 => ?_)
    cases f with
    | next =>
      obtain ⟨σ3, H3, I3, n3⟩ := q3
      obtain ⟨m', hm, w3⟩ := hN σ3 H3 n3
      exact ⟨m', hm, σ3, H3, I3, w3⟩
    | cont =>
      obtain ⟨σ3, H3, I3, n3⟩ := q3
      obtain ⟨m', hm, w3⟩ := hN σ3 H3 n3
      exact ⟨m', hm, σ3, H3, I3, w3⟩
    | brk => exact q3
    | ret v => exact q3
  | false =>
    rw [if_neg Bool.false_ne_true]
    exact wpAny_execs_nil ⟨σ1, H2, I2, q2⟩
end

structure It where
  go : Nat → Hp → Prop
  yld : Nat → Hp → V → Hp → Prop
  stop : Nat → Hp → Prop
def FpOk (X : Cx) (pins : List (Addr × Obj)) (H : Hp) (b : Addr) : Prop :=
  H b = none ∧ b ≠ X.env.locals ∧ b ∉ X.fs ∧ (b ∈ X.ex ∨ X.s₀.heap.objs.size ≤ b) ∧ (∀ x c, X.env.cells.lookup x = some c → c ≠ b) ∧ ∀ p ∈ X.pn ++ pins, p.1 ≠ b
theorem Inv.fpOk {X : Cx} {pins : List (Addr × Obj)} {σ : St} {H H' : Hp} {s : Shared} {b : Addr} (I : Inv X pins σ H s) (hb : s.heap.objs.size ≤ b) (hn : H' b = none) : FpOk X pins H' b := by
  refine ⟨hn, Nat.ne_of_gt (Nat.lt_of_lt_of_le I.lt hb), I.nofs hb, .inr (Nat.le_trans I.sz hb), fun x c e z => ?_, fun p hp z => ?_⟩
  · obtain ⟨v, q⟩ := I.cell x c e
    exact absurd (Nat.lt_of_lt_of_le q.lt (by rw [z]; exact hb)) (Nat.lt_irrefl _)
  · exact absurd (Nat.lt_of_lt_of_le (Heap.lt_size (I.pin p hp).1) (by rw [z]; exact hb)) (Nat.lt_irrefl _)
structure Turn (P : Program) (w : World) (K : PySem.W.Frag) (tg : Expr) (J : It) (fp : List Addr) (it : Addr) (tn : Nat → Heap → Prop) : Prop where
  mem : it ∈ fp
  obj : ∀ i h, tn i h → ∀ b ∈ fp, ∃ o, h.get? b = some o ∧ ∀ v, o.data ≠ .cell v
  keep : ∀ i h h', tn i h → (∀ b ∈ fp, ∀ o, h.get? b = some o → h'.get? b = some o) → tn i h'
  item : ∀ (X : Cx), X.prog = P → X.w = w → X.K = K → X.still = true → ∀ (i : Nat) (pins : List (Addr × Obj)) (s : Shared) (σ : St) (H : Hp) (E : Value → Shared → Prop), Inv X pins σ H s → (∀ b ∈ fp, FpOk X pins H b) → tn i s.heap → J.go i H →
    wpAny (model P w) X.A (pyNext (.ref it)) (fun r s1 => ∃ u, r = some u ∧
      wpAny (model P w) X.A (letOwnedTupleGo tg (.ref it) u) (fun _ s2 => ∃ x H', Inv X pins σ H' s2 ∧ RelV x u ∧ J.yld i H x H' ∧ tn (i + 1) s2.heap ∧ ∀ b ∈ fp, H' b = none) E s1) E s
  done : ∀ (X : Cx), X.prog = P → X.w = w → X.K = K → X.still = true → ∀ (i : Nat) (pins : List (Addr × Obj)) (s : Shared) (σ : St) (H : Hp) (E : Value → Shared → Prop), Inv X pins σ H s → (∀ b ∈ fp, FpOk X pins H b) → tn i s.heap → J.stop i H →
    wpAny (model P w) X.A (pyNext (.ref it)) (fun r s1 => r = none ∧ Inv X pins σ H s1) E s
  self : ∀ (A : Around) (i : Nat) (s : Shared) (Q : Value → Shared → Prop) (E : Value → Shared → Prop), tn i s.heap → Q (.ref it) s → wpAny (model P w) A (pyIter (.ref it)) Q E s
abbrev TI := St → Hp → (It → Hp → Prop) → Prop
def PIE (X : Cx) (pins : List (Addr × Obj)) (σ : St) (tg : Expr) (R : It → Hp → Prop) (itv : Value) (s2 : Shared) : Prop :=
  ∃ (it : Addr) (fp : List Addr) (tn : Nat → Heap → Prop) (J : It) (H' : Hp), itv = .ref it ∧ Inv X pins σ H' s2 ∧ Turn X.prog X.w X.K tg J fp it tn ∧ tn 0 s2.heap ∧ (∀ b ∈ fp, FpOk X pins H' b) ∧ R J H'
def PI (X : Cx) (tg iter : Expr) (wi : TI) : Prop :=
  ∀ (pins : List (Addr × Obj)) (s : Shared) (σ : St) (H : Hp) (R : It → Hp → Prop), Inv X pins σ H s → wi σ H R →
    wpAny (model X.prog X.w) X.A (eval iter X.env) (fun v s1 => wpAny (model X.prog X.w) X.A (pyIter v) (PIE X pins σ tg R) X.xe s1) X.xe s

theorem go_of {M : Model} {A : Around} {E : Value → Shared → Prop} {s : Shared} {tg : Expr} {it : Addr} {u : Value} {o : Obj} {n : String} {vs : Array Value} {Q : Unit → Shared → Prop} (ho : s.heap.get? it = some o) (hc : o.cls = .type n) (hd : o.data = .fields vs)
    (hn : ["enumerate", "zip", "dict_itemiterator", "dict_reverseitemiterator", "odict_iterator", "itertools.zip_longest", "itertools.pairwise"].contains n = false) (hQ : Q () s) : wpAny M A (letOwnedTupleGo tg (.ref it) u) Q E s := by
  unfold letOwnedTupleGo
  cases tg <;> first
    | exact wpAny_pure hQ
    | (cases u <;> first
        | exact wpAny_pure hQ
        | (refine wpAny_bind (wpAny_load ho ?_)
           rw [hc, hd]
           show wpAny M A (if (["enumerate", "zip", "dict_itemiterator", "dict_reverseitemiterator", "odict_iterator", "itertools.zip_longest", "itertools.pairwise"].contains n && vs[0]? == some (rawInt _)) = true then _ else _) Q E s
           rw [if_neg (by intro h; rw [hn, Bool.false_and] at h; cases h)]
           exact wpAny_pure hQ))

def Itl (K : PySem.W.Frag) (a : Addr) : It :=
  ⟨fun i H => ∃ xs x, SqL K H a xs ∧ xs[i]? = some x, fun i H x H' => H' = H ∧ ∀ xs, SqL K H a xs → xs[i]? = some x, fun i H => ∃ xs, SqL K H a xs ∧ xs.length ≤ i⟩
def Itt (K : PySem.W.Frag) (a : Addr) : It :=
  ⟨fun i H => ∃ xs x, SqT K H a xs ∧ xs[i]? = some x, fun i H x H' => H' = H ∧ ∀ xs, SqT K H a xs → xs[i]? = some x, fun i H => ∃ xs, SqT K H a xs ∧ xs.length ≤ i⟩
def Itr (lo : Int) (n : Nat) : It := ⟨fun i _ => i < n, fun i H x H' => H' = H ∧ x = .int (lo + i), fun i _ => n ≤ i⟩
theorem turn_list {P : Program} {w : World} {K : PySem.W.Frag} {tg : Expr} (a it : Addr) : Turn P w K tg (Itl K a) [it] it (fun i h => h.IsListIter it a i) where
  mem := by simp
  obj := fun i h st b hb => by
    have e : b = it := by simpa using hb
    subst e
    obtain ⟨o, e, c, d⟩ := st
    exact ⟨o, e, fun v z => by rw [d] at z; cases z⟩
  keep := fun i h h' st k => st.at fun o e => k it (by simp) o e
  item := by
    intro X hP hw hK hc i pins s σ H E I hf st hg
    subst hP hw hK
    obtain ⟨xs, x, hq, hx⟩ := hg
    obtain ⟨its, rv, p, hz⟩ := I.list hq
    obtain ⟨u, hu, ru⟩ := rv.get hx
    obtain ⟨f0, f1, f2, f3, f4, f5⟩ := hf it (by simp)
    refine wpAny_pyNext_list_item st p.isList (x := u) (by simpa using hu) fun h' st' sb => ?_
    have I1 : Inv X pins σ H { s with heap := h' } := I.turned (t' := s.toks) (fun b o hb e => (sb.2 b hb).trans e) f0 f1 f3 f4 f5
    obtain ⟨o, e, c, d⟩ := id st'
    exact ⟨u, rfl, go_of (s := { s with heap := h' }) e c d (by decide) ⟨x, H, I1, ru, ⟨rfl, fun ys hy => by rw [I.list_inj hy hq]; exact hx⟩, st', fun b hb => (hf b hb).1⟩⟩
  done := by
    intro X hP hw hK hc i pins s σ H E I hf st hg
    subst hP hw hK
    obtain ⟨xs, hq, hx⟩ := hg
    obtain ⟨its, rv, p, hz⟩ := I.list hq
    obtain ⟨f0, f1, f2, f3, f4, f5⟩ := hf it (by simp)
    have hl := rv.length
    exact list_end_still (I.stl hc) (I.stn hc f0) st p.isList (by simp; omega) fun h' eb => ⟨rfl, I.turned (t' := s.toks) (fun b o hb e => eb b o hb e) f0 f1 f3 f4 f5⟩
  self := fun _ _ _ _ _ st h => wpAny_pyIter_listiter st h
theorem turn_tuple {P : Program} {w : World} {K : PySem.W.Frag} {tg : Expr} (a it : Addr) : Turn P w K tg (Itt K a) [it] it (fun i h => h.IsTupleIter it a i) where
  mem := by simp
  obj := fun i h st b hb => by
    have e : b = it := by simpa using hb
    subst e
    obtain ⟨o, e, c, d⟩ := st
    exact ⟨o, e, fun v z => by rw [d] at z; cases z⟩
  keep := fun i h h' st k => st.at fun o e => k it (by simp) o e
  item := by
    intro X hP hw hK hc i pins s σ H E I hf st hg
    subst hP hw hK
    obtain ⟨xs, x, hq, hx⟩ := hg
    obtain ⟨its, rv, p, hz⟩ := I.tuple hq
    obtain ⟨u, hu, ru⟩ := rv.get hx
    obtain ⟨f0, f1, f2, f3, f4, f5⟩ := hf it (by simp)
    refine wpAny_pyNext_tuple_item st (show s.heap.IsTuple a its.toArray from p) (x := u) (by simpa using hu) fun h' st' sb => ?_
    have I1 : Inv X pins σ H { s with heap := h' } := I.turned (t' := s.toks) (fun b o hb e => (sb.2 b hb).trans e) f0 f1 f3 f4 f5
    obtain ⟨o, e, c, d⟩ := id st'
    exact ⟨u, rfl, go_of (s := { s with heap := h' }) e c d (by decide) ⟨x, H, I1, ru, ⟨rfl, fun ys hy => by rw [I.tuple_inj hy hq]; exact hx⟩, st', fun b hb => (hf b hb).1⟩⟩
  done := by
    intro X hP hw hK hc i pins s σ H E I hf st hg
    subst hP hw hK
    obtain ⟨xs, hq, hx⟩ := hg
    obtain ⟨its, rv, p, hz⟩ := I.tuple hq
    obtain ⟨f0, f1, f2, f3, f4, f5⟩ := hf it (by simp)
    have hl := rv.length
    exact tuple_end_still (I.stl hc) (I.stn hc f0) st (show s.heap.IsTuple a its.toArray from p) (by simp; omega) fun h' eb => ⟨rfl, I.turned (t' := s.toks) (fun b o hb e => eb b o hb e) f0 f1 f3 f4 f5⟩
  self := fun _ _ _ _ _ st h => wpAny_pyIter_tupleiter st h
theorem turn_range {P : Program} {w : World} {K : PySem.W.Frag} {tg : Expr} (it : Addr) (lo : Int) (n : Nat) : Turn P w K tg (Itr lo n) [it] it (fun i h => IsRangeIter h it (lo + (i : Nat) * 1) ((n : Int) - (i : Nat)) 1) where
  mem := by simp
  obj := fun i h st b hb => by
    have e : b = it := by simpa using hb
    subst e
    exact ⟨_, st, fun v z => by
      have z' : Data.fields _ = Data.cell v := z
      cases z'⟩
  keep := fun i h h' st k => k it (by simp) _ st
  item := by
    intro X hP hw hK hc i pins s σ H E I hf st hg
    subst hP hw hK
    obtain ⟨f0, f1, f2, f3, f4, f5⟩ := hf it (by simp)
    refine range_item_still (c := 1) hg st fun v h' tk hv st' kk => ?_
    obtain ⟨t, rfl⟩ := hv
    have I1 : Inv X pins σ H { s with heap := h', toks := tk } := I.turned (fun b o hb e => kk b o (by simpa using hb) e) f0 f1 f3 f4 f5
    refine ⟨_, rfl, go_of (s := { s with heap := h', toks := tk }) (n := "range_iterator") st' rfl rfl (by decide) ⟨.int (lo + i), H, I1, ⟨t, ?_⟩, ⟨rfl, rfl⟩, st', fun b hb => (hf b hb).1⟩⟩
    rw [Int.mul_one]
  done := by
    intro X hP hw hK hc i pins s σ H E I hf st hg
    subst hP hw hK
    obtain ⟨f0, f1, f2, f3, f4, f5⟩ := hf it (by simp)
    exact range_end_still (I.stl hc) st (by have : n ≤ i := hg; omega) fun h' eb => ⟨rfl, I.turned (t' := s.toks) (fun b o hb e => eb b o hb e) f0 f1 f3 f4 f5⟩
  self := fun _ _ _ _ _ st h => wpAny_pyIter_rangeiter st h
end L2

namespace L2
open PySem PySem.Spec PyProof.Rows
section
variable {X : Cx} {tg : Expr}
def iList (K : PySem.W.Frag) (tl : TE) : TI := fun σ H R => tl σ H fun x H1 => ∃ a, x = .ref a ∧ (∃ xs, SqL K H1 a xs) ∧ R (Itl K a) H1
def iTup (K : PySem.W.Frag) (tl : TE) : TI := fun σ H R => tl σ H fun x H1 => ∃ a, x = .ref a ∧ (∃ xs, SqT K H1 a xs) ∧ R (Itt K a) H1
theorem pi_list {l : Expr} {tl : TE} (hl : PE X l tl) : PI X tg l (iList X.K tl) := by
  intro pins s σ H R I h
  refine thn (hl pins s σ H _ I h) fun v s1 ⟨x, H1, I1, r1, q1⟩ => ?_
  obtain ⟨a, e, ⟨xs, hq⟩, q⟩ := q1
  subst e
  cases r1
  obtain ⟨its, rv, p, hz⟩ := I1.list hq
  refine wpAny_pyIter_list p.isList ?_
  refine ⟨s1.heap.objs.size, [s1.heap.objs.size], _, _, H1, rfl, I1.kept (t' := s1.toks) fun b o e => Heap.get?_push_of_some _ e, turn_list a _, ⟨_, Heap.get?_push_size _ rfl, rfl, rfl⟩, fun b hb => ?_, q⟩
  have e : b = s1.heap.objs.size := by simpa using hb
  subst e
  exact I1.fpOk (Nat.le_refl _) (I1.hok.fresh (Nat.le_refl _))
theorem pi_tup {l : Expr} {tl : TE} (hl : PE X l tl) : PI X tg l (iTup X.K tl) := by
  intro pins s σ H R I h
  refine thn (hl pins s σ H _ I h) fun v s1 ⟨x, H1, I1, r1, q1⟩ => ?_
  obtain ⟨a, e, ⟨xs, hq⟩, q⟩ := q1
  subst e
  cases r1
  obtain ⟨its, rv, p, hz⟩ := I1.tuple hq
  refine wpAny_pyIter_tuple (show s1.heap.IsTuple a its.toArray from p) ?_
  refine ⟨s1.heap.objs.size, [s1.heap.objs.size], _, _, H1, rfl, I1.kept (t' := s1.toks) fun b o e => Heap.get?_push_of_some _ e, turn_tuple a _, ⟨_, Heap.get?_push_size _ rfl, rfl, rfl⟩, fun b hb => ?_, q⟩
  have e : b = s1.heap.objs.size := by simpa using hb
  subst e
  exact I1.fpOk (Nat.le_refl _) (I1.hok.fresh (Nat.le_refl _))
theorem range_it {pins : List (Addr × Obj)} {σ : St} {H : Hp} {s : Shared} {R : It → Hp → Prop} {E : Value → Shared → Prop} {lo hi : Int} {t u v : Tok} {tk : Nat} (I : Inv X pins σ H s) (h1 : -(2 ^ 62) ≤ lo) (h2 : lo < 2 ^ 62) (h3 : -(2 ^ 62) ≤ hi) (h4 : hi < 2 ^ 62)
    (q : R (Itr lo (hi - lo).toNat) H) : wpAny (model X.prog X.w) X.A (pyIter (.ref s.heap.objs.size)) (PIE X pins σ tg R) E { s with heap := s.heap.push { cls := .type "range", data := .fields #[.int lo t, .int hi u, .int 1 v] }, toks := tk } := by
  refine wpAny_pyIter_range (IsRange.new ..) (small_one h1 h2 h3 h4) ?_
  have I1 : Inv X pins σ H { s with heap := s.heap.push { cls := .type "range", data := .fields #[.int lo t, .int hi u, .int 1 v] }, toks := tk } := I.kept fun b o e => Heap.get?_push_of_some _ e
  refine ⟨(s.heap.push { cls := .type "range", data := .fields #[.int lo t, .int hi u, .int 1 v] }).objs.size, [(s.heap.push { cls := .type "range", data := .fields #[.int lo t, .int hi u, .int 1 v] }).objs.size], _, _, H, rfl,
    I1.kept (t' := tk) fun b o e => Heap.get?_push_of_some _ e, turn_range _ lo (hi - lo).toNat, ?_, fun b hb => ?_, q⟩
  · have e1 : lo + ((0 : Nat) : Int) * 1 = lo := by simp
    have e2 : (((hi - lo).toNat : Nat) : Int) - ((0 : Nat) : Int) = Builtin.Range.rangeSize lo hi 1 := by rw [rangeSize_one]; split <;> omega
    show IsRangeIter _ _ (lo + ((0 : Nat) : Int) * 1) ((((hi - lo).toNat : Nat) : Int) - ((0 : Nat) : Int)) 1
    rw [e1, e2]
    exact Heap.get?_push_size _ rfl
  · have e : b = (s.heap.push { cls := .type "range", data := .fields #[.int lo t, .int hi u, .int 1 v] }).objs.size := by simpa using hb
    subst e
    exact I1.fpOk (Nat.le_refl _) (I1.hok.fresh (Nat.le_refl _))
def iRng1 (ta : TA) : TI := fun σ H R => ta σ H fun vs H1 => ∃ j : Int, vs = [.int j] ∧ -(2 ^ 62) ≤ j ∧ j < 2 ^ 62 ∧ R (Itr 0 j.toNat) H1
def iRng2 (ta : TA) : TI := fun σ H R => ta σ H fun vs H1 => ∃ i j : Int, vs = [.int i, .int j] ∧ (-(2 ^ 62) ≤ i ∧ i < 2 ^ 62 ∧ -(2 ^ 62) ≤ j ∧ j < 2 ^ 62) ∧ R (Itr i (j - i).toNat) H1
theorem pi_range1 {a : Expr} {ta : TA} {p pos : Pos} (hg : Gl X "range") (hm : X.mg "range" = none) (ha : PA X [a] ta) (hs : starEach [a] X.env = [(false, eval a X.env)] := by rfl) : PI X tg (.Call (.Name "range" p) [a] [] pos) (iRng1 ta) := by
  intro pins s σ H R I h
  refine Call_ (ld_blt I hg hm boot_range (PyProof.Rows.callWith_type1 (thn (ha pos pins s σ H _ I h) fun us s1 ⟨vs, H1, I1, r1, q1⟩ => ?_) hs rfl))
  obtain ⟨j, e, q1, q2, q⟩ := q1
  subst e
  cases r1 with
  | cons r rr =>
    cases rr
    obtain ⟨t, rfl⟩ := r
    exact call_range_1 (range_it I1 (by omega) (by omega) q1 q2 (by simpa using q))
def tFor (wi : TI) (g : TG) (tb : TS) : TS := fun D σ H => wi σ H fun J H1 => ∃ W : Nat → Nat → St → Hp → Prop, (∃ m, W 0 m σ H1) ∧ ∀ i m σ H, W i m σ H →
  (J.stop i H ∧ D.nx σ H) ∨ (J.go i H ∧ ∃ N : St → Hp → Prop, (∀ σ' H', N σ' H' → ∃ m', m' < m ∧ W (i + 1) m' σ' H') ∧ ∀ x H', J.yld i H x H' → g x σ H' fun σ2 H2 => tb { D with nx := N, ct := N, bk := D.nx } σ2 H2)
def pinsAt (fp : List Addr) (h : Heap) : List (Addr × Obj) := fp.filterMap fun b => (h.get? b).map fun o => (b, o)
theorem mem_pinsAt {fp : List Addr} {h : Heap} {b : Addr} {o : Obj} (hb : b ∈ fp) (e : h.get? b = some o) : (b, o) ∈ pinsAt fp h := List.mem_filterMap.mpr ⟨b, hb, by rw [e]; rfl⟩
theorem of_pinsAt {fp : List Addr} {h : Heap} {p : Addr × Obj} (hp : p ∈ pinsAt fp h) : p.1 ∈ fp ∧ h.get? p.1 = some p.2 := by
  obtain ⟨b, hb, e⟩ := List.mem_filterMap.mp hp
  cases q : h.get? b with
  | none => rw [q] at e; cases e
  | some o =>
    rw [q] at e
    have e' : (b, o) = p := Option.some.inj e
    subst e'
    exact ⟨hb, q⟩
theorem Inv.pinned {pins : List (Addr × Obj)} {σ : St} {H : Hp} {s : Shared} {fp : List Addr} (I : Inv X pins σ H s) (hf : ∀ b ∈ fp, FpOk X pins H b) (ho : ∀ b ∈ fp, ∃ o, s.heap.get? b = some o ∧ ∀ v, o.data ≠ .cell v) : Inv X (pins ++ pinsAt fp s.heap) σ H s :=
  I.pins_of fun p hp => (List.mem_append.mp hp).elim (fun z => I.pin p (List.mem_append_right _ z)) fun z => by
    obtain ⟨hb, e⟩ := of_pinsAt z
    obtain ⟨f0, f1, f2, _⟩ := hf p.1 hb
    obtain ⟨o, e', d⟩ := ho p.1 hb
    rw [e] at e'; cases e'
    exact ⟨e, f0, f1, f2, d⟩
theorem Inv.unpinned {pins pl : List (Addr × Obj)} {σ : St} {H : Hp} {s : Shared} (I : Inv X (pins ++ pl) σ H s) : Inv X pins σ H s := I.pins_of fun p hp => I.pin p (List.mem_append_right _ (List.mem_append_left _ hp))
theorem ps_for {iter : Expr} {body : List Stmt} {wi : TI} {g : TG} {tb : TS} {pos : Pos} (hp : PassesOwn (model X.prog X.w) X.A X.env X.xe) (hc : X.still = true) (hi : PI X tg iter wi) (hg : PG X tg g) (hb : PSs X body tb)
    (hs : ∀ x, foldedSetIterable iter X.env x = pure x := by intro _; rfl) : PS X (.For tg iter body [] pos) (tFor wi g tb) := by
  intro pins s σ H D I h
  refine wpAny_For (thn (hi pins s σ H _ I h) fun v s1 h1 => thn h1 fun itv s2 h2 => ?_) hs
  obtain ⟨it, fp, tn, J, H2, e, I2, T, st2, f2, W, ⟨m0, w0⟩, turn⟩ := h2
  subst e
  -- what stays true of the iterator's objects through the loop
  have stat : ∀ {H' : Hp}, (∀ b ∈ fp, H' b = none) → ∀ b ∈ fp, FpOk X pins H' b := fun hn b hb => ⟨hn b hb, (f2 b hb).2⟩
  refine codeAny_forLoop_any (fun n s' => ∃ i σ' H', Inv X pins σ' H' s' ∧ tn i s'.heap ∧ (∀ b ∈ fp, H' b = none) ∧ W i n σ' H') ?_ m0 ⟨0, σ, H2, I2, st2, fun b hb => (f2 b hb).1, w0⟩
  rintro n s3 ⟨i, σ3, H3, I3, st3, fr3, w3⟩
  rcases turn i n σ3 H3 w3 with ⟨stop, qn⟩ | ⟨go, N, hN, step⟩
  · refine wpAny_passesOwn hp (thn (T.done X rfl rfl rfl hc i pins s3 σ3 H3 X.xe I3 (stat fr3) st3 stop) fun r s4 ⟨hr, I4⟩ => ?_)
    subst hr
    exact wpAny_execs_nil ⟨σ3, H3, I4, qn⟩
  · refine wpAny_passesOwn hp (thn (T.item X rfl rfl rfl hc i pins s3 σ3 H3 X.xe I3 (stat fr3) st3 go) fun r s4 ⟨u, hr, h4⟩ => ?_)
    subst hr
    refine wpAny_passesOwn hp (thn h4 fun _ s5 ⟨x, H5, I5, r5, y5, st5, fr5⟩ => ?_)
    have I5' := I5.pinned (stat fr5) (T.obj _ _ st5)
    refine wpAny_passesOwn hp (thn (hg _ s5 σ3 H5 x u _ I5' r5 (step x H5 y5)) fun _ s6 ⟨σ6, H6, I6, q6⟩ => ?_)
    refine wpAny_passesOwn hp (thn (hb _ s6 σ6 H6 _ I6 q6) fun f s7 q7 => ?_)
    have again : ∀ {σ7 : St} {H7 : Hp}, Inv X (pins ++ pinsAt fp s5.heap) σ7 H7 s7 → N σ7 H7 → ∃ m, m < n ∧ ∃ i σ' H', Inv X pins σ' H' s7 ∧ tn i s7.heap ∧ (∀ b ∈ fp, H' b = none) ∧ W i m σ' H' := fun {σ7 H7} I7 n7 => by
      obtain ⟨m', hm, w7⟩ := hN σ7 H7 n7
      refine ⟨m', hm, i + 1, σ7, H7, I7.unpinned, T.keep _ _ _ st5 fun b hb o e => (I7.pin (b, o) (List.mem_append_right _ (List.mem_append_right _ (mem_pinsAt hb e)))).1, fun b hb => ?_, w7⟩
      obtain ⟨o, e, d⟩ := T.obj _ _ st5 b hb
      exact (I7.pin (b, o) (List.mem_append_right _ (List.mem_append_right _ (mem_pinsAt hb e)))).2.1
    cases f with
    | next => obtain ⟨σ7, H7, I7, n7⟩ := q7; exact again I7 n7
    | cont => obtain ⟨σ7, H7, I7, n7⟩ := q7; exact again I7 n7
    | brk => obtain ⟨σ7, H7, I7, q7⟩ := q7; exact ⟨σ7, H7, I7.unpinned, q7⟩
    | ret v => obtain ⟨x7, σ7, H7, I7, r7, q7⟩ := q7; exact ⟨x7, σ7, H7, I7.unpinned, r7, q7⟩
end

theorem for_list {K : PySem.W.Frag} {a : Addr} {xs : List V} {g : TG} {tb : TS} {D : Ends} {σ : St} {H : Hp} (Pv : Nat → St → Hp → Prop) (h0 : Pv 0 σ H) (hl : ∀ i σ H, i ≤ xs.length → Pv i σ H → SqL K H a xs)
    (hs : ∀ i x σ H, xs[i]? = some x → Pv i σ H → g x σ H fun σ2 H2 => tb { D with nx := Pv (i + 1), ct := Pv (i + 1), bk := D.nx } σ2 H2) (hd : ∀ σ H, Pv xs.length σ H → D.nx σ H) :
    ∃ W : Nat → Nat → St → Hp → Prop, (∃ m, W 0 m σ H) ∧ ∀ i m σ H, W i m σ H →
      ((Itl K a).stop i H ∧ D.nx σ H) ∨ ((Itl K a).go i H ∧ ∃ N : St → Hp → Prop, (∀ σ' H', N σ' H' → ∃ m', m' < m ∧ W (i + 1) m' σ' H') ∧ ∀ x H', (Itl K a).yld i H x H' → g x σ H' fun σ2 H2 => tb { D with nx := N, ct := N, bk := D.nx } σ2 H2) := by
  refine ⟨fun i m σ H => m = xs.length - i ∧ i ≤ xs.length ∧ Pv i σ H, ⟨xs.length, by simp, Nat.zero_le _, h0⟩, ?_⟩
  rintro i m σ H ⟨rfl, hi, p⟩
  have q := hl i σ H hi p
  by_cases hlt : i < xs.length
  · refine .inr ⟨⟨xs, xs[i], q, by simp [hlt]⟩, Pv (i + 1), fun σ' H' p' => ⟨xs.length - (i + 1), by omega, rfl, hlt, p'⟩, fun x H' y => ?_⟩
    obtain ⟨e, y⟩ := y
    subst e
    exact hs i x σ _ (y xs q) p
  · have e : i = xs.length := by omega
    subst e
    exact .inl ⟨⟨xs, q, Nat.le_refl _⟩, hd σ H p⟩
theorem for_tup {K : PySem.W.Frag} {a : Addr} {xs : List V} {g : TG} {tb : TS} {D : Ends} {σ : St} {H : Hp} (Pv : Nat → St → Hp → Prop) (h0 : Pv 0 σ H) (hl : ∀ i σ H, i ≤ xs.length → Pv i σ H → SqT K H a xs)
    (hs : ∀ i x σ H, xs[i]? = some x → Pv i σ H → g x σ H fun σ2 H2 => tb { D with nx := Pv (i + 1), ct := Pv (i + 1), bk := D.nx } σ2 H2) (hd : ∀ σ H, Pv xs.length σ H → D.nx σ H) :
    ∃ W : Nat → Nat → St → Hp → Prop, (∃ m, W 0 m σ H) ∧ ∀ i m σ H, W i m σ H →
      ((Itt K a).stop i H ∧ D.nx σ H) ∨ ((Itt K a).go i H ∧ ∃ N : St → Hp → Prop, (∀ σ' H', N σ' H' → ∃ m', m' < m ∧ W (i + 1) m' σ' H') ∧ ∀ x H', (Itt K a).yld i H x H' → g x σ H' fun σ2 H2 => tb { D with nx := N, ct := N, bk := D.nx } σ2 H2) := by
  refine ⟨fun i m σ H => m = xs.length - i ∧ i ≤ xs.length ∧ Pv i σ H, ⟨xs.length, by simp, Nat.zero_le _, h0⟩, ?_⟩
  rintro i m σ H ⟨rfl, hi, p⟩
  have q := hl i σ H hi p
  by_cases hlt : i < xs.length
  · refine .inr ⟨⟨xs, xs[i], q, by simp [hlt]⟩, Pv (i + 1), fun σ' H' p' => ⟨xs.length - (i + 1), by omega, rfl, hlt, p'⟩, fun x H' y => ?_⟩
    obtain ⟨e, y⟩ := y
    subst e
    exact hs i x σ _ (y xs q) p
  · have e : i = xs.length := by omega
    subst e
    exact .inl ⟨⟨xs, q, Nat.le_refl _⟩, hd σ H p⟩
theorem for_range {lo : Int} {n : Nat} {g : TG} {tb : TS} {D : Ends} {σ : St} {H : Hp} (Pv : Nat → St → Hp → Prop) (h0 : Pv 0 σ H)
    (hs : ∀ i σ H, i < n → Pv i σ H → g (.int (lo + i)) σ H fun σ2 H2 => tb { D with nx := Pv (i + 1), ct := Pv (i + 1), bk := D.nx } σ2 H2) (hd : ∀ σ H, Pv n σ H → D.nx σ H) :
    ∃ W : Nat → Nat → St → Hp → Prop, (∃ m, W 0 m σ H) ∧ ∀ i m σ H, W i m σ H →
      ((Itr lo n).stop i H ∧ D.nx σ H) ∨ ((Itr lo n).go i H ∧ ∃ N : St → Hp → Prop, (∀ σ' H', N σ' H' → ∃ m', m' < m ∧ W (i + 1) m' σ' H') ∧ ∀ x H', (Itr lo n).yld i H x H' → g x σ H' fun σ2 H2 => tb { D with nx := N, ct := N, bk := D.nx } σ2 H2) := by
  refine ⟨fun i m σ H => m = n - i ∧ i ≤ n ∧ Pv i σ H, ⟨n, by simp, Nat.zero_le _, h0⟩, ?_⟩
  rintro i m σ H ⟨rfl, hi, p⟩
  by_cases hlt : i < n
  · refine .inr ⟨hlt, Pv (i + 1), fun σ' H' p' => ⟨n - (i + 1), by omega, rfl, hlt, p'⟩, fun x H' y => ?_⟩
    obtain ⟨e, y⟩ := y
    subst e y
    exact hs i σ _ hlt p
  · have e : i = n := by omega
    subst e
    exact .inl ⟨Nat.le_refl _, hd σ H p⟩
end L2

namespace L2
open PySem PySem.Spec PyProof.Rows

abbrev R2 := V → V → Hp → VK → Prop
def OpR (X : Cx) (f : Value → Value → Sem Value) (r : R2) : Prop :=
  ∀ (pins : List (Addr × Obj)) (s : Shared) (σ : St) (H : Hp) (x y : V) (v u : Value) (Q : VK), Inv X pins σ H s → RelV x v → RelV y u → r x y H Q →
    wpAny (model X.prog X.w) X.A (f v u) (EP X pins σ Q) X.xe s
def UnR (X : Cx) (f : Value → Sem Value) (r : V → Hp → VK → Prop) : Prop :=
  ∀ (pins : List (Addr × Obj)) (s : Shared) (σ : St) (H : Hp) (x : V) (v : Value) (Q : VK), Inv X pins σ H s → RelV x v → r x H Q →
    wpAny (model X.prog X.w) X.A (f v) (EP X pins σ Q) X.xe s
def CallR (X : Cx) (f : Value) (r : List V → Hp → VK → Prop) : Prop :=
  ∀ (pins : List (Addr × Obj)) (s : Shared) (σ : St) (H : Hp) (xs : List V) (us : List Value) (Q : VK), Inv X pins σ H s → Vals xs us → r xs H Q →
    wpAny (model X.prog X.w) X.A (call f us) (EP X pins σ Q) X.xe s
def TruR (X : Cx) (r : V → Hp → (Bool → Hp → Prop) → Prop) : Prop :=
  ∀ (pins : List (Addr × Obj)) (s : Shared) (σ : St) (H : Hp) (x : V) (v : Value) (Q : Bool → Hp → Prop), Inv X pins σ H s → RelV x v → r x H Q →
    wpAny (model X.prog X.w) X.A (truthy v) (TP X pins σ Q) X.xe s

def tOp (r : R2) (ta tb : TE) : TE := fun σ H Q => ta σ H fun x H1 => tb σ H1 fun y H2 => r x y H2 Q
def tUn (r : V → Hp → VK → Prop) (ta : TE) : TE := fun σ H Q => ta σ H fun x H1 => r x H1 Q
def rI (C : Int → Int → Prop) (g : Int → Int → V) : R2 := fun x y H Q => ∃ i j, x = .int i ∧ y = .int j ∧ C i j ∧ Q (g i j) H
def rI0 (g : Int → Int → V) : R2 := fun x y H Q => ∃ i j, x = .int i ∧ y = .int j ∧ Q (g i j) H
def rU (g : Int → V) : V → Hp → VK → Prop := fun x H Q => ∃ i, x = .int i ∧ Q (g i) H

section
variable {X : Cx} {a b c : Expr} {ta tb tc : TE} {pos : Pos}

theorem binT (ha : PE X a ta) (hb : PE X b tb) {pins : List (Addr × Obj)} {s : Shared} {σ : St} {H : Hp} {R : V → V → Hp → Prop} (I : Inv X pins σ H s)
    (h : ta σ H fun x H1 => tb σ H1 fun y H2 => R x y H2) {Q : Value → Shared → Prop} {f : Value → Value → Sem Value}
    (hf : ∀ v u s2 x y H2, Inv X pins σ H2 s2 → RelV x v → RelV y u → R x y H2 → wpAny (model X.prog X.w) X.A (f v u) Q X.xe s2) :
    wpAny (model X.prog X.w) X.A (eval a X.env) (fun v s₁ => wpAny (model X.prog X.w) X.A (eval b X.env) (fun u s₂ => wpAny (model X.prog X.w) X.A (f v u) Q X.xe s₂) X.xe s₁) X.xe s := by
  refine thn (ha pins s σ H _ I h) fun v s1 ⟨x, H1, I1, r1, q1⟩ => ?_
  refine thn (hb pins s1 σ H1 _ I1 q1) fun u s2 ⟨y, H2, I2, r2, q2⟩ => ?_
  exact hf v u s2 x y H2 I2 r1 r2 q2

theorem pe_op {op : Operator} {r : R2} (ho : OpR X (binaryOp op) r) (ha : PE X a ta) (hb : PE X b tb) : PE X (.BinOp a op b pos) (tOp r ta tb) := by
  intro pins s σ H Q I h
  exact wpAny_BinOp (binT ha hb I h fun v u s2 x y H2 I2 rx ry q => ho pins s2 σ H2 x y v u Q I2 rx ry q)
theorem pe_un {op : UnaryOp} {r : V → Hp → VK → Prop} (ho : UnR X (unaryOp op) r) (ha : PE X a ta) : PE X (.UnaryOp op a pos) (tUn r ta) := by
  intro pins s σ H Q I h
  exact UnaryOp_ (thn (ha pins s σ H _ I h) fun v s1 ⟨x, H1, I1, r1, q1⟩ => ho pins s1 σ H1 x v Q I1 r1 q1)
theorem opI {f : Value → Value → Sem Value} {C : Int → Int → Prop} {g : Int → Int → Int}
    (rule : ∀ (i j : Int) (t u : Tok) (s : Shared) (Q : Value → Shared → Prop) (E : Value → Shared → Prop), C i j → Q (.int (g i j) s.toks) { s with toks := s.toks + 1 } → wpAny (model X.prog X.w) X.A (f (.int i t) (.int j u)) Q E s) :
    OpR X f (rI C fun i j => .int (g i j)) := by
  intro pins s σ H x y v u Q I rx ry h
  obtain ⟨i, j, rfl, rfl, hc, q⟩ := h
  obtain ⟨t, rfl⟩ := rx
  obtain ⟨t', rfl⟩ := ry
  exact rule i j t t' s _ _ hc ⟨.int (g i j), H, I.tok _, ⟨_, rfl⟩, q⟩
theorem opI0 {f : Value → Value → Sem Value} {g : Int → Int → Int}
    (rule : ∀ (i j : Int) (t u : Tok) (s : Shared) (Q : Value → Shared → Prop) (E : Value → Shared → Prop), Q (.int (g i j) s.toks) { s with toks := s.toks + 1 } → wpAny (model X.prog X.w) X.A (f (.int i t) (.int j u)) Q E s) :
    OpR X f (rI0 fun i j => .int (g i j)) := by
  intro pins s σ H x y v u Q I rx ry h
  obtain ⟨i, j, rfl, rfl, q⟩ := h
  obtain ⟨t, rfl⟩ := rx
  obtain ⟨t', rfl⟩ := ry
  exact rule i j t t' s _ _ ⟨.int (g i j), H, I.tok _, ⟨_, rfl⟩, q⟩
theorem opB0 {f : Value → Value → Sem Value} {g : Int → Int → Bool}
    (rule : ∀ (i j : Int) (t u : Tok) (s : Shared) (Q : Value → Shared → Prop) (E : Value → Shared → Prop), Q (.bool (g i j)) s → wpAny (model X.prog X.w) X.A (f (.int i t) (.int j u)) Q E s) :
    OpR X f (rI0 fun i j => .bl (g i j)) := by
  intro pins s σ H x y v u Q I rx ry h
  obtain ⟨i, j, rfl, rfl, q⟩ := h
  obtain ⟨t, rfl⟩ := rx
  obtain ⟨t', rfl⟩ := ry
  exact rule i j t t' s _ _ ⟨.bl (g i j), H, I, rfl, q⟩

def CDiv (i j : Int) : Prop := 0 < j ∧ j < 1073741824
def CDivN (i j : Int) : Prop := j ≠ 0 ∧ j.natAbs < 1073741824
def CPow (i j : Int) : Prop := 0 ≤ j ∧ j ≤ 1000000 ∧ i.natAbs < 2 ^ 64
def CMul (i j : Int) : Prop := (-(2 ^ 64) < i ∧ i < 2 ^ 64) ∨ (-(2 ^ 64) < j ∧ j < 2 ^ 64)
theorem op_add : OpR X (binaryOp .Add) (rI0 fun i j => .int (i + j)) := opI0 fun _ _ _ _ _ _ _ q => add_int q
theorem op_sub : OpR X (binaryOp .Sub) (rI0 fun i j => .int (i - j)) := opI0 fun _ _ _ _ _ _ _ q => sub_int q
theorem op_fdiv : OpR X (binaryOp .FloorDiv) (rI CDiv fun i j => .int (i / j)) := opI fun i j _ _ _ _ _ hc q => by
  have h1 : (0 : Int) < j := hc.1
  have h2 : j < 1073741824 := hc.2
  exact floordiv_int (by omega) (by rw [Int.fdiv_eq_ediv_of_nonneg i (by omega)]; exact q) (.inl (PyProof.noPylong_small (by omega)))
theorem op_mod : OpR X (binaryOp .Mod) (rI (fun _ j => 0 < j) fun i j => .int (i % j)) := opI fun i j _ _ _ _ _ hc q => by
  have h1 : (0 : Int) < j := hc
  exact mod_int' (by omega) (by rw [Int.fmod_eq_emod_of_nonneg i (by omega)]; exact q)
theorem op_pow : OpR X (binaryOp .Pow) (rI CPow fun i j => .int (i ^ j.toNat)) := opI fun _ _ _ _ _ _ _ hc q => pow_int_small hc.1 hc.2.1 hc.2.2 q
theorem unI {f : Value → Sem Value} {g : Int → Int}
    (rule : ∀ (i : Int) (t : Tok) (s : Shared) (Q : Value → Shared → Prop) (E : Value → Shared → Prop), Q (.int (g i) s.toks) { s with toks := s.toks + 1 } → wpAny (model X.prog X.w) X.A (f (.int i t)) Q E s) :
    UnR X f (rU fun i => .int (g i)) := by
  intro pins s σ H x v Q I rx h
  obtain ⟨i, rfl, q⟩ := h
  obtain ⟨t, rfl⟩ := rx
  exact rule i t s _ _ ⟨.int (g i), H, I.tok _, ⟨_, rfl⟩, q⟩
theorem un_neg : UnR X (unaryOp .USub) (rU fun i => .int (-i)) := unI fun _ _ _ _ _ q => neg_int q
end

def scal : V → V → Bool
  | .non, .non => true | .non, .int _ => true | .int _, .non => true | .non, .bl _ => true | .bl _, .non => true | .non, .str _ => true | .str _, .non => true
  | .int _, .int _ => true | .bl _, .bl _ => true | .str _, .str _ => true | .byt _, .byt _ => true
  | .int _, .str _ => true | .str _, .int _ => true | .bl _, .str _ => true | .str _, .bl _ => true
  | _, _ => false
def rEq : R2 := fun x y H Q => scal x y = true ∧ Q (.bl (decide (x = y))) H
def rNe : R2 := fun x y H Q => scal x y = true ∧ Q (.bl (!decide (x = y))) H

theorem dec_int {i j : Int} : decide (V.int i = V.int j) = (i == j) := by
  rw [Bool.eq_iff_iff]
  simp
theorem dec_bl {i j : Bool} : decide (V.bl i = V.bl j) = (i == j) := by
  rw [Bool.eq_iff_iff]
  simp
theorem dec_str {i j : Str} : decide (V.str i = V.str j) = (i == j) := by
  rw [Bool.eq_iff_iff]
  simp
theorem dec_byt {i j : Array UInt8} : decide (V.byt i = V.byt j) = (i.toList == j.toList) := by
  rw [Bool.eq_iff_iff]
  cases i
  cases j
  simp

section
variable {X : Cx} {a b c : Expr} {ta tb tc : TE} {pos : Pos}
theorem fin_bl {pins : List (Addr × Obj)} {σ : St} {H : Hp} {s : Shared} {Q : VK} {k k' : Bool} (I : Inv X pins σ H s) (q : Q (.bl k) H) (e : k = k') : EP X pins σ Q (.bool k') s := by
  subst e
  exact ⟨.bl k, H, I, rfl, q⟩
theorem op_eq : OpR X (compareOp .Eq) rEq := by
  intro pins s σ H x y v u Q I rx ry h
  obtain ⟨hs, q⟩ := h
  cases x with
  | non =>
    cases rx
    cases y with
    | non => cases ry; exact PySem.EqNone.eq_none_none (fin_bl I q (by simp))
    | bl j => cases ry; exact PySem.EqNone.eq_none_bool (fin_bl I q (by simp))
    | int j => obtain ⟨t', rfl⟩ := ry; exact PySem.EqNone.eq_none_int (fin_bl I q (by simp))
    | str j => obtain ⟨t', rfl⟩ := ry; exact PySem.EqNone.eq_none_str (fin_bl I q (by simp))
    | _ => exact absurd (show false = true from hs) Bool.false_ne_true
  | bl i =>
    cases rx
    cases y with
    | non => cases ry; exact PySem.EqNone.eq_bool_none (fin_bl I q (by simp))
    | bl j => cases ry; exact eq_bool (fin_bl I q dec_bl)
    | str j => obtain ⟨t', rfl⟩ := ry; exact PySem.EqMixed.eq_bool_str (fin_bl I q (by simp))
    | _ => exact absurd (show false = true from hs) Bool.false_ne_true
  | int i =>
    obtain ⟨t, rfl⟩ := rx
    cases y with
    | non => cases ry; exact PySem.EqNone.eq_int_none (fin_bl I q (by simp))
    | int j => obtain ⟨t', rfl⟩ := ry; exact eq_int (fin_bl I q dec_int)
    | str j => obtain ⟨t', rfl⟩ := ry; exact PySem.EqMixed.eq_int_str (fin_bl I q (by simp))
    | _ => exact absurd (show false = true from hs) Bool.false_ne_true
  | str i =>
    obtain ⟨t, rfl⟩ := rx
    cases y with
    | non => cases ry; exact PySem.EqNone.eq_str_none (fin_bl I q (by simp))
    | bl j => cases ry; exact PySem.EqMixed.eq_str_bool (fin_bl I q (by simp))
    | int j => obtain ⟨t', rfl⟩ := ry; exact PySem.EqMixed.eq_str_int (fin_bl I q (by simp))
    | str j => obtain ⟨t', rfl⟩ := ry; exact eq_str (fin_bl I q dec_str)
    | _ => exact absurd (show false = true from hs) Bool.false_ne_true
  | byt i =>
    obtain ⟨t, rfl⟩ := rx
    cases y with
    | byt j => obtain ⟨t', rfl⟩ := ry; exact PySem.W.eq_bytes (fin_bl I q dec_byt)
    | _ => exact absurd (show false = true from hs) Bool.false_ne_true
  | _ => cases y <;> exact absurd (show false = true from hs) Bool.false_ne_true
theorem op_ne : OpR X (compareOp .NotEq) rNe := by
  intro pins s σ H x y v u Q I rx ry h
  obtain ⟨hs, q⟩ := h
  cases x with
  | non =>
    cases rx
    cases y with
    | non => cases ry; exact PySem.EqNone.ne_none_none (fin_bl I q (by simp))
    | bl j => cases ry; exact PySem.EqNone.ne_none_bool (fin_bl I q (by simp))
    | int j => obtain ⟨t', rfl⟩ := ry; exact PySem.EqNone.ne_none_int (fin_bl I q (by simp))
    | str j => obtain ⟨t', rfl⟩ := ry; exact PySem.EqNone.ne_none_str (fin_bl I q (by simp))
    | _ => exact absurd (show false = true from hs) Bool.false_ne_true
  | bl i =>
    cases rx
    cases y with
    | non => cases ry; exact PySem.EqNone.ne_bool_none (fin_bl I q (by simp))
    | bl j => cases ry; exact ne_bool (fin_bl I q (congrArg not dec_bl))
    | str j => obtain ⟨t', rfl⟩ := ry; exact PySem.EqMixed.ne_bool_str (fin_bl I q (by simp))
    | _ => exact absurd (show false = true from hs) Bool.false_ne_true
  | int i =>
    obtain ⟨t, rfl⟩ := rx
    cases y with
    | non => cases ry; exact PySem.EqNone.ne_int_none (fin_bl I q (by simp))
    | int j => obtain ⟨t', rfl⟩ := ry; exact ne_int (fin_bl I q (congrArg not dec_int))
    | str j => obtain ⟨t', rfl⟩ := ry; exact PySem.EqMixed.ne_int_str (fin_bl I q (by simp))
    | _ => exact absurd (show false = true from hs) Bool.false_ne_true
  | str i =>
    obtain ⟨t, rfl⟩ := rx
    cases y with
    | non => cases ry; exact PySem.EqNone.ne_str_none (fin_bl I q (by simp))
    | bl j => cases ry; exact PySem.EqMixed.ne_str_bool (fin_bl I q (by simp))
    | int j => obtain ⟨t', rfl⟩ := ry; exact PySem.EqMixed.ne_str_int (fin_bl I q (by simp))
    | str j => obtain ⟨t', rfl⟩ := ry; exact ne_str (fin_bl I q (congrArg not dec_str))
    | _ => exact absurd (show false = true from hs) Bool.false_ne_true
  | byt i =>
    obtain ⟨t, rfl⟩ := rx
    cases y with
    | byt j => obtain ⟨t', rfl⟩ := ry; exact PySem.W.ne_bytes (fin_bl I q (congrArg not dec_byt))
    | _ => exact absurd (show false = true from hs) Bool.false_ne_true
  | _ => cases y <;> exact absurd (show false = true from hs) Bool.false_ne_true

theorem op_lt : OpR X (compareOp .Lt) (rI0 fun i j => .bl (decide (i < j))) := opB0 fun _ _ _ _ _ _ _ q => lt_int q
theorem op_le : OpR X (compareOp .LtE) (rI0 fun i j => .bl (decide (i ≤ j))) := opB0 fun _ _ _ _ _ _ _ q => le_int q
theorem op_gt : OpR X (compareOp .Gt) (rI0 fun i j => .bl (decide (j < i))) := opB0 fun _ _ _ _ _ _ _ q => gt_int q
theorem op_notN : OpR X (compareOp .IsNot) (fun x y H Q => y = .non ∧ Q (.bl (!decide (x = .non))) H) := by
  intro pins s σ H x y v u Q I rx ry h
  obtain ⟨rfl, q⟩ := h
  cases ry
  refine isnot_none_gen (fin_bl I q ?_)
  cases x <;> first
    | (cases rx; rfl)
    | (obtain ⟨t, rfl⟩ := rx; rfl)

def isObj : HO → Bool
  | .lst _ => true
  | .ins _ _ _ => true
  | _ => false
theorem nomark (b : Expr) {op : CmpOp} (h : op ≠ .In := by decide) (h2 : op ≠ .NotIn := by decide) : behindInMarks op b = false := by
  have e1 : (op == CmpOp.In) = false := by cases op <;> first | rfl | exact absurd rfl h
  have e2 : (op == CmpOp.NotIn) = false := by cases op <;> first | rfl | exact absurd rfl h2
  cases b <;> simp [behindInMarks, e1, e2]
theorem pe_cmpR {op : CmpOp} {r : R2} (ho : OpR X (compareOp op) r) (ha : PE X a ta) (hb : PE X b tb) (hm : behindInMarks op b = false) : PE X (.Compare a [op] [b] pos) (tOp r ta tb) := by
  intro pins s σ H Q I h
  exact wpAny_Compare1 (binT ha hb I h fun v u s2 x y H2 I2 rx ry q => ho pins s2 σ H2 x y v u Q I2 rx ry q) hm
def tTest (t : TE) : TT := fun σ H Q => t σ H fun x H' => ∃ k, x = .bl k ∧ Q k H'
theorem pt_cmpR {op : CmpOp} {r : R2} (ho : OpR X (compareOp op) r) (ha : PE X a ta) (hb : PE X b tb) (hm : behindInMarks op b = false) : PT X (.Compare a [op] [b] pos) (tTest (tOp r ta tb)) := by
  intro pins s σ H Q I h
  refine wpAny_isTrue_Compare1 (thn (ha pins s σ H _ I h) fun v s1 ⟨x, H1, I1, r1, q1⟩ => thn (hb pins s1 σ H1 _ I1 q1) fun u s2 ⟨y, H2, I2, r2, q2⟩ =>
    thn (ho pins s2 σ H2 x y v u _ I2 r1 r2 q2) fun c s3 ⟨z, H3, I3, r3, k, e, q3⟩ => ?_) hm
  subst e
  cases r3
  exact wpAny_truthy_bool ⟨H3, I3, q3⟩
def tChain (r r' : R2) (ta tb tc : TE) : TE := fun σ H Q => ta σ H fun x H1 => tb σ H1 fun y H2 => r x y H2 fun z H3 => ∃ k, z = .bl k ∧
  (if k = true then tc σ H3 fun w' H4 => r' y w' H4 Q else Q (.bl false) H3)
def TruV (K : PySem.W.Frag) (x : V) (H : Hp) (k : Bool) : Prop :=
  match x with
  | .non => k = false
  | .bl b => k = b
  | .int i => k = (i != 0)
  | .str y => y.length ≤ sizeLine ∧ k = ((y.length : Int) != 0)
  | .byt y => y.size ≤ sizeLine ∧ k = ((y.size : Int) != 0)
  | .ref p => (∃ xs, SqL K H p xs ∧ k = !xs.isEmpty) ∨ (∃ xs, SqT K H p xs ∧ k = !xs.isEmpty) ∨ ∃ kvs, H p = some (.dK kvs) ∧ k = !kvs.isEmpty
  | _ => False
theorem line63 : (sizeLine : Nat) < 2 ^ 63 := by rw [sizeLine_eq]; decide
def PlainIxT (b : Expr) : Prop := ∀ o i, subscripted b false o i = operate [o, i] (getItem o i)
theorem vals1 {x : V} {us : List Value} (r : Vals [x] us) : ∃ u, us = [u] ∧ RelV x u := by
  cases r with
  | cons r1 r2 => cases r2; exact ⟨_, rfl, r1⟩
theorem call_abs : CallR X (.builtin "abs") (fun xs H Q => ∃ i, xs = [.int i] ∧ Q (.int (if i < 0 then -i else i)) H) := by
  intro pins s σ H xs us Q I r h
  obtain ⟨i, rfl, q⟩ := h
  obtain ⟨u, rfl, t, rfl⟩ := vals1 r
  exact call_abs_int fun u tk => ⟨.int (if i < 0 then -i else i), H, I.tok _, ⟨_, rfl⟩, q⟩
theorem call_int1 : CallR X (.type "int") (fun xs H Q => (∃ i, xs = [.int i] ∧ Q (.int i) H) ∨ ∃ k, xs = [.bl k] ∧ Q (.int (if k then 1 else 0)) H) := by
  intro pins s σ H xs us Q I r h
  rcases h with ⟨i, rfl, q⟩ | ⟨k, rfl, q⟩
  · obtain ⟨u, rfl, t, rfl⟩ := vals1 r
    exact call_int_int ⟨.int i, H, I, ⟨_, rfl⟩, q⟩
  · obtain ⟨u, rfl, r1⟩ := vals1 r
    cases r1
    exact call_int_bool ⟨.int (if k then 1 else 0), H, I.tok _, ⟨_, rfl⟩, q⟩
def LenV (K : PySem.W.Frag) (x : V) (H : Hp) (n : Nat) : Prop :=
  match x with
  | .str y => y.length ≤ sizeLine ∧ n = y.length
  | .byt y => y.size ≤ sizeLine ∧ n = y.size
  | .ref p => (∃ xs, SqL K H p xs ∧ n = xs.length) ∨ ∃ xs, SqT K H p xs ∧ n = xs.length
  | _ => False
end
end L2

namespace L2
open PySem PySem.Spec PyProof.Rows

structure ObjM (h : Heap) (x dx C : Addr) (mA : Str → Option Value) : Prop where
  obj : h.get? x = some (PySem.W.instObj C dx)
  ns : h.Ns1 dx mA
  ne : dx ≠ x

theorem lookIn_ns {h : Heap} {dx : Addr} {mA : Str → Option Value} (n : h.Ns1 dx mA) : ∃ od, h.get? dx = some od ∧ ∀ name, PySem.W.lookIn name od = some (mA name) := by
  obtain ⟨o, es, ep, ho, hd, hk, _, hm⟩ := n
  refine ⟨o, ho, fun name => ?_⟩
  have e := hm name
  unfold nsFind findBy at e
  rw [← Array.find?_toList] at e
  unfold PySem.W.lookIn
  rw [hd]
  dsimp only
  split
  · rename_i y q
    rw [q] at e
    exact congrArg some e
  · rename_i q
    rw [q] at e
    have a : es.toList.any (·.refKey) = false := by
      rw [List.any_eq_false]
      intro y hy
      obtain ⟨z, t, hkey⟩ := hk y (Array.mem_toList_iff.mp hy)
      simp [DictEntry.refKey, hkey]
    have a' : ¬ es.toList.any (·.refKey) = true := by rw [a]; exact Bool.false_ne_true
    rw [if_neg a']
    exact congrArg some e

theorem ObjM.look {h : Heap} {x dx C : Addr} {mA : Str → Option Value} (I : ObjM h x dx C mA) : ∃ od, PySem.W.InstAt h x (PySem.W.instObj C dx) C (some od) ∧ ∀ name, PySem.W.lookIn name od = some (mA name) :=
  let ⟨od, ho, hl⟩ := lookIn_ns I.ns
  ⟨od, ⟨I.obj, rfl, rfl, ho⟩, hl⟩

section
variable {prog : Program} {w : World} {A : Around} {E : Value → Shared → Prop} {s : Shared} {K : PySem.W.Frag} {x dx C f : Addr} {mA : Str → Option Value} {name : Str} {v : Value}

end

def putF (f : Str) (v : V) : List (Str × V) → List (Str × V)
  | [] => [(f, v)]
  | (g, x) :: r => if g = f then (g, v) :: r else (g, x) :: putF f v r
section
variable {P : Program} {w : World} {H H' : Hp} {h h' : Heap} {a C dx : Addr} {fs fs' : List (Str × V)}
theorem ins_get (hok : HOk P w H h) (e : H a = some (.ins C dx fs)) : ∃ mA, ObjM h a dx C mA ∧ (∀ f, RelO (fs.lookup f) (mA f)) ∧ PySem.Within mA (fs.map (·.1)) ∧ fs.length ≤ 1000 ∧ H dx = some (.own a) := by
  obtain ⟨d, z, ne, ob, mA, n, r, q⟩ := (show ObjOk P w H h a (.ins C dx fs) from hok a _ e)
  exact ⟨mA, ⟨ob, n, ne⟩, r, q, z, d⟩
end

structure Cls (K : PySem.W.Frag) (C : Addr) : Prop where
  pg : PySem.W.plainGet K C Str.empty = true
  hd : PySem.W.hasDictIn K C = true
  po : PySem.W.plainOver K C = true
  sa : PySem.W.findIn K (.ref C) "__setattr__" = some (some (.builtin "object.__setattr__"))
theorem Cls.get {K : PySem.W.Frag} {C : Addr} (c : Cls K C) (f : Str) : PySem.W.plainGet K C f = true := c.pg
def NoAttr (K : PySem.W.Frag) (C : Addr) (f : Str) : Prop := PySem.W.findIn K (.ref C) f = some none
structure Con (K : PySem.W.Frag) (C : Addr) (f : Str) (v : V) (u : Value) : Prop where
  at_ : PySem.W.findIn K (.ref C) f = some (some u)
  rel : RelV v u
  get : PySem.W.specialIn K u "__get__" = some none
  cp : PySem.W.copiedNames.contains f = false
structure Meth (K : PySem.W.Frag) (C : Addr) (m : Str) (f : Addr) : Prop where
  at_ : PySem.W.findIn K (.ref C) m = some (some (.ref f))
  fn : PySem.W.isFn K (.ref f) = true
  kp : PySem.W.keepIn K (.ref f) = true

section
variable {X : Cx} {pins : List (Addr × Obj)} {σ : St} {H : Hp} {s : Shared} {a C dx : Addr} {fs : List (Str × V)} {f : Str} {v : V} {A : Around} {E : Value → Shared → Prop}

end

def tFld (K : PySem.W.Frag) (ta : TE) (f : Str) : TE := fun σ H Q => ta σ H fun x H1 => ∃ a C dx fs v, x = .ref a ∧ H1 a = some (.ins C dx fs) ∧ Cls K C ∧ NoAttr K C f ∧ fs.lookup f = some v ∧ Q v H1
def tCon (K : PySem.W.Frag) (ta : TE) (f : Str) : TE := fun σ H Q => ta σ H fun x H1 => ∃ a C dx fs v u, x = .ref a ∧ H1 a = some (.ins C dx fs) ∧ Cls K C ∧ Con K C f v u ∧ fs.lookup f = none ∧ Q v H1
def sFld (K : PySem.W.Frag) (ta tv : TE) (f : Str) : TS := fun D σ H => tv σ H fun y H1 => ta σ H1 fun x H2 => ∃ a C dx fs, x = .ref a ∧ H2 a = some (.ins C dx fs) ∧ Cls K C ∧ NoAttr K C f ∧ fs.length < 1000 ∧
  D.nx σ (upd H2 a (.ins C dx (putF f y fs)))
def InOp (X : Cx) (op : Operator) (rd : V → V → Hp → VK → Prop) : Prop :=
  ∀ (pins : List (Addr × Obj)) (s : Shared) (σ : St) (H : Hp) (x y : V) (u v : Value) (Q : VK), Inv X pins σ H s → RelV x u → RelV y v → rd x y H Q → wpAny (model X.prog X.w) X.A (inplaceOp op u v) (EP X pins σ Q) X.xe s
def sFldAug (K : PySem.W.Frag) (ta tv : TE) (rd : V → V → Hp → VK → Prop) (f : Str) : TS := fun D σ H => ta σ H fun x H1 => ∃ a C dx fs v, x = .ref a ∧ H1 a = some (.ins C dx fs) ∧ Cls K C ∧ NoAttr K C f ∧ fs.lookup f = some v ∧
  tv σ H1 fun y H2 => rd v y H2 fun z H3 => ∃ dx' fs', H3 a = some (.ins C dx' fs') ∧ fs'.length < 1000 ∧ D.nx σ (upd H3 a (.ins C dx' (putF f z fs')))

section
variable {X : Cx} {o e value : Expr} {f : Str} {pos pos' tpos : Pos} {ta tv : TE}
def rAdd : V → V → Hp → VK → Prop := fun x y H Q => ∃ i j, x = .int i ∧ y = .int j ∧ Q (.int (i + j)) H
def rSub : V → V → Hp → VK → Prop := fun x y H Q => ∃ i j, x = .int i ∧ y = .int j ∧ Q (.int (i - j)) H
end

section
variable {X : Cx} {pins : List (Addr × Obj)} {σ : St} {H : Hp} {s : Shared} {A : Around} {E : Value → Shared → Prop} {Q : Value → Shared → Prop} {c : Value} {b : Bool}
inductive TyOf (K : PySem.W.Frag) (H : Hp) : V → Value → Prop where
  | non : TyOf K H .non (.type "NoneType")
  | bl (x : Bool) : TyOf K H (.bl x) (.type "bool")
  | int (i : Int) : TyOf K H (.int i) (.type "int")
  | str (x : Str) : TyOf K H (.str x) (.type "str")
  | flt (x : UInt64) : TyOf K H (.flt x) (.type "float")
  | lst {a : Addr} {xs : List V} (e : H a = some (.lst xs)) : TyOf K H (.ref a) (.type "list")
  | frz {a : Addr} {o : Obj} {xs : List V} (e : H a = some (.frz o (.lst xs))) : TyOf K H (.ref a) (.type "list")
  | tup {a : Addr} {xs : List V} (e : H a = some (.tup xs)) : TyOf K H (.ref a) (.type "tuple")
  | dK {a : Addr} {kvs : List (Key × V)} (e : H a = some (.dK kvs)) : TyOf K H (.ref a) (.type "dict")
  | dT {a : Addr} {kvs : List (List Key × V)} (e : H a = some (.dT kvs)) : TyOf K H (.ref a) (.type "dict")
  | ins {a C dx : Addr} {fs : List (Str × V)} (e : H a = some (.ins C dx fs)) (cl : Cls K C) (ha : PySem.W.findIn K (.ref C) "__class__" = some (some (.builtin "object.__class__")))
      (hn : PySem.W.specialIn K (.builtin "object.__class__") "__get__" = some (some (.builtin "getset_descriptor.__get__"))) (htk : PySem.W.takesIn K (.builtin "object.__class__") = some true)
      (hm : PySem.W.mroIn K C (.type "object") = some true) : TyOf K H (.ref a) (.ref C)
theorem isinst_ok {x : V} {u t : Value} (I : Inv X pins σ H s) (rx : RelV x u) (ty : TyOf X.K H x t) (e : PySem.W.kitOne X.K t c = some b) (h : ∀ tk, Q (.bool b) { s with toks := tk }) :
    wpAny (model X.prog X.w) A (call (.builtin "isinstance") [u, c]) Q E s := by
  cases ty with
  | non => cases (show u = Value.none from rx); exact PySem.W.kia_one PySem.W.kitx_none I.kIn True.intro e (fun z => nomatch z) h
  | bl y => cases (show u = Value.bool y from rx); exact PySem.W.kia_one PySem.W.kitx_bool I.kIn True.intro e (fun z => nomatch z) h
  | int i => obtain ⟨t, q⟩ := (show ∃ t, u = Value.int i t from rx); cases q; exact PySem.W.kia_one PySem.W.kitx_int I.kIn True.intro e (fun z => nomatch z) h
  | str y => obtain ⟨t, q⟩ := (show ∃ t, u = Value.str y t from rx); cases q; exact PySem.W.kia_one PySem.W.kitx_str I.kIn True.intro e (fun z => nomatch z) h
  | flt y => obtain ⟨t, q⟩ := (show ∃ t, u = Value.float y t from rx); cases q; exact PySem.W.kia_one PySem.W.kitx_float I.kIn True.intro e (fun z => nomatch z) h
  | @lst a xs ea =>
    cases (show u = Value.ref a from rx)
    obtain ⟨_, _, n, _, h1⟩ := (show ObjOk X.prog X.w H s.heap a (.lst xs) from I.hok a _ ea)
    exact PySem.W.kia_one PySem.W.kitx_list I.kIn ⟨_, h1, rfl⟩ e (fun z => nomatch z) h
  | @frz a ob xs ea =>
    cases (show u = Value.ref a from rx)
    obtain ⟨_, _, _, n, _, h1⟩ := (show ObjOk X.prog X.w H s.heap a (.frz ob (.lst xs)) from I.hok a _ ea)
    exact PySem.W.kia_one PySem.W.kitx_list I.kIn ⟨_, h1, rfl⟩ e (fun z => nomatch z) h
  | @tup a xs ea =>
    cases (show u = Value.ref a from rx)
    obtain ⟨_, _, _, p⟩ := (show ObjOk X.prog X.w H s.heap a (.tup xs) from I.hok a _ ea)
    obtain ⟨o, h1, h2, _⟩ := p
    exact PySem.W.kia_one PySem.W.kitx_tuple I.kIn ⟨o, h1, h2⟩ e (fun z => nomatch z) h
  | @dK a kvs ea =>
    cases (show u = Value.ref a from rx)
    obtain ⟨_, _, vs, _, p⟩ := (show ObjOk X.prog X.w H s.heap a (.dK kvs) from I.hok a _ ea)
    obtain ⟨o, es, ep, h1, h2, _⟩ := p
    exact PySem.W.kia_one PySem.W.kitx_dict I.kIn ⟨o, h1, h2.1⟩ e (fun z => nomatch z) h
  | @dT a kvs ea =>
    cases (show u = Value.ref a from rx)
    obtain ⟨_, _, xs, _, o, es, ep, h1, h2, _⟩ := (show ObjOk X.prog X.w H s.heap a (.dT kvs) from I.hok a _ ea)
    exact PySem.W.kia_one PySem.W.kitx_dict I.kIn ⟨o, h1, h2.1⟩ e (fun z => nomatch z) h
  | @ins a C dx fs ea cl ha hn htk hm =>
    cases (show u = Value.ref a from rx)
    obtain ⟨mA, O, _⟩ := ins_get I.hok ea
    obtain ⟨od, J, _⟩ := O.look
    exact PySem.W.kia_one (PySem.W.kitx_own (cl.get _) cl.hd ha hn htk hm) I.kIn J e (fun z => nomatch z) h
end
end L2

namespace L2
open PySem PySem.Spec PyProof.Rows

structure Room (k : Nat) (A : Around) : Prop where
  hd : A.handled = none
  dp : A.depth + 3 * k + 5 < recursionLimit
  un : A.units + 16 * k + 200 < cLine
theorem Room.mono {j k : Nat} {A : Around} (r : Room k A) (h : j ≤ k) : Room j A := ⟨r.hd, by have := r.dp; omega, by have := r.un; omega⟩
theorem Room.deeper {k : Nat} {A : Around} (r : Room (k + 1) A) (env : Env) : Room k (A.deeper env) :=
  ⟨r.hd, by have := r.dp; show A.depth + 1 + 3 * k + 5 < _; omega, by have := r.un; show A.units + 3 + 16 * k + 200 < _; omega⟩
theorem Room.depth {k : Nat} {A : Around} (r : Room k A) : A.depth < recursionLimit := by have := r.dp; omega
def tNil : TA := fun _ H Q => Q [] H
def tCons (ta : TE) (tr : TA) : TA := fun σ H Q => ta σ H fun x H1 => tr σ H1 fun xs H2 => Q (x :: xs) H2
section
variable {X : Cx} {e : Expr} {es : List Expr} {te : TE} {t : TA} {pos : Pos}
theorem pa_nil : PA X [] tNil := fun _ _ _ _ H Q I h => Calls.spliced_nil ⟨[], H, I, .nil, h⟩
theorem pa_cons (ha : PE X e te) (hr : PA X es t) (hs : starEach (e :: es) X.env = (false, eval e X.env) :: starEach es X.env := by rfl) : PA X (e :: es) (tCons te t) := by
  intro pos pins s σ H Q I h
  rw [hs]
  show wpAny _ _ (spliced ((false, eval e X.env) :: backTo pos (starEach es X.env))) _ _ s
  refine Calls.spliced_cons (thn (ha pins s σ H _ I h) fun u s1 ⟨x, H1, I1, r1, q1⟩ => ?_)
  exact thn (hr pos pins s1 σ H1 _ I1 q1) fun us s2 ⟨xs, H2, I2, r2, q2⟩ => ⟨x :: xs, H2, I2, .cons r1 r2, q2⟩

def tTup (t : TA) : TE := fun σ H Q => t σ H fun xs H1 => xs.length ≤ sizeLine ∧ ∀ p, H1 p = none → Q (.ref p) (upd H1 p (.tup xs))
def tLst (t : TA) : TE := fun σ H Q => t σ H fun xs H1 => xs.length ≤ sizeLine ∧ ∀ p, H1 p = none → Q (.ref p) (upd H1 p (.lst xs))
theorem pe_tup {x1} (h : PA X es t) : PE X (.Tuple es x1 pos) (tTup t) := by
  intro pins s σ H Q I hq
  refine wpAny_Tuple_spliced (thn (h pos pins s σ H _ I hq) fun us s1 ⟨xs, H1, I1, r, z, q⟩ => ⟨by rw [← r.length]; exact z, ?_⟩)
  have hf : H1 s1.heap.objs.size = none := I1.hok.fresh (Nat.le_refl _)
  refine ⟨.ref s1.heap.objs.size, upd H1 s1.heap.objs.size (.tup xs), I1.laid (t' := s1.toks) (fun b u e => Heap.get?_push_of_some _ e) (Nat.le_refl _) ?_, rfl, q _ hf⟩
  exact ⟨z, us, r, ⟨_, Heap.get?_push_size _ rfl, rfl, _, rfl⟩⟩
theorem pe_lst (h : PA X es t) : PE X (.List es pos) (tLst t) := by
  intro pins s σ H Q I hq
  refine wpAny_List_spliced (thn (h pos pins s σ H _ I hq) fun us s1 ⟨xs, H1, I1, r, z, q⟩ => ⟨by rw [← r.length]; exact z, ?_⟩)
  have hf : H1 s1.heap.objs.size = none := I1.hok.fresh (Nat.le_refl _)
  refine ⟨.ref s1.heap.objs.size, upd H1 s1.heap.objs.size (.lst xs), I1.laid (t' := s1.toks) (fun b u e => Heap.get?_push_of_some _ e) (Nat.le_refl _) ?_, rfl, q _ hf⟩
  exact ⟨z, us, 0, r, Heap.get?_push_size _ rfl⟩
end

abbrev Sp := List V → Hp → VK → XK → Prop
abbrev CXT := List Env → Hp → Shared → XK → Value → Shared → Prop

structure Env0 (P : Program) (w : World) (K : PySem.W.Frag) (mg : Str → Option Value) (base : Heap) (A : Around) (outer : List Env) (s : Shared) (H : Hp) : Prop where
  frames : A.frames = some outer
  mod : Mod K mg base
  bs : ∀ b o, base.get? b = some o → s.heap.get? b = some o ∧ H b = none
  bsz : base.objs.size ≤ s.heap.objs.size
  funs : s.heap.FunFrames base outer
  frf : ∀ b ∈ frs outer, H b = none
  hok : HOk P w H s.heap
  bare : AllBare s.gens
def CE (outer : List Env) (P : Program) (w : World) (H : Hp) (s : Shared) (Q : VK) (u : Value) (s' : Shared) : Prop :=
  ∃ v H', s'.os = s.os ∧ AllBare s'.gens ∧ Un (frs outer) [] H H' s.heap s'.heap ∧ HOk P w H' s'.heap ∧ RelV v u ∧ Q v H'
def CR (CX : CXT) (outer : List Env) (P : Program) (w : World) (H : Hp) (s : Shared) (Q : VK) (E : XK) (r : Result) (s' : Shared) : Prop :=
  match r with
  | .ok (.ret u) => CE outer P w H s Q u s'
  | .ok _ => False
  | .error e => CX outer H s E e s'
structure FnOk (P : Program) (w : World) (K : PySem.W.Frag) (mg : Str → Option Value) (base : Heap) (CX : CXT) (k : Nat) (f : Addr) (fd : FuncData) (ps : List Str) (sp : Sp) : Prop where
  len : ∀ vs H Q E, sp vs H Q E → vs.length = ps.length
  run : ∀ (A : Around) (outer : List Env) (s : Shared) (H : Hp) (args : Args) (us : List Value) (vs : List V) (Q : VK) (E : XK), Room k A → Env0 P w K mg base A outer s H → BindsTo s fd args (ps.zip us) → Vals vs us → sp vs H Q E →
    codeAny (model P w) A (.call (.ref f) args) (CR CX outer P w H s Q E) s
section
variable {X : Cx} {pins : List (Addr × Obj)} {σ : St} {H : Hp} {s s' : Shared}
theorem Inv.env0 (I : Inv X pins σ H s) : Env0 X.prog X.w X.K X.mg X.base X.A X.stack s H :=
  ⟨I.ok.frames, I.ok.mod, I.bs, Nat.le_trans I.ok.bsz I.sz, I.stack, I.stkFree, I.hok, I.bare⟩
theorem Inv.after {Q : VK} {u : Value} (I : Inv X pins σ H s) (h : CE X.stack X.prog X.w H s Q u s') : EP X pins σ Q u s' := by
  obtain ⟨v, H', os, bare, un, hok, r, q⟩ := h
  obtain ⟨hh, g, d, t, os'⟩ := s'
  obtain rfl : os' = s.os := os
  exact ⟨v, H', I.call (h' := hh) (g' := g) (d' := d) (t' := t) (ch := []) un hok bare (fun b z => absurd z (by simp)), r, q⟩
end

def tCall (sp : Sp) (dvs : List V) (E : XK) (t : TA) : TE := fun σ H Q => t σ H fun vs H1 => sp (vs ++ dvs) H1 Q E
def tMeth (C : Addr) (m : Str) (sp : Sp) (dvs : List V) (E : XK) (ta : TE) (t : TA) : TE := fun σ H Q => ta σ H fun x H1 => ∃ a dx fs, x = .ref a ∧ H1 a = some (.ins C dx fs) ∧ fs.lookup m = none ∧
  t σ H1 fun vs H2 => sp (x :: (vs ++ dvs)) H2 Q E
def tMake (C : Addr) (sp : Sp) (dvs : List V) (E : XK) (t : TA) : TE := fun σ H Q => t σ H fun vs H1 => ∀ x dx, H1 x = none → H1 dx = none → dx ≠ x →
  sp (.ref x :: (vs ++ dvs)) (upd (upd H1 dx (.own x)) x (.ins C dx [])) (fun v H2 => v = .non ∧ Q (.ref x) H2) E

def Binds (K : PySem.W.Frag) (fd : FuncData) (ps : List Str) (ds : List Value) : Prop :=
  ∀ (s : Shared) (us : List Value), K.In s.heap → (us ++ ds).length = ps.length → BindsTo s fd ⟨us, []⟩ (ps.zip (us ++ ds))
theorem Binds.all {K : PySem.W.Frag} {fd : FuncData} {ps : List Str} (h : ∀ us : List Value, us.length = ps.length → bindArgs fd ⟨us, []⟩ = pure (ps.zip us)) : Binds K fd ps [] := fun s us _ hl => by
  rw [List.append_nil] at hl ⊢
  exact .of_eq (h us hl)

def Passes (CX : CXT) (X : Cx) (E : XK) : Prop := ∀ (pins : List (Addr × Obj)) (σ : St) (H : Hp) (s : Shared) (e : Value) (s' : Shared), Inv X pins σ H s → CX X.stack H s E e s' → X.xe e s'

section
variable {X : Cx} {CX : CXT} {k : Nat} {f C : Addr} {fd : FuncData} {ps : List Str} {sp : Sp} {dvs : List V} {ds : List Value} {E : XK} {x m : Str} {p pos apos : Pos} {e o : Expr} {es : List Expr} {ta : TE} {t : TA}

theorem run_fn {pins : List (Addr × Obj)} {σ : St} {H : Hp} {s : Shared} {Q : VK} {us : List Value} {vs : List V} (F : FnOk X.prog X.w X.K X.mg X.base CX k f fd ps sp) (hr : Room k X.A) (hb : Binds X.K fd ps ds) (hd : Vals dvs ds) (hx : Passes CX X E)
    (I : Inv X pins σ H s) (r : Vals vs us) (h : sp (vs ++ dvs) H Q E) : wpAny (model X.prog X.w) X.A (call (.ref f) us) (EP X pins σ Q) X.xe s := by
  have r2 : Vals (vs ++ dvs) (us ++ ds) := r.append hd
  have hl : (us ++ ds).length = ps.length := by rw [← r2.length]; exact F.len _ _ _ _ h
  refine wpAny_call (codeAny_mono (F.run X.A X.stack s H ⟨us, []⟩ (us ++ ds) (vs ++ dvs) Q E hr I.env0 (hb s us I.kIn hl) r2 h) fun r s' hq => ?_)
  cases r with
  | error e => exact hx pins σ H s e s' I hq
  | ok fl =>
    cases fl with
    | ret u => exact I.after hq
    | next => exact False.elim hq
    | brk => exact False.elim hq
    | cont => exact False.elim hq

theorem pe_call (F : FnOk X.prog X.w X.K X.mg X.base CX k f fd ps sp) (hr : Room k X.A) (hg : Gl X x) (hm : X.mg x = some (.ref f)) (hk : PySem.W.keepIn X.K (.ref f) = true) (hb : Binds X.K fd ps ds) (hd : Vals dvs ds) (hx : Passes CX X E)
    (ha : PA X (e :: es) t) (hdb : (x == ("__debug__" : Str)) = false := by decide) (he : starEach (e :: es) X.env = (false, eval e X.env) :: starEach es X.env := by rfl) (hpl : (backTo pos (starEach es X.env)).any (·.1) = false := by rfl) :
    PE X (.Call (.Name x p) (e :: es) [] pos) (tCall sp dvs E t) := by
  intro pins s σ H Q I h
  refine wpAny_Call_Name_kw (ld_glob I hg hm ?_ hdb)
  refine PySem.W.callWith_K (h₀ := X.base) I.ok.mod.kin hk (thn (ha pos pins s σ H _ I h) fun us s1 ⟨vs, H1, I1, r, q⟩ => ⟨I1.kIn, ?_⟩) he hpl
  exact run_fn F hr hb hd hx I1 r q
structure Mk (K : PySem.W.Frag) (C f : Addr) : Prop where
  makes : PySem.W.makesIn K C = true
  init : PySem.W.findIn K (.ref C) "__init__" = some (some (.ref f))
  fn : PySem.W.isFn K (.ref f) = true
  kp : PySem.W.keepIn K (.ref C) = true

end

def PK (X : Cx) (kws : List Keyword) (t : TA) : Prop :=
  ∀ (pos : Pos) (pins : List (Addr × Obj)) (s : Shared) (σ : St) (H : Hp) (Q : List V → Hp → Prop), Inv X pins σ H s → t σ H Q → wpAny (model X.prog X.w) X.A (evalAll ((backToKw pos (keywordEach kws X.env)).map (·.2))) (AP X pins σ Q) X.xe s
section
variable {X : Cx} {CX : CXT} {k : Nat} {f C : Addr} {fd : FuncData} {ps ks : List Str} {sp : Sp} {E : XK} {x m : Str} {p pos apos kpos : Pos} {e o : Expr} {es : List Expr} {kws : List Keyword} {te ta : TE} {t tk : TA} {nm : Option Str}
structure KBinds (K : PySem.W.Frag) (fd : FuncData) (ps ks : List Str) (g : List Value → List Value → List Value) (gV : List V → List V → List V) : Prop where
  to : ∀ (s : Shared) (us ws : List Value), K.In s.heap → (g us ws).length = ps.length → BindsTo s fd ⟨us, ks.zip ws⟩ (ps.zip (g us ws))
  rel : ∀ {vs : List V} {us : List Value} {zs : List V} {ws : List Value}, Vals vs us → Vals zs ws → Vals (gV vs zs) (g us ws)
def tCallK (sp : Sp) (gV : List V → List V → List V) (E : XK) (t tk : TA) : TE := fun σ H Q => t σ H fun vs H1 => tk σ H1 fun zs H2 => sp (gV vs zs) H2 Q E
variable {g : List Value → List Value → List Value} {gV : List V → List V → List V}
end

structure FnScope (N P : List Str) (sc : Scope) : Prop where
  kind : sc.kind = .function
  co : sc.isCoroutine = false
  gen : sc.isGenerator = false
  nd : N.Nodup
  pre : N.take P.length = P
  par : ∀ x ∈ P, sc.names.lookup x = some .local ∨ sc.names.lookup x = some .cell
  nofree : ∀ y ∈ sc.names, y.2 ≠ .free

theorem bindL_out {kindOf : Str → Option NameKind} {x : Str} : ∀ {binds : List (Str × Value)} {m : Str → Option Value}, (∀ v, (x, v) ∉ binds) → bindL kindOf binds m x = m x
  | [], _, _ => rfl
  | (n, v) :: r, m, h => by
    unfold bindL
    rw [bindL_out fun w hw => h w (List.mem_cons_of_mem _ hw)]
    split
    · have : x ≠ n := by rintro rfl; exact h v List.mem_cons_self
      simp [this]
    · rfl
theorem bindC_out {kindOf : Str → Option NameKind} {x : Str} : ∀ {binds : List (Str × Value)} {m : Str → Option Value}, (∀ v, (x, v) ∉ binds) → bindC kindOf binds m x = m x
  | [], _, _ => rfl
  | (n, v) :: r, m, h => by
    unfold bindC
    rw [bindC_out fun w hw => h w (List.mem_cons_of_mem _ hw)]
    split
    · rfl
    · have : x ≠ n := by rintro rfl; exact h v List.mem_cons_self
      simp [this]
theorem bindL_get {kindOf : Str → Option NameKind} {x : Str} {v : Value} : ∀ {P : List Str} {vs : List Value} {i : Nat} {m : Str → Option Value}, P.Nodup → P[i]? = some x → vs[i]? = some v → kindOf x = some .local →
    bindL kindOf (P.zip vs) m x = some v
  | [], _, _, _, _, h, _, _ => by simp at h
  | _ :: _, [], _, _, _, _, h, _ => by simp at h
  | p :: P, w :: vs, 0, m, nd, h1, h2, hk => by
    simp at h1 h2; subst h1; subst h2
    show bindL kindOf ((p, w) :: P.zip vs) m p = _
    unfold bindL
    rw [bindL_out fun v hv => (List.nodup_cons.mp nd).1 (List.of_mem_zip hv).1, if_pos hk]
    simp
  | p :: P, w :: vs, i + 1, m, nd, h1, h2, hk => by
    show bindL kindOf ((p, w) :: P.zip vs) m x = _
    unfold bindL
    exact bindL_get (i := i) (List.nodup_cons.mp nd).2 (by simpa using h1) (by simpa using h2) hk
theorem bindC_get {kindOf : Str → Option NameKind} {x : Str} {v : Value} : ∀ {P : List Str} {vs : List Value} {i : Nat} {m : Str → Option Value}, P.Nodup → P[i]? = some x → vs[i]? = some v → kindOf x ≠ some .local →
    bindC kindOf (P.zip vs) m x = some v
  | [], _, _, _, _, h, _, _ => by simp at h
  | _ :: _, [], _, _, _, _, h, _ => by simp at h
  | p :: P, w :: vs, 0, m, nd, h1, h2, hk => by
    simp at h1 h2; subst h1; subst h2
    show bindC kindOf ((p, w) :: P.zip vs) m p = _
    unfold bindC
    rw [bindC_out fun v hv => (List.nodup_cons.mp nd).1 (List.of_mem_zip hv).1, if_neg hk]
    simp
  | p :: P, w :: vs, i + 1, m, nd, h1, h2, hk => by
    show bindC kindOf ((p, w) :: P.zip vs) m x = _
    unfold bindC
    exact bindC_get (i := i) (List.nodup_cons.mp nd).2 (by simpa using h1) (by simpa using h2) hk

def start (N : List Str) (vs : List V) : St := vs.map some ++ List.replicate (N.length - vs.length) none

def cxOf (CX : CXT) (P : Program) (w : World) (K : PySem.W.Frag) (mg : Str → Option Value) (base : Heap) (N : List Str) (qual : Str) (scope : Scope) (f : Addr) (cd : Value) (A : Around) (outer : List Env) (s : Shared) (H : Hp) (E : XK) : Cx where
  prog := P
  w := w
  K := K
  mg := mg
  base := base
  A := A.deeper (envOfC qual scope s.heap.objs.size f cd)
  N := N
  s₀ := s
  H₀ := H
  env := envOfC qual scope s.heap.objs.size f cd
  outer := outer
  stack := envOfC qual scope s.heap.objs.size f cd :: outer
  ex := []
  calm := true
  still := true
  fz := []
  fn := fun _ => true
  pn := []
  xe := fun e s' => wpAny (model P w) (A.deeper (envOfC qual scope s.heap.objs.size f cd)) (leaving (envOfC qual scope s.heap.objs.size f cd) e) (fun _ s'' => CX outer H s E e s'') (fun e' s'' => CX outer H s E e' s'') s'

theorem cell_has {sc : Scope} {n : Nat} {x : Str} (h : sc.names.lookup x = some .cell) : ∃ c, (cellsFrom n sc.names []).lookup x = some c := by
  have q := PySem.W.cellsFrom_some sc.names n [] (.inl h)
  exact Option.isSome_iff_exists.mp q

theorem inv_start {CX : CXT} {P : Program} {w : World} {K : PySem.W.Frag} {mg : Str → Option Value} {base : Heap} {N ps : List Str} {qual : Str} {scope : Scope} {f : Addr} {cd : Value} {A : Around} {outer : List Env} {s s1 : Shared} {H : Hp} {E : XK} {us : List Value} {vs : List V}
    (S : FnScope N ps scope) (hd : A.handled = none) (e0 : Env0 P w K mg base A outer s H) (hl : vs.length = ps.length) (r : Vals vs us)
    (x : InCallC s s.heap.objs.size (bindL (envOfC qual scope s.heap.objs.size f cd).kindOf (ps.zip us) fun _ => none) (cellsFrom (s.heap.objs.size + 1) scope.names []) (bindC (envOfC qual scope s.heap.objs.size f cd).kindOf (ps.zip us) fun _ => none) s1) :
    Inv (cxOf CX P w K mg base N qual scope f cd A outer s H E) [] (start N vs) H s1 := by
  have hpl : ps.length ≤ N.length := by have := congrArg List.length S.pre; rw [List.length_take] at this; omega
  obtain ⟨h1, tk, rfl, hk⟩ := x.done
  have noA : ∀ b : Addr, b ∉ (cxOf CX P w K mg base N qual scope f cd A outer s H E).ex := fun b z => absurd (show b ∈ ([] : List Addr) from z) (by simp)
  refine ⟨⟨e0.mod, S.kind, rfl, rfl, Nat.le_refl _, fun y z c h1 h2 => ?_, fun y hy => ?_, fun y c _ h => ?_, fun _ => hd, fun _ => .inl hd, Around.frames_deeper e0.frames, .inr ⟨rfl, rfl⟩, fun b z => absurd z (noA b), e0.bs, e0.bsz, fun b _ _ => noA b, fun b z => absurd z (noA b), e0.funs, e0.frf⟩,
    (fun p hp => nomatch hp), rfl, e0.bare, Un.kept hk, ⟨_, x.toInCall.ns, fun i y v h1 h2 h3 => ?_⟩, fun y c h => ⟨_, x.cell y c h⟩, e0.hok.fresh (Nat.le_refl _), fun y c h => ?_, fun p hp => absurd (show p ∈ ([] : List (Addr × Obj)) from hp) (by simp), e0.hok.kept hk, ?_⟩
  · exact name_of_addr x.apart (PySem.mem_of_lookup h1) (PySem.mem_of_lookup h2)
  · have hy : scope.names.lookup y = some .cell ∨ scope.names.lookup y = some .free := hy
    rcases hy with hy | hy
    · exact cell_has hy
    · exact absurd rfl (S.nofree _ (PySem.mem_of_lookup hy))
  · exact Nat.le_of_lt (x.above y c (PySem.mem_of_lookup h))
  · have hi : i < vs.length := by
      unfold start at h2
      by_cases hi : i < vs.length
      · exact hi
      · rw [List.getElem?_append_right (by simpa using hi)] at h2
        rw [List.getElem?_replicate] at h2
        split at h2 <;> cases h2
    have ha : vs[i]? = some v := by
      unfold start at h2
      rw [List.getElem?_append_left (by simpa using hi), List.getElem?_map] at h2
      cases e : vs[i]? with
      | none => rw [e] at h2; cases h2
      | some a => rw [e] at h2; cases h2; rfl
    obtain ⟨u, hu, rv⟩ := r.get ha
    have hp : ps[i]? = some y := by
      rw [← S.pre, List.getElem?_take_of_lt (by omega)]; exact h1
    have ndP : ps.Nodup := by rw [← S.pre]; exact S.nd.sublist (List.take_sublist _ _)
    refine ⟨u, rv, ?_⟩
    rcases S.par y (List.mem_of_getElem? hp) with k | k
    · exact .inl ⟨k, bindL_get ndP hp hu k⟩
    · obtain ⟨c, e⟩ := cell_has (n := s.heap.objs.size + 1) k
      refine .inr ⟨.inl k, c, e, ?_⟩
      have q := x.cell y c e
      rw [bindC_get ndP hp hu (by show scope.names.lookup y ≠ _; rw [k]; decide)] at q
      exact q
  · exact e0.hok.fresh (Nat.le_of_lt (x.above y c (PySem.mem_of_lookup h)))
  · unfold start
    show _ = N.length
    rw [List.length_append, List.length_map, List.length_replicate]
    omega

theorem fn_of {CX : CXT} {P : Program} {w : World} {K : PySem.W.Frag} {mg : Str → Option Value} {base : Heap} {k : Nat} {f : Addr} {name qual : Str} {params : Arguments} {body : List Stmt} {scope : Scope} {dV kV doc pm cdv ct oc : Value} {an od : Option Addr}
    {osl : Array (Option Value)} {N ps : List Str} {sp : Sp} (lk : K.lookup f = some ⟨oc, od, .func (PySem.W.fnOf name qual params body scope dV kV doc pm an cdv ct), osl⟩) (hcd : PySem.W.codeIn K cdv qual = true) (S : FnScope N ps scope)
    (len : ∀ vs H Q E, sp vs H Q E → vs.length = ps.length)
    (hbody : ∀ (A : Around) (outer : List Env) (s : Shared) (H : Hp) (vs : List V) (Q : VK) (E : XK), Room k (A.deeper (envOfC qual scope s.heap.objs.size f cdv)) → sp vs H Q E →
      ∃ t, PSs (cxOf CX P w K mg base N qual scope f cdv A outer s H E) body t ∧ t { nx := fun _ H' => Q .non H', rt := Q } (start N vs) H) :
    FnOk P w K mg base CX (k + 1) f (PySem.W.fnOf name qual params body scope dV kV doc pm an cdv ct) ps sp := by
  refine ⟨len, fun A outer s H args us vs Q E hr e0 hb r hsp => ?_⟩
  have hl := len _ _ _ _ hsp
  have KX : K.In s.heap := e0.mod.kin.keeps fun b o e => (e0.bs b o e).1
  have lim : s.heap.NoLimit := e0.mod.nolimit.keeps fun b o e => (e0.bs b o e).1
  have hkind : ∀ y ∈ ps.zip us, scope.names.lookup y.1 = some .local ∨ (scope.names.lookup y.1 = some .cell ∧ ((cellsFrom (s.heap.objs.size + 1) scope.names []).lookup y.1).isSome = true) := fun ⟨n, v⟩ hy => by
    rcases S.par n (List.of_mem_zip hy).1 with q | q
    · exact .inl q
    · exact .inr ⟨q, PySem.W.cellsFrom_some _ _ _ (.inl q)⟩
  refine codeAny_call_function hr.depth (KX _ _ lk) rfl S.co S.gen rfl (PySem.W.codeRec_of KX hcd) (hb _ _ _ _ ?_)
  refine wpAny_newFunctionEnv_cells S.kind hkind fun env he s1 x => ?_
  subst he
  refine ⟨lim.keeps x.toInCall.keep, codeAny_func ?_⟩
  obtain ⟨t, ht, hq⟩ := hbody A outer s H vs Q E (hr.deeper _) hsp
  have I : Inv (cxOf CX P w K mg base N qual scope f cdv A outer s H E) [] (start N vs) H s1 := inv_start S hr.hd e0 hl r x
  refine wpAny_mono (ht [] s1 (start N vs) H _ I hq) (fun fl s' hs => ?_) fun e s' hs => hs
  have fin : ∀ {σ' : St} {H' : Hp} {v : V} {u : Value}, Inv (cxOf CX P w K mg base N qual scope f cdv A outer s H E) [] σ' H' s' → RelV v u → Q v H' → CE outer P w H s Q u s' :=
    fun {σ' H' v u} J rv q => ⟨v, H', J.os, J.bare, J.base, J.hok, rv, q⟩
  cases fl with
  | ret u =>
    obtain ⟨v, σ', H', J, rv, q⟩ := hs
    exact fin J rv q
  | next =>
    obtain ⟨σ', H', J, q⟩ := hs
    exact fin (v := V.non) (u := Value.none) J rfl q
  | brk =>
    obtain ⟨_, _, _, q⟩ := hs
    exact False.elim q
  | cont =>
    obtain ⟨_, _, _, q⟩ := hs
    exact False.elim q
end L2

namespace L2
open PySem PySem.Spec PyProof.Rows
section
variable {X : Cx} {x : Str} {p pos : Pos} {e : Expr} {es : List Expr} {t : TA} {id T : String} {r : List V → Hp → VK → Prop}

def tCB (r : List V → Hp → VK → Prop) (t : TA) : TE := fun σ H Q => t σ H fun vs H1 => r vs H1 Q
theorem pe_callB (hc : CallR X (.builtin id) r) (hg : Gl X x) (hm : X.mg x = none) (hv : bootBuiltins x = some (.builtin id)) (ha : PA X (e :: es) t) (hn : x ≠ "__name__" := by decide) (hdb : (x == ("__debug__" : Str)) = false := by decide)
    (he : starEach (e :: es) X.env = (false, eval e X.env) :: starEach es X.env := by rfl) (hpl : (backTo pos (starEach es X.env)).any (·.1) = false := by rfl) : PE X (.Call (.Name x p) (e :: es) [] pos) (tCB r t) := by
  intro pins s σ H Q I h
  refine wpAny_Call_Name_kw (ld_blt I hg hm hv ?_ hn hdb)
  exact PyProof.Rows.callWith_builtin1 (thn (ha pos pins s σ H _ I h) fun us s1 ⟨vs, H1, I1, r1, q1⟩ => hc pins s1 σ H1 vs us Q I1 r1 q1) he hpl
theorem pe_callTy (hc : CallR X (.type T) r) (hg : Gl X x) (hm : X.mg x = none) (hv : bootBuiltins x = some (.type T)) (ha : PA X (e :: es) t) (hn : x ≠ "__name__" := by decide) (hdb : (x == ("__debug__" : Str)) = false := by decide)
    (he : starEach (e :: es) X.env = (false, eval e X.env) :: starEach es X.env := by rfl) (hpl : (backTo pos (starEach es X.env)).any (·.1) = false := by rfl) : PE X (.Call (.Name x p) (e :: es) [] pos) (tCB r t) := by
  intro pins s σ H Q I h
  refine wpAny_Call_Name_kw (ld_blt I hg hm hv ?_ hn hdb)
  exact PyProof.Rows.callWith_type1 (thn (ha pos pins s σ H _ I h) fun us s1 ⟨vs, H1, I1, r1, q1⟩ => hc pins s1 σ H1 vs us Q I1 r1 q1) he hpl
end
end L2

namespace HT
open PySem PyProof.Rows

def lexLt : List Int → List Int → Bool
  | [], [] => false
  | [], _ :: _ => true
  | _ :: _, [] => false
  | x :: xs, y :: ys => if x = y then lexLt xs ys else decide (x < y)
theorem lexLt_cons (x y : Int) (xs ys : List Int) : lexLt (x :: xs) (y :: ys) = if x = y then lexLt xs ys else decide (x < y) := rfl
theorem lexLt_nil_nil : lexLt [] [] = false := rfl
theorem lexLt_nil_cons (y : Int) (ys : List Int) : lexLt [] (y :: ys) = true := rfl
theorem lexLt_cons_nil (x : Int) (xs : List Int) : lexLt (x :: xs) [] = false := rfl

theorem eqAt_int (A : Around) (s : Shared) (a : Int) (t : Tok) (c : Int) (u : Tok) : ∃ e, SeqAt.EqAt A s (.int a t) (.int c u) e ∧ (e = true ↔ a = c) :=
  ⟨(a == c), SeqAt.EqAt.int_int a t c u, by simp⟩
theorem rcLt_int (A : Around) (s : Shared) (a : Int) (t : Tok) (c : Int) (u : Tok) (prog : Program) (w : World) (E : Value → Shared → Prop) (Q : Value → Shared → Prop) (h : Q (.bool (decide (a < c))) s) :
    wpAny (model prog w) A (richCompare .Lt (.int a t) (.int c u)) Q E s :=
  (PyProof.Rows.lt_int h : wpAny (model prog w) A (compareOp .Lt (.int a t) (.int c u)) Q E s)

section
open PySem.SeqAt
open PySem.AutoSeq1 (wpAny_loadPart')
open PySem.MeetsSeq PySem.MeetsSeq2 PySem.MeetsSeq3

theorem tuple_lt_ints (l b : Addr) (items items2 : Array Value) (n n2 : Nat) (dd dd2 : Option Addr) (sl sl2 : Array (Option Value)) (ns ms : List Int) (hi : IntsAre items.toList ns) (hj : IntsAre items2.toList ms) :
    Meets (Builtin.«tuple.__lt__» ⟨[.ref l, .ref b], []⟩)
      (fun _ R s => s.heap.get? l = some { cls := .type "tuple", dict := dd, data := .seq items n, slots := sl } ∧ s.heap.get? b = some { cls := .type "tuple", dict := dd2, data := .seq items2 n2, slots := sl2 } ∧
        R (.ok (.ret (.bool (lexLt ns ms)))) s) :=
  .of_wp fun prog w A R s h => by
    obtain ⟨hp, g, d, tk, os⟩ := s; obtain ⟨hl, hb, h⟩ := h
    have f2 := AutoSeq1.sub_tuple_tuple
    have z1 : items.size = ns.length := by rw [← hi.length]; simp
    have z2 : items2.size = ms.length := by rw [← hj.length]; simp
    wp_walk using wpAny_loadPart' hl, wpAny_loadPart' hb, wpAny_forIn_list _ (fun rest b s' => b.1 = none ∧ s' = ⟨hp, g, d, tk, os⟩ ∧ ∃ (vs ws : List Value) (ns' ms' : List Int), rest = vs.zip ws ∧
      IntsAre vs ns' ∧ IntsAre ws ms' ∧ ns'.length + items2.size = ms'.length + items.size ∧ R (.ok (.ret (.bool (lexLt ns' ms')))) ⟨hp, g, d, tk, os⟩) _
    case turn =>
      rintro ⟨y, x⟩ rest b s' ⟨hb', rfl, vs, ws, ns', ms', hz, hvi, hwi, hlen, hR⟩
      cases hvi with
      | nil => rw [List.zip_nil_left] at hz; cases hz
      | cons a t hvi' =>
        cases hwi with
        | nil => rw [List.zip_nil_right] at hz; cases hz
        | cons c u hwi' =>
          rw [List.zip_cons_cons] at hz
          injection hz with hyx hrest
          injection hyx with hy hx
          subst hy hx
          rw [lexLt_cons] at hR
          simp only [List.length_cons] at hlen
          obtain ⟨e, he, hiff⟩ := eqAt_int A.in1 ⟨hp, g, d, tk, os⟩ a t c u
          refine wpAny_bind (he prog w _ _ ?_)
          cases e with
          | true =>
            rw [if_pos (hiff.mp rfl)] at hR
            wp_walk
            exact ⟨rfl, rfl, _, _, _, _, hrest, hvi', hwi', by omega, hR⟩
          | false =>
            rw [if_neg (fun q => absurd (hiff.mpr q) Bool.false_ne_true)] at hR
            have hri := rcLt_int A.in1 ⟨hp, g, d, tk, os⟩ a t c u prog w
            wp_walk using hri
            exact ⟨_, rfl, by simpa using hR⟩
    case fin =>
      rintro ⟨b1, b2⟩ s' ⟨hb', rfl, vs, ws, ns', ms', hz, hvi, hwi, hlen, hR⟩
      simp only at hb'
      subst hb'
      have hv : lexLt ns' ms' = decide (items.size < items2.size) := by
        cases hvi with
        | nil =>
          cases hwi with
          | nil =>
            simp only [List.length_nil] at hlen
            rw [lexLt_nil_nil]
            exact (decide_eq_false (by omega)).symm
          | cons c u hw =>
            simp only [List.length_nil, List.length_cons] at hlen
            rw [lexLt_nil_cons]
            exact (decide_eq_true (by omega)).symm
        | cons a t hv =>
          cases hwi with
          | nil =>
            simp only [List.length_nil, List.length_cons] at hlen
            rw [lexLt_cons_nil]
            exact (decide_eq_false (by omega)).symm
          | cons c u hw =>
            rw [List.zip_cons_cons] at hz
            cases hz
      rw [hv] at hR
      wp_walk
      exact ⟨_, rfl, by simpa [Builtin.Tuple.tupleCompareSizes] using hR⟩
    case h =>
      exact ⟨rfl, rfl, items.toList, items2.toList, ns, ms, rfl, hi, hj, by omega, h⟩
end

section
variable {prog : Program} {w : World} {A : Around} {E : Value → Shared → Prop} {s : Shared}

theorem lt_tupInts {l b : Addr} {items items2 : Array Value} {ns ms : List Int} {Q : Value → Shared → Prop} (hl : IsTup s.heap l items) (hb : IsTup s.heap b items2) (hi : IntsAre items.toList ns) (hj : IntsAre items2.toList ms)
    (hu : A.units < cLine) (h : Q (.bool (lexLt ns ms)) s) : wpAny (model prog w) A (compareOp .Lt (.ref l) (.ref b)) Q E s := by
  obtain ⟨⟨cls, dd, data, sl⟩, ho, hc, n, hd⟩ := id hl
  obtain ⟨⟨cls2, dd2, data2, sl2⟩, ho2, hc2, n2, hd2⟩ := id hb
  simp only at hc hd hc2 hd2
  subst hc hd hc2 hd2
  exact richCompare_meets_room (op := .Lt) ⟨_, ho, rfl⟩ ⟨_, ho2, rfl⟩ PySem.F.slot_tuple_lt PySem.F.entry_tuple_lt (PySem.F.args_tuple_lt_2 _ _) (tuple_lt_ints l b items items2 n n2 dd dd2 sl sl2 ns ms hi hj)
    ⟨ho, ho2, show Value.bool (lexLt ns ms) ≠ Value.notImplemented ∧ Q (.bool (lexLt ns ms)) s from ⟨(fun x => nomatch x), h⟩⟩ hu

def sIx (n d : Nat) : Option Int → Nat
  | none => d
  | some v => if v < 0 then (v + (n : Int)).toNat else min v.toNat n
end
end HT

namespace L2
open PySem PySem.Spec PyProof.Rows

abbrev TO := St → Hp → (Option Int → Hp → Prop) → Prop
def PO (X : Cx) (e : Option Expr) (t : TO) : Prop :=
  ∀ (pins : List (Addr × Obj)) (s : Shared) (σ : St) (H : Hp) (Q : Option Int → Hp → Prop), Inv X pins σ H s → t σ H Q →
    wpAny (model X.prog X.w) X.A (evalPart e X.env) (fun u s' => ∃ o H', Inv X pins σ H' s' ∧ IsPart u o ∧ Q o H') X.xe s
def tNoPart : TO := fun _ H Q => Q none H
def tPart (t : TE) : TO := fun σ H Q => t σ H fun x H1 => ∃ i, x = .int i ∧ Q (some i) H1

theorem intsAre_of {ns : List Int} : ∀ {us : List Value}, Vals (ns.map V.int) us → IntsAre us ns := by
  induction ns with
  | nil => intro us r; rw [List.map_nil] at r; cases r; exact .nil
  | cons n ns ih =>
    intro us r
    rw [List.map_cons] at r
    cases r with
    | cons r1 r2 =>
      obtain ⟨t, e⟩ := r1
      subst e
      exact .cons n t (ih r2)

section
variable {X : Cx} {e : Expr} {te : TE} {lo hi : Option Expr} {tl th : TO} {pos p2 : Pos}

theorem po_none : PO X none tNoPart := by
  intro pins s σ H Q I h
  rw [evalPart_none]
  exact wpAny_pure ⟨none, H, I, .none, h⟩
theorem po_some (h : PE X e te) : PO X (some e) (tPart te) := by
  intro pins s σ H Q I hw
  rw [evalPart_some]
  refine thn (h pins s σ H _ I hw) fun u s1 ⟨x, H1, I1, r1, q1⟩ => ?_
  obtain ⟨i, rfl, q⟩ := q1
  obtain ⟨t, rfl⟩ := r1
  exact ⟨some i, H1, I1, .int i t, q⟩

def SlR (X : Cx) (r : V → Option Int → Option Int → Hp → VK → Prop) : Prop :=
  ∀ (pins : List (Addr × Obj)) (s : Shared) (σ : St) (H : Hp) (x : V) (v vl vu : Value) (lo hi : Option Int) (sl : Addr) (Q : VK), Inv X pins σ H s → RelV x v → s.heap.IsSliceOf sl vl vu .none → IsPart vl lo → IsPart vu hi → r x lo hi H Q →
    ∃ T id, typeLookup (.type T) "__getitem__" = pure (some (.builtin id)) ∧ s.TypeIs v T ∧ wpAny (model X.prog X.w) X.A (getItem v (.ref sl)) (EP X pins σ Q) X.xe s
def tSl (r : V → Option Int → Option Int → Hp → VK → Prop) (te : TE) (tl th : TO) : TE := fun σ H Q => te σ H fun x H1 => tl σ H1 fun l H2 => th σ H2 fun u H3 => r x l u H3 Q
theorem pe_slice {r : V → Option Int → Option Int → Hp → VK → Prop} (hr : SlR X r) (he : PE X e te) (hl : PO X lo tl) (hu : PO X hi th) : PE X (.Subscript e (.Slice lo hi none p2) pos) (tSl r te tl th) := by
  intro pins s σ H Q I h
  refine Subscript_ (thn (he pins s σ H _ I h) fun v s1 ⟨x, H1, I1, r1, q1⟩ => ?_)
  refine wpAny_Slice (thn (hl pins s1 σ H1 _ I1 q1) fun vl s2 ⟨l, H2, I2, pl, q2⟩ => thn (hu pins s2 σ H2 _ I2 q2) fun vu s3 ⟨u, H3, I3, pu, q3⟩ => ?_)
  rw [evalPart_none]
  refine wpAny_pure ?_
  have I4 : Inv X pins σ H3 { s3 with heap := s3.heap.push { cls := .type "slice", data := .fields #[vl, vu, .none] } } := I3.kept (t' := s3.toks) fun b ob q => Heap.get?_push_of_some _ q
  obtain ⟨T, id, hT, ht, hg⟩ := hr pins { s3 with heap := s3.heap.push { cls := .type "slice", data := .fields #[vl, vu, .none] } } σ H3 x v vl vu l u s3.heap.objs.size Q I4 r1 (Heap.IsSliceOf.new ..) pl pu q3
  show wpAny (model X.prog X.w) X.A (subscriptTail e (.Slice lo hi none p2) v (.ref s3.heap.objs.size)) (EP X pins σ Q) X.xe { s3 with heap := s3.heap.push { cls := .type "slice", data := .fields #[vl, vu, .none] } }
  exact tail_any (ops := [.ref s3.heap.objs.size, v]) ht hT hg (by with_unfolding_all rfl)

def cutV (xs : List V) (lo hi : Option Int) : List V := (xs.drop (HT.sIx xs.length 0 lo)).take (HT.sIx xs.length xs.length hi - HT.sIx xs.length 0 lo)
theorem cutV_length (xs : List V) (lo hi : Option Int) : (cutV xs lo hi).length ≤ xs.length := by
  unfold cutV
  rw [List.length_take, List.length_drop]
  omega
def rSlT (K : PySem.W.Frag) : V → Option Int → Option Int → Hp → VK → Prop := fun x lo hi H Q => ∃ a xs, x = .ref a ∧ SqT K H a xs ∧
  ¬ (HT.sIx xs.length 0 lo = 0 ∧ HT.sIx xs.length xs.length hi = xs.length) ∧ ∀ p, H p = none → Q (.ref p) (upd H p (.tup (cutV xs lo hi)))
def rLtT (K : PySem.W.Frag) : R2 := fun x y H Q => ∃ a b ns ms, x = .ref a ∧ y = .ref b ∧ SqT K H a (ns.map V.int) ∧ SqT K H b (ms.map V.int) ∧ Q (.bl (HT.lexLt ns ms)) H
theorem op_ltT (hu : X.A.units < cLine) : OpR X (compareOp .Lt) (rLtT X.K) := by
  intro pins s σ H x y v u Q I rx ry h
  obtain ⟨a, b, ns, ms, rfl, rfl, ha, hb, q⟩ := h
  cases rx
  cases ry
  obtain ⟨its, r1, p1, _⟩ := I.tuple ha
  obtain ⟨its2, r2, p2, _⟩ := I.tuple hb
  have i1 : IntsAre its.toArray.toList ns := intsAre_of r1
  have i2 : IntsAre its2.toArray.toList ms := intsAre_of r2
  exact HT.lt_tupInts p1 p2 i1 i2 hu ⟨.bl (HT.lexLt ns ms), H, I, rfl, q⟩
def rCatT (K : PySem.W.Frag) : R2 := fun x y H Q => ∃ a b xs ys, x = .ref a ∧ y = .ref b ∧ SqT K H a xs ∧ SqT K H b ys ∧ xs ≠ [] ∧ xs.length + ys.length ≤ sizeLine ∧
  (ys = [] → Q (.ref a) H) ∧ (ys ≠ [] → ∀ p, H p = none → Q (.ref p) (upd H p (.tup (xs ++ ys))))
end
end L2

namespace L2
open PySem PySem.Spec PyProof.Rows

def ixN (n : Nat) (i : Int) : Option Nat := if 0 ≤ i then (if i < n then some i.toNat else none) else if -(n : Int) ≤ i then some (i + n).toNat else none
def atI {α : Type} (xs : List α) (i : Int) : Option α := (ixN xs.length i).bind fun j => xs[j]?
theorem ixN_seq {n : Nat} {i : Int} {j : Nat} (h : ixN n i = some j) : seqIndex? i n = some j ∧ j < n ∧ -(n : Int) ≤ i ∧ i < n := by
  unfold ixN at h
  by_cases h0 : 0 ≤ i
  · rw [if_pos h0] at h
    by_cases h1 : i < n
    · rw [if_pos h1] at h
      have e : i.toNat = j := Option.some.inj h
      exact ⟨by rw [seqIndex_of h0 h1, e], by omega, by omega, h1⟩
    · rw [if_neg h1] at h; cases h
  · rw [if_neg h0] at h
    by_cases h1 : -(n : Int) ≤ i
    · rw [if_pos h1] at h
      have e : (i + n).toNat = j := Option.some.inj h
      exact ⟨by rw [seqIndex_neg (by omega) h1, e], by omega, h1, by omega⟩
    · rw [if_neg h1] at h; cases h
theorem atI_get {α : Type} {xs : List α} {i : Int} {v : α} (h : atI xs i = some v) : ∃ j, seqIndex? i xs.length = some j ∧ xs[j]? = some v ∧ j < xs.length ∧ -(xs.length : Int) ≤ i ∧ i < xs.length := by
  unfold atI at h
  cases e : ixN xs.length i with
  | none => rw [e] at h; cases h
  | some j =>
    rw [e] at h
    obtain ⟨h1, h2, h3, h4⟩ := ixN_seq e
    exact ⟨j, h1, h, h2, h3, h4⟩
theorem atI_nat {α : Type} {xs : List α} {j : Nat} {v : α} (h : xs[j]? = some v) : atI xs (j : Int) = some v := by
  have hj : j < xs.length := (List.getElem?_eq_some_iff.mp h).1
  have e : ixN xs.length (j : Int) = some j := by
    unfold ixN
    rw [if_pos (by omega), if_pos (by omega)]; simp
  unfold atI; rw [e]; exact h
def PlainIx (b : Expr) : Prop := ∀ o i, subscripted b false o i = operate [o, i] (getItem o i)
def IxR (X : Cx) (r : R2) : Prop :=
  ∀ (value slice : Expr) (pins : List (Addr × Obj)) (s : Shared) (σ : St) (H : Hp) (x y : V) (v u : Value) (Q : VK), Inv X pins σ H s → RelV x v → RelV y u → r x y H Q →
    subscripted slice false v u = operate [v, u] (getItem v u) → wpAny (model X.prog X.w) X.A (subscriptTail value slice v u) (EP X pins σ Q) X.xe s
def MtR (X : Cx) (id : String) (r : V → List V → Hp → VK → Prop) : Prop :=
  ∀ (pins : List (Addr × Obj)) (s : Shared) (σ : St) (H : Hp) (x : V) (xs : List V) (v : Value) (us : List Value) (Q : VK), Inv X pins σ H s → RelV x v → Vals xs us → r x xs H Q →
    wpAny (model X.prog X.w) X.A (call (.builtin id) (v :: us)) (EP X pins σ Q) X.xe s
section
variable {X : Cx} {a b : Expr} {ta tb : TE} {pos : Pos}
theorem IxR.or {r r' : R2} (h : IxR X r) (h' : IxR X r') : IxR X (fun x y H Q => r x y H Q ∨ r' x y H Q) := by
  intro value slice pins s σ H x y v u Q I rx ry q hs
  rcases q with q | q
  · exact h value slice pins s σ H x y v u Q I rx ry q hs
  · exact h' value slice pins s σ H x y v u Q I rx ry q hs
theorem pe_ix {r : R2} (hr : IxR X r) (ha : PE X a ta) (hb : PE X b tb) (hs : PlainIx b) : PE X (.Subscript a b pos) (tOp r ta tb) := by
  intro pins s σ H Q I h
  exact Subscript_ (binT ha hb I h fun v u s2 x y H2 I2 rx ry q => hr a b pins s2 σ H2 x y v u Q I2 rx ry q (hs _ _))

def rIxL (K : PySem.W.Frag) : R2 := fun x y H Q => ∃ p xs i v, x = .ref p ∧ y = .int i ∧ SqL K H p xs ∧ atI xs i = some v ∧ Q v H
def rIxT (K : PySem.W.Frag) : R2 := fun x y H Q => ∃ p xs i v, x = .ref p ∧ y = .int i ∧ SqT K H p xs ∧ atI xs i = some v ∧ Q v H
def rIxS : R2 := fun x y H Q => ∃ z i c, x = .str z ∧ y = .int i ∧ z.length ≤ sizeLine ∧ atI z.cps.toList i = some c ∧ Q (.str ⟨#[c]⟩) H
theorem ix_list : IxR X (rIxL X.K) := by
  intro value slice pins s σ H x y v u Q I rx ry h hs
  obtain ⟨p, xs, i, z, rfl, rfl, hq, he, q⟩ := h
  cases rx
  obtain ⟨t, rfl⟩ := ry
  obtain ⟨its, r, pl, hz⟩ := I.list hq
  obtain ⟨j, h1, h2, h3, h4, h5⟩ := atI_get he
  obtain ⟨w, ew, rw'⟩ := r.get h2
  have hl := r.length
  have hn := line63
  have fin : EP X pins σ Q w s := ⟨z, H, I, rw', q⟩
  by_cases h0 : 0 ≤ i
  · have hj : i.toNat = j := by
      rw [seqIndex_of h0 h5] at h1
      exact Option.some.inj h1
    exact item_listR pl.isList h0 (by omega) (by rw [hj]; simpa using ew) fin hs
  · have hj : (i + (its.toArray.size : Int)).toNat = j := by
      rw [seqIndex_neg (by omega) h4] at h1
      rw [List.size_toArray, ← hl]
      exact Option.some.inj h1
    exact subscriptTail_builtinR (x := w) pl.isList.typeIs slot_list_getitem.lookup
      (wpAny_getItem_list_neg (Q := fun r s' => r = w ∧ EP X pins σ Q r s') pl.isList (by omega) (by rw [List.size_toArray] <;> omega) (by omega) (by rw [hj]; simpa using ew) ⟨rfl, fin⟩) hs
theorem ix_tup : IxR X (rIxT X.K) := by
  intro value slice pins s σ H x y v u Q I rx ry h hs
  obtain ⟨p, xs, i, z, rfl, rfl, hq, he, q⟩ := h
  cases rx
  obtain ⟨t, rfl⟩ := ry
  obtain ⟨its, r, pl, hz⟩ := I.tuple hq
  obtain ⟨j, h1, h2, h3, h4, h5⟩ := atI_get he
  obtain ⟨w, ew, rw'⟩ := r.get h2
  have hl := r.length
  have hn := line63
  have fin : EP X pins σ Q w s := ⟨z, H, I, rw', q⟩
  exact subscriptTail_builtinR (x := w) pl.typeIs slot_tuple_getitem.lookup
    (getItem_tuple (j := j) (Q := fun r s' => r = w ∧ EP X pins σ Q r s') pl (by omega) (by omega) (by rw [List.size_toArray, ← hl]; exact h1) (by simpa using ew) ⟨rfl, fin⟩) hs
theorem ix_str : IxR X rIxS := by
  intro value slice pins s σ H x y v u Q I rx ry h hs
  obtain ⟨z, i, c, rfl, rfl, hz, he, q⟩ := h
  obtain ⟨t, rfl⟩ := rx
  obtain ⟨t', rfl⟩ := ry
  obtain ⟨j, h1, h2, h3, h4, h5⟩ := atI_get he
  have hl : z.cps.toList.length = z.length := by simp [Str.length]
  rw [hl] at h1 h4 h5
  have hn := line63
  exact tail_any (typeIs_str s z t) slot_str_getitem.lookup (getItem_str (c := c) (by
    have e1 : decide (i < -(2 ^ 63 : Int)) = false := decide_eq_false (by omega)
    have e2 : decide (i ≥ 2 ^ 63) = false := decide_eq_false (by omega)
    rw [e1, e2, Bool.or_false]) (by rw [h1]; simpa using h2) ⟨.str ⟨#[c]⟩, H, I.tok _, ⟨_, rfl⟩, q⟩) hs
def rIx (K : PySem.W.Frag) : R2 := fun x y H Q => rIxL K x y H Q ∨ rIxT K x y H Q ∨ rIxS x y H Q
theorem ix_seq : IxR X (rIx X.K) := ix_list.or (ix_tup.or ix_str)

def rSetL : V → V → V → Hp → (Hp → Prop) → Prop := fun o i v H Q => ∃ p xs k j, o = .ref p ∧ i = .int k ∧ H p = some (.lst xs) ∧ ixN xs.length k = some j ∧ Q (upd H p (.lst (xs.set j v)))
theorem slice_bounds (lo hi : Option Int) (n : Nat) : (sliceBounds lo hi none n).1 = ((HT.sIx n 0 lo : Nat) : Int) ∧ (sliceBounds lo hi none n).2.1 = ((HT.sIx n n hi : Nat) : Int) ∧ (sliceBounds lo hi none n).2.2 = 1 := by
  refine ⟨?_, ?_, rfl⟩
  · cases lo with
    | none => simp [sliceBounds, HT.sIx]
    | some i =>
      simp only [sliceBounds, HT.sIx, Option.getD_none, show (1 : Int) > 0 by decide, if_true]
      by_cases h : i < 0
      · simp only [h, if_true] <;> omega
      · simp only [h, if_false] <;> omega
  · cases hi with
    | none => simp [sliceBounds, HT.sIx]
    | some i =>
      simp only [sliceBounds, HT.sIx, Option.getD_none, show (1 : Int) > 0 by decide, if_true]
      by_cases h : i < 0
      · simp only [h, if_true] <;> omega
      · simp only [h, if_false] <;> omega
theorem slicePick_cut (its : List Value) (lo hi : Option Int) : slicePick its.toArray lo hi none = ((its.drop (HT.sIx its.length 0 lo)).take (HT.sIx its.length its.length hi - HT.sIx its.length 0 lo)).toArray := by
  obtain ⟨h1, h2, h3⟩ := slice_bounds lo hi its.toArray.size
  unfold slicePick
  rw [h1, h2, h3]
  simp only [sliceRange_one, pick_run, List.size_toArray] <;> rfl
def rSlL (K : PySem.W.Frag) : V → Option Int → Option Int → Hp → VK → Prop := fun x lo hi H Q => ∃ a xs, x = .ref a ∧ SqL K H a xs ∧ ∀ p, H p = none → Q (.ref p) (upd H p (.lst (cutV xs lo hi)))
theorem sl_list : SlR X (rSlL X.K) := by
  intro pins s σ H x v vl vu lo hi sl Q I rx hs pl pu h
  obtain ⟨a, xs, rfl, hx, q⟩ := h
  cases rx
  obtain ⟨its, r, ht, hz⟩ := I.list hx
  have hlen := r.length
  refine ⟨"list", _, slot_list_getitem.lookup, ht.isList.typeIs, ?_⟩
  refine wpAny_getItem_list_slice ht.isList hs pl pu .none (by simp) ?_ (by rw [List.size_toArray] <;> omega)
  rw [slicePick_cut, ← hlen]
  refine ⟨.ref s.heap.objs.size, _, I.laid (t' := s.toks) (o := .lst (cutV xs lo hi)) (fun b ob q => Heap.get?_push_of_some _ q) (Nat.le_refl _) ?_, rfl, q _ (I.hok.fresh (Nat.le_refl _))⟩
  exact ⟨Nat.le_trans (cutV_length xs lo hi) hz, _, 0, (r.drop (HT.sIx xs.length 0 lo)).take (HT.sIx xs.length xs.length hi - HT.sIx xs.length 0 lo), Heap.get?_push_size _ rfl⟩

def flatV : V → Bool
  | .non => true
  | .bl _ => true
  | .int _ => true
  | .str _ => true
  | _ => false
def eqV : V → V → Bool
  | .non, .non => true
  | .bl a, .bl b => a == b
  | .bl a, .int b => (if a then 1 else 0) == b
  | .int a, .bl b => a == (if b then 1 else 0)
  | .int a, .int b => a == b
  | .str a, .str b => a == b
  | _, _ => false
def eqU (x : V) (u : Value) : Bool := match u with
  | .none => eqV .non x
  | .bool b => eqV (.bl b) x
  | .int i _ => eqV (.int i) x
  | .str z _ => eqV (.str z) x
  | _ => false
def inV (x : V) (xs : List V) : Bool := xs.any fun y => eqV y x
def rIn (K : PySem.W.Frag) (neg : Bool) : R2 := fun x y H Q => ∃ p xs, y = .ref p ∧ (SqL K H p xs ∨ SqT K H p xs) ∧ flatV x = true ∧ xs.all flatV = true ∧ Q (.bl (if neg then !inV x xs else inV x xs)) H
theorem call_len_seq : CallR X (.builtin "len") (fun xs H Q => ∃ p ys, xs = [.ref p] ∧ (SqL X.K H p ys ∨ SqT X.K H p ys) ∧ Q (.int ys.length) H) := by
  intro pins s σ H xs us Q I r h
  obtain ⟨p, ys, rfl, hq, q⟩ := h
  obtain ⟨u, rfl, rx⟩ := vals1 r
  cases rx
  have hn := line63
  rcases hq with hq | hq
  · obtain ⟨its, r', pl, hz⟩ := I.list hq
    have hlen := r'.length
    exact Calls.call_len_list pl.isList (by simp only [List.size_toArray] <;> omega) ⟨.int ys.length, H, I.tok _, ⟨s.toks + 1, by rw [List.size_toArray, hlen]⟩, q⟩
  · obtain ⟨its, r', pl, hz⟩ := I.tuple hq
    have hlen := r'.length
    exact len_tuple pl (by simp only [List.size_toArray] <;> omega) ⟨.int ys.length, H, I.tok _, ⟨s.toks + 1, by rw [List.size_toArray, hlen]⟩, q⟩
theorem call_list_of : CallR X (.type "list") (fun xs H Q => ∃ p ys, xs = [.ref p] ∧ (SqL X.K H p ys ∨ SqT X.K H p ys) ∧ ∀ l, H l = none → Q (.ref l) (upd H l (.lst ys))) := by
  intro pins s σ H xs us Q I r h
  obtain ⟨p, ys, rfl, hq, q⟩ := h
  obtain ⟨u, rfl, rx⟩ := vals1 r
  cases rx
  have fin : ∀ (its : List Value), Vals ys its → ys.length ≤ sizeLine → ∀ (h' : Heap) (c' : Nat), (∀ b o', s.heap.get? b = some o' → h'.get? b = some o') →
      h'.get? s.heap.objs.size = some { cls := .type "list", dict := none, data := .seq its.toArray c', slots := #[] } → EP X pins σ Q (.ref s.heap.objs.size) { s with heap := h' } := fun its r' hz h' c' kp e =>
    ⟨.ref s.heap.objs.size, _, I.laid (t' := s.toks) kp (Nat.le_refl _) (show ObjOk X.prog X.w _ h' _ (.lst ys) from ⟨hz, its, c', r', e⟩), rfl, q _ (I.hok.fresh (Nat.le_refl _))⟩
  rcases hq with hq | hq
  · obtain ⟨its, r', pl, hz⟩ := I.list hq
    have hlen := r'.length
    obtain ⟨o, ho, hc, n, hd⟩ := pl.isList
    exact call_list_seq p (.inl rfl) ho hc hd (fun h' c' kp e => fin its r' hz h' c' kp e) (by simp only [List.size_toArray] <;> omega)
  · obtain ⟨its, r', pl, hz⟩ := I.tuple hq
    have hlen := r'.length
    obtain ⟨o, ho, hc, n, hd⟩ := pl
    exact call_list_seq p (.inr rfl) ho hc hd (fun h' c' kp e => fin its r' hz h' c' kp e) (by simp only [List.size_toArray] <;> omega)
theorem call_tuple_of : CallR X (.type "tuple") (fun xs H Q => ∃ p ys, xs = [.ref p] ∧ ((SqL X.K H p ys ∧ ∀ l, H l = none → Q (.ref l) (upd H l (.tup ys))) ∨ (SqT X.K H p ys ∧ Q (.ref p) H))) := by
  intro pins s σ H xs us Q I r h
  obtain ⟨p, ys, rfl, h⟩ := h
  obtain ⟨u, rfl, rx⟩ := vals1 r
  cases rx
  rcases h with ⟨hq, q⟩ | ⟨hq, q⟩
  · obtain ⟨its, r', pl, hz⟩ := I.list hq
    have hlen := r'.length
    refine call_tuple_list pl.isList (fun h' kp => ?_) (by simp only [List.size_toArray] <;> omega)
    have I1 : Inv X pins σ H { s with heap := h' } := I.kept (t' := s.toks) kp
    have I2 : Inv X pins σ (upd H h'.objs.size (.tup ys)) { s with heap := h'.push { cls := .type "tuple", data := .seq its.toArray } } :=
      I1.laid (t' := s.toks) (fun b o e => Heap.get?_push_of_some _ e) (Nat.le_refl _) (show ObjOk X.prog X.w _ _ _ (.tup ys) from ⟨hz, its, r', IsTup.new _ _⟩)
    exact ⟨.ref h'.objs.size, _, I2, rfl, q _ (I1.hok.fresh (Nat.le_refl _))⟩
  · obtain ⟨its, r', pl, hz⟩ := I.tuple hq
    exact call_tuple_same pl ⟨.ref p, H, I, rfl, q⟩

def tyV (K : PySem.W.Frag) (T : String) (x : V) (H : Hp) : Prop := match x with
  | .str _ => T = "str"
  | .int _ => T = "int"
  | .ref p => (T = "list" ∧ ∃ xs, SqL K H p xs) ∨ (T = "tuple" ∧ ∃ o, K.lookup p = some o ∧ o.cls = .type "tuple" ∧ o.dict = none) ∨
      (T = "dict" ∧ ((∃ kvs, H p = some (.dK kvs)) ∨ ∃ kvs, H p = some (.dT kvs))) ∨ (T = "set" ∧ ∃ S n, H p = some (.set S n))
  | _ => False
theorem tyV_is {pins : List (Addr × Obj)} {σ : St} {H : Hp} {s : Shared} {T : String} {x : V} {v : Value} (I : Inv X pins σ H s) (r : RelV x v) (ty : tyV X.K T x H) :
    s.TypeIs v T ∧ ∀ a, v = .ref a → ∃ ob, s.heap.get? a = some ob ∧ ob.dict = none := by
  cases x with
  | str z =>
    obtain ⟨t, rfl⟩ := r
    cases (show T = "str" from ty)
    exact ⟨typeIs_str s z t, fun _ e => nomatch e⟩
  | int i =>
    obtain ⟨t, rfl⟩ := r
    cases (show T = "int" from ty)
    exact ⟨typeIs_int s i t, fun _ e => nomatch e⟩
  | ref p =>
    cases r
    rcases ty with ⟨rfl, xs, hq⟩ | ⟨rfl, o, hk, hc, hd⟩ | ⟨rfl, hk⟩ | ⟨rfl, S, n, hk⟩
    · obtain ⟨its, _, pl, _⟩ := I.list hq
      refine ⟨pl.isList.typeIs, fun a e => ?_⟩
      cases e
      obtain ⟨o, n, e, c, hd, _⟩ := pl
      exact ⟨o, e, hd⟩
    · refine ⟨⟨o, I.kIn p o hk, hc⟩, fun a e => ?_⟩
      cases e
      exact ⟨o, I.kIn _ o hk, hd⟩
    · have z : ∃ o, s.heap.get? p = some o ∧ o.ExactDict := by
        rcases hk with ⟨kvs, hk⟩ | ⟨kvs, hk⟩
        · obtain ⟨_, _, _, _, o, _, _, e, ex, _⟩ := I.hok p _ hk
          exact ⟨o, e, ex⟩
        · obtain ⟨_, _, _, _, o, _, _, e, ex, _⟩ := I.hok p _ hk
          exact ⟨o, e, ex⟩
      obtain ⟨o, e, ex⟩ := z
      refine ⟨⟨o, e, ex.1⟩, fun a e2 => ?_⟩
      cases e2
      exact ⟨o, e, ex.2.1⟩
    · obtain ⟨o, _, _, _, e, ex, _⟩ := I.hok p _ hk
      refine ⟨⟨o, e, ex.1⟩, fun a e2 => ?_⟩
      cases e2
      exact ⟨o, e, ex.2.1⟩
  | _ => exact False.elim ty
def tBM0 (K : PySem.W.Frag) (T : String) (r : V → List V → Hp → VK → Prop) (to : TE) : TE := fun σ H Q => to σ H fun x H1 => tyV K T x H1 ∧ r x [] H1 Q
def tBM (K : PySem.W.Frag) (T : String) (r : V → List V → Hp → VK → Prop) (to : TE) (t : TA) : TE := fun σ H Q => to σ H fun x H1 => tyV K T x H1 ∧ t σ H1 fun xs H2 => r x xs H2 Q
variable {o e : Expr} {es : List Expr} {to : TE} {t : TA} {name : Str} {apos cpos : Pos} {T id : String} {r : V → List V → Hp → VK → Prop}
theorem pe_bm (pa : PlainAttrs T) (slot : Slot T name id) (hty : typeOf (.builtin id) = pure (.type "method_descriptor")) (hm : MtR X id r) (ho : PE X o to) (ha : PA X (e :: es) t)
    (hbase : attributeBase o name X.env (eval o X.env) = eval o X.env := by rfl)
    (hfew : ((backTo cpos (starEach (e :: es) X.env)).all (fun x => !x.1) && (backToKw cpos (keywordEach [] X.env)).all (fun x => x.1.isSome)
      && decide ((e :: es).length + ([] : List Keyword).length + (if ([] : List Keyword).isEmpty then 0 else 1) < 30)) = true := by rfl)
    (hline : (apos.endLine == cpos.line) = true := by rfl) (hs : starEach (e :: es) X.env = (false, eval e X.env) :: starEach es X.env := by rfl) (hplain : (backTo cpos (starEach es X.env)).any (·.1) = false := by rfl) :
    PE X (.Call (.Attribute o name apos) (e :: es) [] cpos) (tBM X.K T r to t) := by
  intro pins s σ H Q I h
  refine wpAny_Call_method_late hbase hfew hline rfl (thn (ho pins s σ H _ I h) fun v s1 ⟨x, H1, I1, r1, ty, q1⟩ => ?_)
  obtain ⟨h1, h2⟩ := tyV_is I1 r1 ty
  refine ⟨T, id, pa, slot, hty, h1, h2, ?_⟩
  have hA := ha cpos pins s1 σ H1 _ I1 q1
  rw [hs] at hA ⊢
  refine Calls.callWith_builtin (by show (false || (backTo cpos (starEach es X.env)).any (·.1)) = false; rw [hplain] <;> rfl) (Calls.evalArgs_plain ?_)
  exact thn hA fun us s2 ⟨vs, H2, I2, r2, q2⟩ => hm pins s2 σ H2 x vs v us Q I2 r1 r2 q2
/- xs.append(e), list.index on a module's tuple .. are MtR facts of 06m -/
end
end L2

namespace L2
open PySem PySem.Spec PyProof.Rows

def MtM (X : Cx) (id : String) (r : V → List V → Hp → VK → Prop) : Prop :=
  ∀ (pins : List (Addr × Obj)) (s : Shared) (σ : St) (H : Hp) (x : V) (xs : List V) (v : Value) (us : List Value) (Q : VK), Inv X pins σ H s → RelV x v → Vals xs us → r x xs H Q →
    wpAny (model X.prog X.w) X.A (call (.builtin id) (v :: us)) (EP X pins σ Q) X.xe s

theorem Vals.one : ∀ {x : V} {us : List Value}, Vals [x] us → ∃ u, us = [u] ∧ RelV x u
  | _, _, .cons r .nil => ⟨_, rfl, r⟩
theorem Vals.two : ∀ {x y : V} {us : List Value}, Vals [x, y] us → ∃ u v, us = [u, v] ∧ RelV x u ∧ RelV y v
  | _, _, _, .cons r (.cons q .nil) => ⟨_, _, rfl, r, q⟩
section
variable {X : Cx} {pins : List (Addr × Obj)} {σ : St} {H : Hp} {s : Shared} {l b : Addr} {xs ys zs : List V}

theorem Inv.lset {its its' : List Value} {n : Nat} {f : Array Value → Array Value} {t' : Nat} (I : Inv X pins σ H s) (hH : H l = some (.lst xs))
    (e : s.heap.get? l = some { cls := .type "list", data := .seq its.toArray n }) (hf : f its.toArray = its'.toArray) (hv : Vals ys its') (hz : ys.length ≤ sizeLine) :
    Inv X pins σ (upd H l (.lst ys)) { s with heap := s.heap.update l (Obj.mapSeq f), toks := t' } := by
  have q := PySem.IsL.update e f
  rw [hf] at q
  refine I.write (x := l) (e := l) (by rw [hH]; exact trivial) (.inl rfl) (fun b' u hb hu => (Heap.get?_update_other s.heap (Obj.mapSeq f) (Ne.symm hb)).trans hu) ⟨_, q⟩ ?_
  exact ⟨hz, its', _, hv, q⟩
theorem Inv.lstM (I : Inv X pins σ H s) (hH : H l = some (.lst xs)) : xs.length ≤ sizeLine ∧ ∃ (its : List Value) (n : Nat), Vals xs its ∧ xs.length = its.length ∧ s.heap.get? l = some { cls := .type "list", data := .seq its.toArray n } := by
  obtain ⟨z, its, n, r, e⟩ := I.hok l _ hH
  exact ⟨z, its, n, r, r.length, e⟩

theorem notLongL {n : Nat} (h : n ≤ sizeLine) : Builtin.List.listTooLong n = false := by
  unfold Builtin.List.listTooLong
  exact decide_eq_false (by omega)
end

section
variable {X : Cx}

def rAppend : V → List V → Hp → VK → Prop := fun x vs H Q => ∃ l xs y, x = .ref l ∧ vs = [y] ∧ H l = some (.lst xs) ∧ xs.length < sizeLine ∧ Q .non (upd H l (.lst (xs ++ [y])))
theorem mt_append : MtM X "list.append" rAppend := by
  intro pins s σ H x vs v us Q I rx rv h
  obtain ⟨l, xs, y, rfl, rfl, hH, hz, q⟩ := h
  cases rx
  obtain ⟨u, rfl, ru⟩ := rv.one
  obtain ⟨z, its, n, r, hl, e⟩ := I.lstM hH
  refine call_meets F.slot_list_append ⟨_, e, rfl⟩ F.entry_list_append (F.args_list_append_2 _ _) (PySem.list_append l its.toArray n u (by rw [List.size_toArray]; omega)) ⟨e, ?_⟩
  refine ⟨.non, _, I.lset (its' := its ++ [u]) hH e (by simp) (r.append (.cons ru .nil)) ?_, rfl, q⟩
  rw [List.length_append, List.length_singleton]
  omega

def rExtend : V → List V → Hp → VK → Prop := fun x vs H Q => ∃ l b xs zs, x = .ref l ∧ vs = [.ref b] ∧ H l = some (.lst xs) ∧ H b = some (.lst zs) ∧ xs.length + zs.length ≤ sizeLine ∧ Q .non (upd H l (.lst (xs ++ zs)))
theorem mt_extend : MtM X "list.extend" rExtend := by
  intro pins s σ H x vs v us Q I rx rv h
  obtain ⟨l, b, xs, zs, rfl, rfl, hH, hB, hz, q⟩ := h
  cases rx
  obtain ⟨u, rfl, ru⟩ := rv.one
  cases ru
  obtain ⟨z, its, n, r, hl, e⟩ := I.lstM hH
  obtain ⟨z2, its2, n2, r2, hl2, e2⟩ := I.lstM hB
  have hsz : its.toArray.size + its2.toArray.size ≤ sizeLine := by rw [List.size_toArray, List.size_toArray]; omega
  have hlong : ¬ (!its.toArray.isEmpty && Builtin.List.listTooLong (its.toArray.size + its2.toArray.size)) = true := by
    rw [notLongL hsz, Bool.and_false]
    exact Bool.false_ne_true
  refine call_meets F.slot_list_extend ⟨_, e, rfl⟩ F.entry_list_extend (F.args_list_extend_2 _ _)
    (AutoSeq1.list_extend_list_list_0 l its.toArray n b its2.toArray n2 hlong (by rw [List.size_toArray]; omega) (by omega)) ⟨e, e2, ?_⟩
  refine ⟨.non, _, I.lset (its' := its ++ its2) hH e (by simp) (r.append r2) ?_, rfl, q⟩
  rw [List.length_append]
  omega

def rPop : V → List V → Hp → VK → Prop := fun x vs H Q => ∃ l xs y, x = .ref l ∧ vs = [] ∧ H l = some (.lst xs) ∧ xs[xs.length - 1]? = some y ∧ Q y (upd H l (.lst xs.dropLast))
def rPopAt : V → List V → Hp → VK → Prop := fun x vs H Q => ∃ l xs i k y, x = .ref l ∧ vs = [.int i] ∧ H l = some (.lst xs) ∧ -(2 ^ 63) ≤ i ∧ i < 2 ^ 63 ∧ seqIndex? i xs.length = some k ∧ xs[k]? = some y ∧ Q y (upd H l (.lst (xs.eraseIdx k)))
def rReverse : V → List V → Hp → VK → Prop := fun x vs H Q => ∃ l xs, x = .ref l ∧ vs = [] ∧ H l = some (.lst xs) ∧ Q .non (upd H l (.lst xs.reverse))
def rClear : V → List V → Hp → VK → Prop := fun x vs H Q => ∃ l xs, x = .ref l ∧ vs = [] ∧ H l = some (.lst xs) ∧ Q .non (upd H l (.lst []))
def rCat : R2 := fun x y H Q => ∃ l b xs zs, x = .ref l ∧ y = .ref b ∧ H l = some (.lst xs) ∧ H b = some (.lst zs) ∧ xs.length + zs.length ≤ sizeLine ∧ ∀ p, H p = none → Q (.ref p) (upd H p (.lst (xs ++ zs)))
def rRep : R2 := fun x y H Q => ∃ l k xs, x = .ref l ∧ y = .int k ∧ H l = some (.lst xs) ∧ -(2 ^ 63) ≤ k ∧ k < 2 ^ 63 ∧ xs.length * k.toNat ≤ sizeLine ∧
  ∀ p, H p = none → Q (.ref p) (upd H p (.lst (List.replicate k.toNat xs).flatten))
end

section
variable {prog : Program} {w : World} {A : Around} {E : Value → Shared → Prop} {s : Shared}
end

section
variable {X : Cx}
end
end L2

namespace Att
open PySem PySem.W PySem.Calls PyProof.Rows

theorem ints_of_wellAll {P : Params} {h : Heap} : ∀ (ns : List Int) (vs : List Value), WellAll P h vs (ns.map WData.int) → IntsAre vs ns := by
  intro ns
  induction ns with
  | nil =>
    intro vs w
    rw [List.map_nil] at w
    cases w
    exact .nil
  | cons n ns ih =>
    intro vs w
    rw [List.map_cons] at w
    cases w with
    | cons a b =>
      cases a
      exact .cons _ _ (ih _ b)

theorem script_of {l : OpenLaw} {n : Nat} (hn : l.most = some n) {P : Params} {h : Heap} {args : List WData} {vals : List Value}
    (hpre : l.row.toRowW.claim.pre args = true) (hwl : WellAll P h vals args) :
    ∃ a vs ns, vals = [Value.ref a] ∧ args = [WData.list (ns.map WData.int)] ∧ h.get? a = some { cls := .type "list", data := .seq vs.toArray } ∧ IntsAre vs ns ∧ ns.length ≤ n := by
  have hsh : WShape.hasAll [] args [.list .int] = true := (pre_splitW hpre).1
  have hc : l.pre.holds [] { args := args } = true := (pre_splitW hpre).2
  obtain ⟨d, r, rfl, h1, h2⟩ := hasAllW_cons hsh
  obtain rfl := hasAllW_nil h2
  obtain ⟨xs, rfl, h3⟩ := hasW_list h1
  obtain ⟨ns, rfl⟩ := items_int h3
  have hlen : ns.length ≤ n := by
    unfold OpenLaw.pre at hc
    have h4 : (WTm.not (.lt (.lit (.int (n : Int))) (.len (.arg 0)))).holds [] { args := [.list (ns.map .int)] } = true := by
      have h4 := (holds_andW hc).1
      rw [hn] at h4
      exact h4
    have h5 := condW_of h4 (w_not (w_lt w_lit (w_len_list (w_arg rfl))))
    rw [List.length_map] at h5
    refine Nat.le_of_not_lt fun q => ?_
    have q' : (n : Int) < ((ns.length : Nat) : Int) := by omega
    first
      | (rw [decide_eq_true q'] at h5; exact absurd h5 (by decide))
      | (simp at h5; omega)
  cases hwl with
  | cons w1 w2 =>
    cases w2
    cases w1 with
    | list ho hall => exact ⟨_, _, ns, rfl, rfl, ho, ints_of_wellAll ns _ hall, hlen⟩

theorem post_true (l : OpenLaw) (args : List WData) : l.row.toRowW.claim.post args (.bool true) args = true :=
  postW_of (r := l.row.toRowW) (X := (true == true))
    (show WShape.has [] (.bool true) .bool = true by first | rfl | decide | simp [WShape.has, WShape.arms, WShape.armsAll])
    (show (WTm.eq .res (.lit (.bool true))).value [] { args := args, res := some (.bool true), after := args } = some (.bool (true == true)) from w_eq_bool (w_res rfl) w_lit) rfl

section
variable {prog : Program} {w : World} {A : Around} {E : Value → Shared → Prop} {s : Shared} {K : Frag}

def noObjs (h : Heap) : Heap := { h with objs := #[] }
def ledger (h : Heap) (L d : Addr) : List (Addr × Obj) := (List.range h.objs.size).filterMap fun a => if a = L ∨ a = d then none else (h.get? a).map fun o => (a, o)
end
end Att

namespace L2
open PySem PySem.Spec PyProof.Rows

theorem vals_ints : ∀ {vs : List Value} {ns : List Int}, IntsAre vs ns → Vals (ns.map V.int) vs
  | _, _, .nil => .nil
  | _, _, .cons n t h => .cons ⟨t, rfl⟩ (vals_ints h)

def Only (H : Hp) : Prop := ∀ b, H b = none ∨ ∃ o xs, H b = some (.frz o (.lst xs))

theorem law_call {P : Program} {w : World} {K : PySem.W.Frag} {mg mb : Str → Option Value} {CX : CXT} {k : Nat} {fa a : Addr} {fd : FuncData} {x : Str} {sp : Sp} {s₁ : Shared} {vs : List Value} {ns : List Int}
    (KX : K.In s₁.heap) (hns : s₁.heap.Ns mainGlobals mg) (hb : s₁.heap.Ns builtinsNs mb) (hbb : ∀ x : Str, x ≠ "__name__" → mb x = bootBuiltins x) (hlim : s₁.heap.NoLimit) (hg : s₁.gens = #[])
    (ha : s₁.heap.get? a = some { cls := .type "list", data := .seq vs.toArray }) (hi : IntsAre vs ns) (hl : ns.length ≤ sizeLine) (hr : Room k callerA)
    (F : ∀ base : Heap, K.In base → base.Ns mainGlobals mg → FnOk P w K mg base CX k fa fd [x] sp) (hbind : ∀ (s : Shared) (u : Value), BindsTo s fd ⟨[u], []⟩ [(x, u)])
    (hsp : ∀ H : Hp, Only H → SqL K H a (ns.map V.int) → sp [.ref a] H (fun v _ => v = .bl true) fun _ _ _ => False)
    (hCX : ∀ H e s', CX [] H s₁ (fun _ _ _ => False) e s' → False) :
    codeAny (model P w) callerA (.call (.ref fa) ⟨[.ref a], []⟩) (fun r s' => r = .ok (.ret (.bool true)) ∧ OldK s₁.heap s'.heap ∧ s'.os = s₁.os ∧ AllBare s'.gens) s₁ := by
  have rv := vals_ints hi
  have lenV := hi.length
  -- from an abstract heap in which nothing but the script may be tracked
  have core : ∀ H : Hp, Only H → SqL K H a (ns.map V.int) → HOk P w H s₁.heap → (∀ b, H b ≠ none → b = a) → (H a ≠ none → K.lookup a = none) →
      codeAny (model P w) callerA (.call (.ref fa) ⟨[.ref a], []⟩) (fun r s' => r = .ok (.ret (.bool true)) ∧ OldK s₁.heap s'.heap ∧ s'.os = s₁.os ∧ AllBare s'.gens) s₁ := by
    intro H hO hS hok hA hK
    have base_of : ∀ {b : Addr} {o : Obj}, s₁.heap.get? b = some o → H b = none → (hidT s₁.heap H).get? b = some o := fun e n => hidT_get e n
    have noA : ∀ {b : Addr} {o : Obj} {es : Array DictEntry} {ep : Nat}, s₁.heap.get? b = some o → o.data = .dict es ep → H b = none := fun {b o es ep} e d => by
      cases q : H b with
      | none => rfl
      | some u =>
        have e' : b = a := hA b (by rw [q]; simp)
        subst e'
        rw [ha] at e; cases e
        have d' : Data.seq vs.toArray _ = Data.dict es ep := d
        cases d'
    have nsK : ∀ {b : Addr} {m : Str → Option Value}, s₁.heap.Ns b m → (hidT s₁.heap H).Ns b m := fun {b m} ⟨o, es, ep, e, d, r⟩ => ⟨o, es, ep, base_of e (noA e d), d, r⟩
    have hKb : K.In (hidT s₁.heap H) := fun b o e => base_of (KX b o e) (by
      cases q : H b with
      | none => rfl
      | some u =>
        have e' : b = a := hA b (by rw [q]; simp)
        subst e'
        rw [hK (by rw [q]; simp)] at e; cases e)
    have hM : Mod K mg (hidT s₁.heap H) := ⟨hKb, nsK hns, ⟨mb, nsK hb, hbb⟩, let ⟨mc, h1, h2⟩ := hlim; ⟨mc, nsK h1, h2⟩⟩
    have e0 : Env0 P w K mg (hidT s₁.heap H) callerA [] s₁ H := ⟨rfl, hM, fun b o e => of_hidT e, Nat.le_of_eq (hidT_size _ _), trivial, fun b hb => absurd (show b ∈ ([] : List Addr) from hb) (by simp), hok, .of_eq hg⟩
    refine codeAny_mono ((F _ hKb (nsK hns)).run callerA [] s₁ H ⟨[.ref a], []⟩ [.ref a] [.ref a] _ _ hr e0 (hbind s₁ (.ref a)) (.cons rfl .nil) (hsp H hO hS)) fun r s' h => ?_
    cases r with
    | error e => exact (hCX H e s' h).elim
    | ok fl =>
      cases fl with
      | next => exact False.elim h
      | brk => exact False.elim h
      | cont => exact False.elim h
      | ret u =>
        obtain ⟨v, H', os, bare, un, hok', r', q⟩ := h
        have q' : v = .bl true := q
        subst q'
        obtain rfl : u = Value.bool true := r'
        refine ⟨rfl, OldK.of_keep fun b o e => ?_, os, bare⟩
        cases q : H b with
        | none => exact un.keep b o e q (by intro z; exact absurd (show b ∈ ([] : List Addr) from z) (by simp)) (by simp)
        | some u =>
          rcases hO b with z | ⟨ob, xs, z⟩
          · rw [q] at z; cases z
          · have z2 := un.frzs b ob _ z
            obtain ⟨e1, _⟩ := hok b _ z
            obtain ⟨e2, _⟩ := hok' b _ z2
            rw [e] at e1; cases e1
            exact e2
  cases hk : K.lookup a with
  | some o =>
    -- the script is one of the module's own objects
    have e := KX a o hk
    rw [ha] at e
    cases e
    refine core (fun _ => none) (fun _ => .inl rfl) (.inr ⟨_, vs.toArray, _, hk, rfl, rfl, rfl, by rw [List.size_toArray, lenV]; exact hl, by simpa using rv⟩) (fun b u z => by have z' : (none : Option HO) = some u := z; cases z') (fun b z => absurd rfl z) fun z => absurd rfl z
  | none =>
    refine core (fun b => if b = a then some (.frz { cls := .type "list", data := .seq vs.toArray } (.lst (ns.map V.int))) else none) (fun b => ?_) (.inl (.inr ⟨{ cls := .type "list", data := .seq vs.toArray }, if_pos rfl⟩)) (fun b u z => ?_) (fun b z => ?_) fun _ => hk
    · by_cases hb : b = a
      · exact .inr ⟨_, _, if_pos hb⟩
      · exact .inl (if_neg hb)
    · by_cases hb : b = a
      · have z' := (if_pos hb).symm.trans z
        cases z'
        subst hb
        exact ⟨ha, by rw [List.length_map]; exact hl, vs, _, rv, ha⟩
      · have z' := (if_neg hb).symm.trans z
        cases z'
    · by_cases hb : b = a
      · exact hb
      · exact absurd (if_neg hb) z
end L2

namespace L2
open PySem PySem.Spec PyProof.Rows

abbrev KOf {K : PySem.W.Frag} {h : Heap} (_ : K.In h) : PySem.W.Frag := K

end L2

namespace L2
open PySem PySem.Spec PyProof.Rows

def inClass (s : Stmt) (j : Nat) : Stmt := match s with
  | .ClassDef _ _ _ body _ _ _ _ _ _ _ => body.getD j (.Pass ⟨0, 0, 0, 0⟩)
  | _ => .Pass ⟨0, 0, 0, 0⟩
def defArgs (s : Stmt) : Arguments := match s with
  | .FunctionDef _ a _ _ _ _ _ _ _ _ => a
  | _ => { posonlyargs := [], args := [], vararg := none, kwonlyargs := [], kw_defaults := [], kwarg := none, defaults := [] }
def defBody (s : Stmt) : List Stmt := match s with
  | .FunctionDef _ _ b _ _ _ _ _ _ _ => b
  | _ => []
def defScope (s : Stmt) : Scope := match s with
  | .FunctionDef _ _ _ _ _ _ sc _ _ _ => sc
  | _ => { kind := .function, names := [], isGenerator := false, isCoroutine := false }

abbrev CX0 : CXT := fun _ _ _ _ _ _ => False
abbrev E0 : XK := fun _ _ _ => False
theorem pass0 {X : Cx} : Passes CX0 X E0 := fun _ _ _ _ _ _ _ h => h.elim

structure Fun (K : PySem.W.Frag) (x qual : Str) (st : Stmt) (f : Addr) (fd : FuncData) : Prop where
  ex : ∃ (oc : Value) (od : Option Addr) (kV doc pm : Value) (an : Option Addr) (cdv ct : Value) (osl : Array (Option Value)),
    fd = PySem.W.fnOf x qual (defArgs st) (defBody st) (defScope st) .none kV doc pm an cdv ct ∧ K.lookup f = some ⟨oc, od, .func fd, osl⟩ ∧ PySem.W.codeIn K cdv qual = true
  kp : PySem.W.keepIn K (.ref f) = true
section
variable {P : Program} {w : World} {K : PySem.W.Frag} {mg : Str → Option Value} {base : Heap}
theorem Fun.ok {x qual : Str} {st : Stmt} {f : Addr} {fd : FuncData} {N ps : List Str} {k : Nat} {sp : Sp} (F : Fun K x qual st f fd) (S : FnScope N ps (defScope st)) (len : ∀ vs H Q E, sp vs H Q E → vs.length = ps.length)
    (hbody : ∀ (cdv : Value) (A : Around) (outer : List Env) (s : Shared) (H : Hp) (vs : List V) (Q : VK) (E : XK), Room k (A.deeper (envOfC qual (defScope st) s.heap.objs.size f cdv)) → sp vs H Q E →
      ∃ t, PSs (cxOf CX0 P w K mg base N qual (defScope st) f cdv A outer s H E).nox (defBody st) t ∧ t { nx := fun _ H' => Q .non H', rt := Q } (start N vs) H) : FnOk P w K mg base CX0 (k + 1) f fd ps sp := by
  obtain ⟨oc, od, kV, doc, pm, an, cdv, ct, osl, rfl, lk, hcd⟩ := F.ex
  refine fn_of lk hcd S len fun A outer s H vs Q E hr hsp => ?_
  obtain ⟨t, h, q⟩ := hbody cdv A outer s H vs Q E hr hsp
  exact ⟨t, h.nox, q⟩
theorem Fun.binds {x qual : Str} {st : Stmt} {f : Addr} {fd : FuncData} {ps : List Str} (F : Fun K x qual st f fd)
    (h : ∀ (kV doc pm : Value) (an : Option Addr) (cdv ct : Value) (us : List Value), us.length = ps.length → bindArgs (PySem.W.fnOf x qual (defArgs st) (defBody st) (defScope st) .none kV doc pm an cdv ct) ⟨us, []⟩ = pure (ps.zip us)) : Binds K fd ps [] := by
  obtain ⟨oc, od, kV, doc, pm, an, cdv, ct, osl, rfl, lk, hcd⟩ := F.ex
  exact .all (h kV doc pm an cdv ct)
theorem fun_mk {x qual : Str} {st : Stmt} {f : Addr} {oc : Value} {od an : Option Addr} {osl : Array (Option Value)} {kV doc pm cdv ct : Value} (l : K.lookup f = some ⟨oc, od, .func (PySem.W.fnOf x qual (defArgs st) (defBody st) (defScope st) .none kV doc pm an cdv ct), osl⟩)
    (c : PySem.W.codeIn K cdv qual = true) (k : PySem.W.keepIn K (.ref f) = true) : Fun K x qual st f (PySem.W.fnOf x qual (defArgs st) (defBody st) (defScope st) .none kV doc pm an cdv ct) := ⟨⟨oc, od, kV, doc, pm, an, cdv, ct, osl, rfl, l, c⟩, k⟩
end
section
variable {X : Cx}
theorem pv (i : Nat) {x : Str} {pos : Pos} (hN : X.N[i]? = some x := by rfl) (hv : Vis X.env.scope x := by first | exact Or.inl rfl | exact Or.inr (Or.inl rfl) | exact Or.inr (Or.inr rfl)) (hd : (x == ("__debug__" : Str)) = false := by decide)
    (hcd : (x == ("__classdict__" : Str)) = false := by decide) : PE X (.Name x pos) (tVar i) := pe_var hN hv hd hcd
end

theorem iteF {A B : Prop} (h : B) : if false = true then A else B := by
  rw [if_neg Bool.false_ne_true]
  exact h
theorem iteT {A B : Prop} (h : A) : if true = true then A else B := by
  rw [if_pos rfl]
  exact h
theorem ite2 {c A B : Prop} [Decidable c] (h1 : c → A) (h2 : ¬ c → B) : if c then A else B := by
  by_cases h : c
  · rw [if_pos h]
    exact h1 h
  · rw [if_neg h]
    exact h2 h
theorem iteNS {c A B : Prop} [Decidable c] (hc : c) (h : B) : if (!decide c) = true then A else B := by
  rw [decide_eq_true hc]
  exact iteF h

def Same (H H' : Hp) : Prop := ∀ b o, H b = some o → H' b = some o
theorem Same.refl (H : Hp) : Same H H := fun _ _ h => h
theorem Same.trans {H H1 H2 : Hp} (a : Same H H1) (b : Same H1 H2) : Same H H2 := fun c o h => b c o (a c o h)
theorem Same.free {H H' : Hp} (e : Same H H') {l : Addr} (h : H' l = Option.none) : H l = Option.none := by
  cases q : H l with
  | none => rfl
  | some o =>
    rw [e l o q] at h
    cases h
theorem Same.seq {K : PySem.W.Frag} {H H' : Hp} {a : Addr} {xs : List V} (e : Same H H') (h : SqL K H a xs) : SqL K H' a xs := by
  rcases h with (h | ⟨o, h⟩) | h
  · exact .inl (.inl (e _ _ h))
  · exact .inl (.inr ⟨o, e _ _ h⟩)
  · exact .inr h

end L2

namespace L2
open PySem PySem.Spec PyProof.Rows

section
variable {X : Cx}
theorem op_mulG : OpR X (binaryOp .Mult) (rI IntMulOk fun i j => .int (i * j)) := opI fun _ _ _ _ _ _ _ hc q => mul_int q hc
def CDivL (_ j : Int) : Prop := j ≠ 0 ∧ j.natAbs.log2 < 9000
theorem op_fdivL : OpR X (binaryOp .FloorDiv) (rI CDivL fun i j => .int (i.fdiv j)) :=
  opI fun _ _ _ _ _ _ _ hc q => floordiv_int hc.1 q (.inl (PyProof.noPylong_of_log2 hc.2))
end

section
variable {P : Program} {w : World} {H H1 H2 : Hp} {h h1 h2 : Heap} {a : Addr} {o : HO}
theorem HOk.onward (x : HOk P w H h1) (k : ∀ b ob, H b ≠ none → h1.get? b = some ob → h2.get? b = some ob) : HOk P w H h2 := fun c u e =>
  (x c u e).stay (fun b v hb q => k b v (by rcases hb with rfl | hb
                                            · rw [e]; simp
                                            · rw [hb]; simp) q) (fun _ q => q) fun _ _ q => q
end

structure Fly (P : Program) (w : World) (outer : List Env) (H : Hp) (s : Shared) (cls a0 : Value) (ea : Addr) (B : Heap) (H' : Hp) (s' : Shared) : Prop where
  os : s'.os = s.os
  bare : AllBare s'.gens
  un : Un (frs outer) [] H H' s.heap s'.heap
  hok : HOk P w H' s'.heap
  fly : Heap.FlyingW B outer ea cls a0 s'.heap
  frf : ∀ b ∈ frs outer, H' b = none
  cov : ∀ b o, s'.heap.get? b = some o → b ∉ frs outer → (H' b ≠ none ∨ ∃ o', s.heap.get? b = some o') → B.get? b = some o
def XF (P : Program) (w : World) : CXT := fun outer H s E e s' => ∃ (ea : Addr) (cls a0 : Value) (B : Heap) (H' : Hp), e = .ref ea ∧ Fly P w outer H s cls a0 ea B H' s' ∧ E cls none H'

section
variable {P : Program} {w : World} {K : PySem.W.Frag} {mg : Str → Option Value} {base : Heap} {N : List Str} {qual : Str} {scope : Scope} {f : Addr} {cd : Value} {A : Around} {outer : List Env} {s0 s1 : Shared} {H0 H1 : Hp} {E : XK}
  {pins : List (Addr × Obj)} {σ : St}
end
end L2

namespace L2
open PySem PySem.Spec PyProof.Rows PySem.W PySem.Calls Builtin Builtin.ObjectAttr Builtin.Getset_descriptor

def ExcAt (C e : Addr) (h : Heap) : Prop := ∃ o, h.get? e = some o ∧ o.cls = .ref C ∧ notCls o = true
theorem ExcAt.type {C e : Addr} {h : Heap} {M : Model} (x : ExcAt C e h) : Looks M h (typeOf (.ref e)) (.ref C) := by
  obtain ⟨o, a, b, _⟩ := x
  exact b ▸ (Looks.ld a).andThen .now
structure ExcCls (K : Frag) (C : Addr) : Prop where
  cls : (clsIn K C).isSome = true
  ga : findIn K (.ref C) "__getattribute__" = some (some (.builtin "BaseException.__getattribute__"))
  gt : findIn K (.ref C) "__getattr__" = some none
  cl : findIn K (.ref C) "__class__" = some (some (.builtin "object.__class__"))
  get : specialIn K (.builtin "object.__class__") "__get__" = some (some (.builtin "getset_descriptor.__get__"))
  tk : takesIn K (.builtin "object.__class__") = some true
  ob : mroIn K C (.type "object") = some true
  be : mroIn K C (.type "BaseException") = some true
section
variable {prog : Program} {w : World} {A : Around} {E : Value → Shared → Prop} {s : Shared} {K : Frag} {e C : Addr}
theorem exc_find {M : Model} {h : Heap} (X : K.In h) (T : ExcCls K C) : Looks M h (Builtin.ObjectAttr.find (.ref e) (.ref C) "__class__") (.bind (.builtin "getset_descriptor.__get__") (.builtin "object.__class__")) := by
  have d : Looks M h (Builtin.ObjectAttr.dataDescriptor? (some (.builtin "object.__class__")) (some (.builtin "getset_descriptor.__get__"))) (some (.builtin "getset_descriptor.__get__", .builtin "object.__class__")) := (looks_takesIn X T.tk).andThen .now
  exact (looks_findIn X T.cl).andThen ((looks_specialIn X T.get).andThen (d.andThen (Looks.tag .now)))
theorem exc_class_get {R : Result → Shared → Prop} {tp : Value} (X : K.In s.heap) (I : ExcAt C e s.heap) (hm : mroIn K C (.type "object") = some true)
    (h : R (.ok (.ret (.ref C))) s) : codeAny (model prog w) A (.call (.builtin "getset_descriptor.__get__") ⟨[.builtin "object.__class__", .ref e, tp], []⟩) R s := by
  obtain ⟨hp, gs, dr, tk, os⟩ := s
  have l0 := I.type (M := model prog w)
  have l1 := looks_mroIn (M := model prog w) X hm
  refine codeAny_call_builtin KF.slot_gs.plain KF.entry_gs ?_
  refine KF.slot_gs.check _ _ _ _ _ _ _ _ KF.type_class (KF.args_gs _ _ _) ?_
  unfold Builtin.«getset_descriptor.__get__» descrGet
  rw [dga_obj]
  refine wpAny_bind (wpAny_pure ?_)
  unfold descrGetter descrCheckInstance descrNameAndClass isInstance
  simp only [KF.owner_class]
  repeat lk
  refine ⟨Code.quiet_builtin _ (by decide +kernel), codeAny_builtin KF.entry_class ?_⟩
  unfold Builtin.«object.__class__» shownTypeOf
  repeat lk
  exact h

theorem exc_entry {tk : Tok} {Q : PySem.Fin → Shared → Prop} (X : K.In s.heap) (T : ExcCls K C) (I : ExcAt C e s.heap) (h : Q (.done (.ret (.ref C))) s) :
    wpAny (model prog w) A (Builtin.«object.__getattribute__» ⟨[.ref e, .str "__class__" tk], []⟩) Q E s := by
  obtain ⟨hp, gs, dr, t, os⟩ := s
  have l0 := I.type (M := model prog w)
  have l1 := exc_find (e := e) (M := model prog w) X T
  unfold Builtin.«object.__getattribute__»
  repeat (first | with_reducible refine wpAny_call ?_ | lk)
  refine exc_class_get X I T.ob ?_
  repeat lk
  exact h
theorem exc_class {Q : Option Value → Shared → Prop} (X : K.In s.heap) (T : ExcCls K C) (I : ExcAt C e s.heap) (h : Q (some (.ref C)) { s with toks := s.toks + 1 }) : wpAny (model prog w) A (getAttr? (.ref e) "__class__") Q E s := by
  obtain ⟨hp, gs, dr, t, os⟩ := s
  have l0 := I.type (M := model prog w)
  have l1 := looks_findIn (M := model prog w) X T.ga
  have l2 := looks_findIn (M := model prog w) X T.gt
  have l3 := looks_mroIn (M := model prog w) X T.be
  unfold getAttr? getAttrBy? getAttrBy
  refine wpAny_bind (wpAny_mkText (wpAny_bind (wpAny_attempt (wpAny_holding (wpAny_bind (l0.at (wpAny_bind (l1.at ?_))))))))
  dsimp only
  have ne : (Value.builtin "BaseException.__getattribute__" == Value.builtin "object.__getattribute__") = false := by decide +kernel
  rw [if_neg (by rw [ne, Bool.and_false]; exact Bool.false_ne_true)]
  unfold getAttrByItsOwn hookBefore
  repeat (first | with_reducible refine wpAny_call ?_ | with_reducible refine wpAny_attempt ?_ | lk)
  have hk : builtinKind "BaseException.__getattribute__" = some .slot := by decide +kernel
  have hsplit : splitId "BaseException.__getattribute__" = some ("BaseException", "__getattribute__") := by decide +kernel
  refine codeAny_call_builtin (by decide +kernel) F.entry_bexc_ga ?_
  have ha := F.args_bexc_ga (.ref e) (.str (Str.ofString "__class__") t)
  show wpAny _ _ (checkBuiltinCall "BaseException.__getattribute__" ⟨[.ref e, .str (Str.ofString "__class__") t], []⟩) _ _ _
  simp only [checkBuiltinCall, hk, hsplit]
  unfold isInstance
  refine wpAny_bind (wpAny_bind (l0.at (l3.at ?_)))
  simp only [Bool.not_true, Bool.false_eq_true, if_false]
  refine wpAny_of_eq (show _ = pure () from ha) ?_
  refine wpAny_mono (exc_entry (E := fun _ _ => False) (Q := fun fin s' => fin = .done (.ret (.ref C)) ∧ s' = ⟨hp, gs, dr, t + 1, os⟩) X T I ⟨rfl, rfl⟩) (fun fin s' z => ?_) fun _ _ z => z.elim
  obtain ⟨rfl, rfl⟩ := z
  exact wpAny_pure (wpAny_pure h)
end
theorem kitx_exc {K : Frag} {e C : Addr} (T : ExcCls K C) : KitX K (.ref e) (.ref C) (ExcAt C e) where
  ty := fun _ _ _ I => I.type
  it := fun M h X _ => by
    obtain ⟨cd, hc⟩ := Option.isSome_iff_exists.mp T.cls
    unfold clsIn at hc
    split at hc
    · rename_i c' d' cd' sl' ho
      intro A' Q' E' s' k q
      unfold isType loadHead
      exact wpAny_bind (wpAny_loadPart (k _ _ (X _ _ ho)) (wpAny_pure q))
    · cases hc
  ne := fun h tp dd its n sl X htp => by
    obtain ⟨cd, hc⟩ := Option.isSome_iff_exists.mp T.cls
    refine Bool.eq_false_iff.mpr fun q => ?_
    have ee : C = tp := Value.ref.inj (beq_iff_eq.mp q)
    subst ee
    unfold clsIn at hc
    split at hc
    · rename_i c' d' cd' sl' ho
      have z := (X _ _ ho).symm.trans htp
      cases z
    · cases hc
  ca := fun X I k => exc_class X T I k
end L2

namespace L2
open PySem PySem.Spec PyProof.Rows

structure RoomQ (k : Nat) (A : Around) : Prop where
  dp : A.depth + 3 * k + 5 < recursionLimit
  un : A.units + 16 * k + 200 < cLine
structure FnOkQ (P : Program) (w : World) (K : PySem.W.Frag) (mg : Str → Option Value) (base : Heap) (k : Nat) (f : Addr) (fd : FuncData) (ps : List Str) (sp : Sp) : Prop where
  len : ∀ vs H Q E, sp vs H Q E → vs.length = ps.length
  run : ∀ (A : Around) (outer : List Env) (s : Shared) (H : Hp) (args : Args) (us : List Value) (vs : List V) (Q : VK) (E : XK), RoomQ k A → Env0 P w K mg base A outer s H → BindsTo s fd args (ps.zip us) → Vals vs us → sp vs H Q E →
    codeAny (model P w) A (.call (.ref f) args) (CR CX0 outer P w H s Q E) s
def cxQ (P : Program) (w : World) (K : PySem.W.Frag) (mg : Str → Option Value) (base : Heap) (N : List Str) (qual : Str) (scope : Scope) (f : Addr) (cd : Value) (A : Around) (outer : List Env) (s : Shared) (H : Hp) : Cx :=
  { cxOf CX0 P w K mg base N qual scope f cd A outer s H E0 with calm := false, still := false, xe := fun _ _ => False }
section
variable {P : Program} {w : World} {K : PySem.W.Frag} {mg : Str → Option Value} {base : Heap}
end
section
variable {X : Cx} {k : Nat} {f : Addr} {fd : FuncData} {ps : List Str} {sp : Sp} {dvs : List V} {ds : List Value} {x : Str} {p pos : Pos} {e : Expr} {es : List Expr} {t : TA}
end
abbrev bmVE : List Value := [.type "ValueError", .type "Exception", .type "BaseException", .type "object"]
def tRaise (C : Addr) (E : XK) (ta : TA) : TS := fun _ σ H => ta σ H fun vs H1 => vs.length ≤ sizeLine ∧ E (.ref C) none H1
section
variable {P : Program} {w : World} {K : PySem.W.Frag} {mg : Str → Option Value} {base : Heap} {N : List Str} {qual : Str} {scope : Scope} {f : Addr} {cd : Value} {A : Around} {outer : List Env} {s0 : Shared} {H0 : Hp} {E : XK}
  {x : Str} {C : Addr} {np cpos pos : Pos} {e : Expr} {es : List Expr} {t : TA}
end
end L2

namespace L2
open PySem PySem.Spec PyProof.Rows

abbrev Cx.marked (X : Cx) (e : Addr) : Cx := { X with A := X.A.mark (some (.ref e)), calm := false, still := false, xe := fun _ _ => False }
section
variable {X : Cx} {pins : List (Addr × Obj)} {σ : St} {H H' : Hp} {s s' : Shared} {e : Addr}
theorem HOk.more {P : Program} {w : World} {H1 : Hp} {h1 : Heap} {a : Addr} {o : HO} (x : HOk P w H1 h1) (n1 : H1 a = none) (new : ObjOk P w (upd H1 a o) h1 a o) : HOk P w (upd H1 a o) h1 := fun b u e => by
  by_cases hb : b = a
  · subst hb; rw [upd_same] at e; cases e; exact new
  · rw [upd_ne hb] at e
    exact (x b u e).stay (fun _ _ _ q => q) (fun c q => by rw [upd_ne (ne_of_none q n1)]; exact q) fun c xs q => by rw [upd_ne (ne_of_none q n1)]; exact q
variable {cls a0 : Value} {ea C : Addr} {B h' : Heap} {t' : Nat}
def asEnds (D : Ends) (i : Nat) : Ends := { nx := fun σ H => D.nx (σ.set i none) H, rt := D.rt, bk := fun σ H => D.bk (σ.set i none) H, ct := fun σ H => D.ct (σ.set i none) H }
end
def tTryAs (sp : Sp) (C : Addr) (i : Nat) (ta : TA) (ts : TS) : TS := fun D σ H => ta σ H fun vs H1 => sp vs H1 (fun _ H2 => D.nx σ H2) fun cls _ H2 => cls = .ref C ∧ ∀ e, H2 e = none → ts (asEnds D i) (σ.set i (some (.ref e))) (upd H2 e (.ext (ExcAt C e)))
section
variable {X : Cx} {k : Nat} {f C : Addr} {fd : FuncData} {ps : List Str} {sp : Sp} {g x n : Str} {p pos pos2 pos3 np hpos : Pos} {e : Expr} {es : List Expr} {t : TA} {ts : TS} {b₀ : Stmt} {suite : List Stmt} {i : Nat}
end
end L2

namespace L2
open PySem PySem.Spec PyProof.Rows

def rCount : V → List V → Hp → VK → Prop := fun x vs H Q => ∃ (l : Addr) (bs : List Bool) (k : Bool), x = .ref l ∧ vs = [.bl k] ∧ H l = some (.lst (bs.map V.bl)) ∧ Q (.int (countIn (.bool k) (bs.map PyData.bool))) H
inductive TyX (K : PySem.W.Frag) (H : Hp) : V → Value → Prop where
  | of {x : V} {t : Value} (h : TyOf K H x t) : TyX K H x t
  | exc {e C : Addr} (T : ExcCls K C) (h : H e = some (.ext (ExcAt C e))) : TyX K H (.ref e) (.ref C)
def valOf : V → Value
  | .ref a => .ref a
  | .ty n => .type n
  | _ => .none
def rIsi (K : PySem.W.Frag) : List V → Hp → VK → Prop := fun xs H Q => ∃ x c t b, xs = [x, c] ∧ ((∃ a, c = .ref a) ∨ ∃ n, c = .ty n) ∧ TyX K H x t ∧ PySem.W.kitOne K t (valOf c) = some b ∧ Q (.bl b) H
theorem call_isi {X : Cx} : CallR X (.builtin "isinstance") (rIsi X.K) := by
  intro pins s σ H xs us Q I rv h
  obtain ⟨x, c, t, b, rfl, hc, ty, e, q⟩ := h
  obtain ⟨u, uc, rfl, ru, rc⟩ := rv.two
  have huc : uc = valOf c := by
    rcases hc with ⟨a, rfl⟩ | ⟨n, rfl⟩
    · exact rc
    · exact rc
  subst huc
  have fin : ∀ tk, EP X pins σ Q (.bool b) { s with toks := tk } := fun tk => ⟨.bl b, H, I.tok tk, rfl, q⟩
  cases ty with
  | of ty => exact isinst_ok I ru ty e fin
  | @exc ea C T he =>
    have ru' : u = Value.ref ea := ru
    subst ru'
    obtain ⟨p, _, _⟩ := (show ObjOk X.prog X.w H s.heap ea (.ext (ExcAt C ea)) from I.hok ea _ he)
    exact PySem.W.kia_one (kitx_exc T) I.kIn p e (fun z => nomatch z) fin

theorem bits_of_lay {ns : List Int} (h : PySem.W.WData.layableAll [PySem.W.WData.list (ns.map PySem.W.WData.int)] = true) : ∀ n ∈ ns, Builtin.Int.intBits n ≤ 1048576 := fun n hn => by
  have h1 := (PySem.W.layW_cons h).1
  have h2 := PySem.W.layableW_item h1 (.int n) (List.mem_map.mpr ⟨n, hn, rfl⟩)
  have h3 : PyData.layable0 (.int n) = true := h2
  exact PyData.bits_of_layable h3
theorem walk_b {l : PySem.W.OpenLaw} {n k : Nat} {q : Program} {loose : List Str} {XP : (Str → Option Value) → Heap → Prop} {YP : World → Heap → Prop} {d : DefRec} {K : Params → PySem.W.Frag} {CX : World → CXT} {sp : World → Sp} {x : Str}
    (hn : l.most = some n) (hn2 : n ≤ sizeLine) (hdf : d.params.defaults = []) (hr : Room k callerA)
    (hY : ∀ (w : World) (h : Heap), YP w h → (K w.params).In h)
    (F : ∀ (w : World) (mg : Str → Option Value) (fa : Addr) (h : Heap), (K w.params).In h → h.Ns mainGlobals mg → mg d.name = some (.ref fa) →
      ∃ fd : FuncData, (∀ (s : Shared) (u : Value), BindsTo s fd ⟨[u], []⟩ [(x, u)]) ∧
        ∀ base : Heap, (K w.params).In base → base.Ns mainGlobals mg → FnOk l.prog w (K w.params) mg base (CX w) k fa fd [x] (sp w))
    (hsp : ∀ (w : World) (H : Hp) (a : Addr) (ns : List Int), ns.length ≤ n → (∀ m ∈ ns, Builtin.Int.intBits m ≤ 1048576) → SqL (K w.params) H a (ns.map V.int) → sp w [.ref a] H (fun v _ => v = .bl true) fun _ _ _ => False)
    (hCX : ∀ (w : World) (H : Hp) (s : Shared) (e : Value) (s' : Shared), CX w [] H s (fun _ _ _ => False) e s' → False) :
    PySem.W.WalkO q loose XP YP l.row.toRowW d [] (fun f vs => PySem.call f vs) := by
  intro w s₀ s₁ mg mb G Y fa o pm cd doc dV kV ho hd hcd hD hmg hg args vals as hpre hlay hrd hwl hlo
  obtain ⟨a, vs, ns, rfl, rfl, hobj, hints, hlen⟩ := Att.script_of hn hpre hwl
  have KX := hY w _ Y
  obtain ⟨fd, hb, hF⟩ := F w mg fa _ KX G.T.g hmg
  have call := law_call KX G.T.g G.T.b G.T.builtins G.T.nolimit hg hobj hints (Nat.le_trans hlen hn2) hr hF hb (fun H hO hS => hsp w H a ns hlen (bits_of_lay hlay) hS) fun H e s' => hCX w H s₁ e s'
  refine PySem.W.enter_call (codeAny_mono call fun r s' hq => ?_)
  obtain ⟨rfl, h2, h3, h4⟩ := hq
  exact ⟨.inl ⟨.bool true, .bool true, [], rfl, fun _ => rfl, .bool true, Att.post_true l _, fun _ => ⟨List.Pairwise.nil, fun _ hm => (nomatch hm)⟩⟩, h2, h3, h4⟩
def spLaw (K : PySem.W.Frag) : Sp := fun vs H Q _ => ∃ (a : Addr) (ns : List Int), vs = [.ref a] ∧ SqL K H a (ns.map V.int) ∧ ns.length ≤ 63 ∧ (∀ m ∈ ns, Builtin.Int.intBits m ≤ 1048576) ∧ ∀ H', Q (.bl true) H'
end L2

namespace L2
open PySem PySem.Spec PyProof.Rows

def tCut (t u : TS) : TS := fun D σ H => ∃ R : St → Hp → Prop, t { D with nx := R } σ H ∧ ∀ σ' H', R σ' H' → u D σ' H'
theorem pss_cut {X : Cx} {st : Stmt} {rest : List Stmt} {t u : TS} (h1 : PS X st t) (h2 : PSs X rest u) : PSs X (st :: rest) (tCut t u) := by
  intro pins s σ H D I h
  obtain ⟨R, h, k⟩ := h
  refine wpAny_execs_cons (thn (h1 pins s σ H { D with nx := R } I h) fun f s1 q => ?_)
  cases f with
  | next =>
    obtain ⟨σ', H', I', q⟩ := q
    exact h2 pins s1 σ' H' D I' (k _ _ q)
  | ret v => exact q
  | brk => exact q
  | cont => exact q

theorem bits_lit {i : Int} {k : Nat} (h : i.natAbs < 2 ^ k) (hk : k ≤ 1048576) : Builtin.Int.intBits i ≤ 1048576 := Nat.le_trans (intBits_le h) hk
theorem mulOk {a b : Int} (ha : Builtin.Int.intBits a ≤ 1048576) (hb : Builtin.Int.intBits b ≤ 1048576) : IntMulOk a b := IntMulOk.of_bits ha hb
theorem log2_lt_of {i : Int} {k : Nat} (h : i.natAbs < 2 ^ k) (hk : 0 < k) : i.natAbs.log2 < k := by
  by_cases h0 : i.natAbs = 0
  · rw [h0]; exact hk
  · exact (Nat.log2_lt h0).mpr h

def spCell (K : PySem.W.Frag) : Sp := fun vs H Q _ => ∃ (a : Addr) (ns : List Int) (k : Int), vs = [.ref a, .int k] ∧ SqL K H a (ns.map V.int) ∧ 0 ≤ k ∧ Q (.int (ns.getD k.toNat 0)) H
theorem cell_in {ns : List Int} {k : Int} (h0 : 0 ≤ k) (h : k < ((ns.map V.int).length : Nat)) : atI (ns.map V.int) k = some (.int (ns.getD k.toNat 0)) := by
  rw [List.length_map] at h
  have hk : k.toNat < ns.length := by omega
  have ek : k = ((k.toNat : Nat) : Int) := by omega
  have q : atI (ns.map V.int) ((k.toNat : Nat) : Int) = some (.int (ns.getD k.toNat 0)) := atI_nat (by
    rw [List.getElem?_map, List.getElem?_eq_getElem hk, List.getD_eq_getElem?_getD, List.getElem?_eq_getElem hk]
    rfl)
  rw [← ek] at q
  exact q
theorem cell_out {ns : List Int} {k : Int} (h : ¬ k < ((ns.map V.int).length : Nat)) (h0 : 0 ≤ k) : ns.getD k.toNat 0 = 0 := by
  rw [List.length_map] at h
  rw [List.getD_eq_getElem?_getD, List.getElem?_eq_none (by omega)]
  rfl
def spWhole : Sp := fun vs H Q _ => ∃ n, vs = [.int n] ∧ Q (.bl true) H
def spAlone (C : Addr) : Sp := fun vs H Q _ => ∃ e, vs = [.ref e] ∧ H e = some (.ext (ExcAt C e)) ∧ ∀ H', Same H H' → Q (.bl true) H'
theorem same_new {H : Hp} {p : Addr} (h : H p = none) (o : HO) : Same H (upd H p o) := fun b u q => by rw [upd_ne (ne_of_none q h)]; exact q
end L2
namespace L2
open PySem PySem.Spec PyProof.Rows
def Has (P : Program) (w : World) (K : PySem.W.Frag) (mg : Str → Option Value) (base : Heap) (CX : CXT) (k : Nat) (x : Str) (ps : List Str) (sp : Sp) : Prop :=
  ∃ (f : Addr) (fd : FuncData), FnOk P w K mg base CX k f fd ps sp ∧ Binds K fd ps [] ∧ PySem.W.keepIn K (.ref f) = true ∧ mg x = some (.ref f)
def HasQ (P : Program) (w : World) (K : PySem.W.Frag) (mg : Str → Option Value) (base : Heap) (k : Nat) (x : Str) (ps : List Str) (sp : Sp) : Prop :=
  ∃ (f : Addr) (fd : FuncData), FnOkQ P w K mg base k f fd ps sp ∧ Binds K fd ps [] ∧ PySem.W.keepIn K (.ref f) = true ∧ mg x = some (.ref f)
theorem decT {p : Prop} [Decidable p] (h : decide p = true) : p := of_decide_eq_true h
theorem decF {p : Prop} [Decidable p] (h : ¬ decide p = true) : ¬ p := of_decide_eq_false (Bool.eq_false_iff.mpr h)
theorem int_inj {a b : Int} (h : V.int a = V.int b) : a = b := V.int.inj h
end L2
namespace L2
open PySem PySem.Spec PyProof.Rows
inductive IntsE : List Expr → List Int → Prop where
  | nil : IntsE [] []
  | cons {i : Int} {j : Nat} {pos : Pos} {es : List Expr} {ns : List Int} (h : IntsE es ns) : IntsE (.Constant (.int i) j pos :: es) (i :: ns)
end L2
namespace L2
open PySem PySem.Spec PyProof.Rows
end L2

namespace Sh
theorem quot (x y : Int) : x = y * Int.fdiv x y + Int.fmod x y := by rw [Int.fmod_def]; omega
structure Rows (x y a s t b u v : Int) : Prop where
  up : a = s * x + t * y
  lo : b = u * x + v * y
  one : ∃ p q, x = p * a + q * b
  two : ∃ p q, y = p * a + q * b
theorem rows_start (x y : Int) : Rows x y x 1 0 y 0 1 := ⟨by omega, by omega, ⟨1, 0, by omega⟩, ⟨0, 1, by omega⟩⟩
theorem rows_turn {x y a s t b u v : Int} (h : Rows x y a s t b u v) (q : Int) : Rows x y b u v (a - q * b) (s - q * u) (t - q * v) := by
  obtain ⟨h1, h2, ⟨p1, q1, h3⟩, ⟨p2, q2, h4⟩⟩ := h
  refine ⟨h2, by grind, ⟨p1 * q + q1, p1, ?_⟩, ⟨p2 * q + q2, p2, ?_⟩⟩ <;> grind
theorem rows_end {x y a s t b u v : Int} (h : Rows x y a s t b u v) (hb : b = 0) : a = s * x + t * y ∧ (∃ p, x = p * a) ∧ (∃ p, y = p * a) := by
  obtain ⟨h1, h2, ⟨p1, q1, h3⟩, ⟨p2, q2, h4⟩⟩ := h
  subst hb
  exact ⟨h1, ⟨p1, by grind⟩, ⟨p2, by grind⟩⟩
structure Sz (B a s t b u v : Int) : Prop where
  a0 : a.natAbs ≤ B.natAbs
  b0 : b.natAbs ≤ B.natAbs
  s0 : s.natAbs ≤ B.natAbs
  t0 : t.natAbs ≤ B.natAbs
  u0 : u.natAbs ≤ B.natAbs
  v0 : v.natAbs ≤ B.natAbs
  way : (s = 1 ∧ t = 0 ∧ u = 0 ∧ v = 1 ∧ a.natAbs + 2 * b.natAbs ≤ B.natAbs) ∨
    ((0 ≤ a ∧ 0 ≤ b ∨ a ≤ 0 ∧ b ≤ 0) ∧ s.natAbs * b.natAbs + u.natAbs * a.natAbs ≤ B.natAbs ∧ t.natAbs * b.natAbs + v.natAbs * a.natAbs ≤ B.natAbs)
theorem le_of_mul {m n B : Nat} (h : m * n ≤ B) (hn : n ≠ 0) : m ≤ B := Nat.le_trans (Nat.le_mul_of_pos_right m (Nat.pos_of_ne_zero hn)) h
theorem fmod_abs {a b : Int} (hb : b ≠ 0) : (Int.fmod a b).natAbs < b.natAbs := by
  rcases Int.lt_or_gt_of_ne hb with h | h
  · have h1 := Int.fmod_lt_of_pos (-a) (show 0 < -b by omega)
    have h2 := Int.fmod_nonneg_of_pos (-a) (show 0 < -b by omega)
    rw [Int.neg_fmod_neg] at h1 h2
    omega
  · have h1 := Int.fmod_lt_of_pos a h
    have h2 := Int.fmod_nonneg_of_pos a h
    omega
theorem fmod_sign {a b : Int} (hb : b ≠ 0) : 0 ≤ b ∧ 0 ≤ Int.fmod a b ∨ b ≤ 0 ∧ Int.fmod a b ≤ 0 := by
  rcases Int.lt_or_gt_of_ne hb with h | h
  · have h2 := Int.fmod_nonneg_of_pos (-a) (show 0 < -b by omega)
    rw [Int.neg_fmod_neg] at h2
    omega
  · have h2 := Int.fmod_nonneg_of_pos a h
    omega
theorem abs_sub_mul (s q u : Int) : (s - q * u).natAbs ≤ s.natAbs + q.natAbs * u.natAbs := by
  have := Int.natAbs_sub_le s (q * u)
  rw [Int.natAbs_mul] at this
  exact this
theorem sum_turn {s u a b q r : Int} (hq : (q * b).natAbs + r.natAbs ≤ a.natAbs) : u.natAbs * r.natAbs + (s - q * u).natAbs * b.natAbs ≤ s.natAbs * b.natAbs + u.natAbs * a.natAbs := by
  have h1 := Nat.mul_le_mul_right b.natAbs (abs_sub_mul s q u)
  have h2 := Nat.mul_le_mul_left u.natAbs hq
  rw [Int.natAbs_mul] at h2
  rw [Nat.add_mul] at h1
  rw [Nat.mul_add] at h2
  have e : q.natAbs * u.natAbs * b.natAbs = u.natAbs * (q.natAbs * b.natAbs) := by
    rw [Nat.mul_comm q.natAbs, Nat.mul_assoc]
  omega
theorem sz_start {x y : Int} : Sz ((x.natAbs : Int) + 2 * y.natAbs + 1) x 1 0 y 0 1 := by
  refine ⟨by omega, by omega, by omega, by omega, by omega, by omega, .inl ⟨rfl, rfl, rfl, rfl, by omega⟩⟩
theorem sz_turn {B a s t b u v : Int} (h : Sz B a s t b u v) (hb : b ≠ 0) (q r : Int) (hq : a = b * q + r) (hr : r = Int.fmod a b) :
    Sz B b u v r (s - q * u) (t - q * v) := by
  have ra : r.natAbs < b.natAbs := hr ▸ fmod_abs hb
  have rs : 0 ≤ b ∧ 0 ≤ r ∨ b ≤ 0 ∧ r ≤ 0 := hr ▸ fmod_sign hb
  have eq : q * b = a - r := by rw [Int.mul_comm]; omega
  rcases h.way with ⟨rfl, rfl, rfl, rfl, h1⟩ | ⟨hs, h1, h2⟩
  · have hq' : (q * b).natAbs ≤ a.natAbs + r.natAbs := by rw [eq]; omega
    have hqb : q.natAbs ≤ (q * b).natAbs := by
      rw [Int.natAbs_mul]
      exact Nat.le_mul_of_pos_right _ (by omega)
    have e1 : (1 - q * 0).natAbs = 1 := by rw [Int.mul_zero]; rfl
    have e2 : (0 - q * 1).natAbs = q.natAbs := by rw [Int.mul_one]; omega
    have b0 := h.b0
    refine ⟨h.b0, by omega, h.u0, h.v0, by rw [e1]; omega, by rw [e2]; omega, .inr ⟨rs, ?_, ?_⟩⟩
    · rw [e1]; simp; omega
    · have e3 : q.natAbs * b.natAbs = (q * b).natAbs := (Int.natAbs_mul q b).symm
      have e4 : (1 : Int).natAbs * r.natAbs = r.natAbs := by rw [show (1 : Int).natAbs = 1 from rfl, Nat.one_mul]
      rw [e2, e3, e4]
      omega
  · have hq' : (q * b).natAbs + r.natAbs ≤ a.natAbs := by
      have q0 : 0 ≤ q := by
        rcases (show 0 ≤ q ∨ q ≤ -1 by omega) with h0 | h0
        · exact h0
        · exfalso
          rcases (show 0 < b ∨ b < 0 by omega) with hb' | hb'
          · have := Int.mul_le_mul_of_nonneg_left h0 (Int.le_of_lt hb')
            omega
          · have := Int.mul_le_mul_of_nonneg_left h0 (show 0 ≤ -b by omega)
            rw [Int.neg_mul, Int.neg_mul] at this
            omega
      rcases (show 0 < b ∨ b < 0 by omega) with hb' | hb'
      · have := Int.mul_nonneg q0 (Int.le_of_lt hb')
        omega
      · have := Int.mul_nonneg q0 (show 0 ≤ -b by omega)
        rw [Int.mul_neg] at this
        omega
    have k1 := sum_turn (s := s) (u := u) hq'
    have k2 := sum_turn (s := t) (u := v) hq'
    refine ⟨h.b0, by have := h.b0; omega, h.u0, h.v0, ?_, ?_, .inr ⟨rs, by omega, by omega⟩⟩
    · exact le_of_mul (n := b.natAbs) (by omega) (by omega)
    · exact le_of_mul (n := b.natAbs) (by omega) (by omega)
end Sh

namespace Sm
structure P3 where
  (x y z : Int)
structure F6 where
  (a b c d e f : Int)
structure T3 where
  (r0 r1 r2 : P3)
def rp (r s : P3) : Int := r.x * s.x + r.y * s.y + r.z * s.z
def wo (Q : F6) (P : P3) : Int := Q.a * (P.x * P.x) + Q.b * (P.y * P.y) + Q.c * (P.z * P.z) + Q.d * (P.y * P.z) + Q.e * (P.x * P.z) + Q.f * (P.x * P.y)
def sl (Q : F6) : T3 := ⟨⟨2 * Q.a, Q.f, Q.e⟩, ⟨Q.f, 2 * Q.b, Q.d⟩, ⟨Q.e, Q.d, 2 * Q.c⟩⟩
def tb (t : T3) (P : P3) : P3 := ⟨rp t.r0 P, rp t.r1 P, rp t.r2 P⟩
def tr (t : T3) : T3 := ⟨⟨t.r0.x, t.r1.x, t.r2.x⟩, ⟨t.r0.y, t.r1.y, t.r2.y⟩, ⟨t.r0.z, t.r1.z, t.r2.z⟩⟩
def bl (Q : F6) (x y : P3) : Int := rp (tb (sl Q) x) y
def ch (Q : F6) (t : T3) : F6 := ⟨wo Q (tr t).r0, wo Q (tr t).r1, wo Q (tr t).r2, bl Q (tr t).r1 (tr t).r2, bl Q (tr t).r0 (tr t).r2, bl Q (tr t).r0 (tr t).r1⟩
def pt (t u : T3) : T3 := ⟨tb (tr u) t.r0, tb (tr u) t.r1, tb (tr u) t.r2⟩
def cr (r s : P3) : P3 := ⟨r.y * s.z - r.z * s.y, r.z * s.x - r.x * s.z, r.x * s.y - r.y * s.x⟩
def me (t : T3) : Int := rp t.r0 (cr t.r1 t.r2)
def lw (Q : F6) (P : P3) : Int := Q.a * P.x * P.x + Q.b * P.y * P.y + Q.c * P.z * P.z + Q.d * P.y * P.z + Q.e * P.x * P.z + Q.f * P.x * P.y
theorem lw_eq (Q : F6) (P : P3) : lw Q P = wo Q P := by
  unfold lw wo
  grind
def lm (t : T3) : Int := t.r0.x * t.r1.y * t.r2.z + t.r0.y * t.r1.z * t.r2.x + t.r0.z * t.r1.x * t.r2.y - t.r0.z * t.r1.y * t.r2.x - t.r0.y * t.r1.x * t.r2.z - t.r0.x * t.r1.z * t.r2.y
def rt (r : P3) (t : T3) : P3 := ⟨r.x * t.r0.x + r.y * t.r1.x + r.z * t.r2.x, r.x * t.r0.y + r.y * t.r1.y + r.z * t.r2.y, r.x * t.r0.z + r.y * t.r1.z + r.z * t.r2.z⟩
theorem wo_two (Q : F6) (x : P3) : bl Q x x = 2 * wo Q x := by
  simp only [bl, tb, sl, rp, wo]
  grind
def Bd (k : Nat) (x : Int) : Prop := x.natAbs ≤ 2 ^ k
theorem Bd.mul {j k : Nat} {x y : Int} (h : Bd j x) (h2 : Bd k y) : Bd (j + k) (x * y) := by
  unfold Bd at *
  rw [Int.natAbs_mul, Nat.pow_add]
  exact Nat.mul_le_mul h h2
theorem Bd.add {j : Nat} {x y : Int} (h : Bd j x) (h2 : Bd j y) : Bd (j + 1) (x + y) := by
  unfold Bd at *
  rw [Nat.pow_succ]
  omega
theorem Bd.sub {j : Nat} {x y : Int} (h : Bd j x) (h2 : Bd j y) : Bd (j + 1) (x - y) := by
  unfold Bd at *
  rw [Nat.pow_succ]
  omega
theorem Bd.mono {j k : Nat} {x : Int} (h : Bd j x) (hk : j ≤ k) : Bd k x := Nat.le_trans h (Nat.pow_le_pow_right (by decide) hk)
structure BP (k : Nat) (P : P3) : Prop where
  (x : Bd k P.x) (y : Bd k P.y) (z : Bd k P.z)
structure BF (k : Nat) (Q : F6) : Prop where
  (a : Bd k Q.a) (b : Bd k Q.b) (c : Bd k Q.c) (d : Bd k Q.d) (e : Bd k Q.e) (f : Bd k Q.f)
structure BT (k : Nat) (t : T3) : Prop where
  (r0 : BP k t.r0) (r1 : BP k t.r1) (r2 : BP k t.r2)
theorem BP.mono {j k : Nat} {P : P3} (h : BP j P) (hk : j ≤ k) : BP k P := ⟨h.x.mono hk, h.y.mono hk, h.z.mono hk⟩
theorem bd_rp {j k : Nat} {r s : P3} (h : BP j r) (h2 : BP k s) : Bd (j + k + 2) (rp r s) := ((h.x.mul h2.x).add (h.y.mul h2.y)).add ((h.z.mul h2.z).mono (Nat.le_succ _))
theorem bd_wo {j k : Nat} {Q : F6} {P : P3} (h : BF j Q) (p : BP k P) : Bd (j + (k + k) + 5) (wo Q P) :=
  (((((h.a.mul (p.x.mul p.x)).add (h.b.mul (p.y.mul p.y))).add ((h.c.mul (p.z.mul p.z)).mono (by omega))).add ((h.d.mul (p.y.mul p.z)).mono (by omega))).add ((h.e.mul (p.x.mul p.z)).mono (by omega))).add ((h.f.mul (p.x.mul p.y)).mono (by omega))
theorem bd_tb {j k : Nat} {t : T3} {P : P3} (h : BT j t) (p : BP k P) : BP (j + k + 2) (tb t P) := ⟨bd_rp h.r0 p, bd_rp h.r1 p, bd_rp h.r2 p⟩
theorem bd_two {k : Nat} {x : Int} (h : Bd k x) : Bd (k + 1) (2 * x) := by
  unfold Bd at *
  rw [Nat.pow_succ]
  omega
theorem bd_sl {k : Nat} {Q : F6} (h : BF k Q) : BT (k + 1) (sl Q) := ⟨⟨bd_two h.a, h.f.mono (Nat.le_succ _), h.e.mono (Nat.le_succ _)⟩, ⟨h.f.mono (Nat.le_succ _), bd_two h.b, h.d.mono (Nat.le_succ _)⟩, ⟨h.e.mono (Nat.le_succ _), h.d.mono (Nat.le_succ _), bd_two h.c⟩⟩
theorem bd_bl {j k : Nat} {Q : F6} {x y : P3} (h : BF j Q) (p : BP k x) (q : BP k y) : Bd (j + (k + k) + 5) (bl Q x y) := (bd_rp (bd_tb (bd_sl h) p) q).mono (by omega)
theorem bd_cr {k : Nat} {r s : P3} (h : BP k r) (p : BP k s) : BP (k + k + 1) (cr r s) := ⟨(h.y.mul p.z).sub (h.z.mul p.y), (h.z.mul p.x).sub (h.x.mul p.z), (h.x.mul p.y).sub (h.y.mul p.x)⟩
theorem sum6 (a b c d e f : Int) : [a, b, c, d, e, f].sum = a + b + c + d + e + f := by
  simp [List.sum_cons]
  omega
end Sm

namespace Lw
def One3 (a b c : Int) : Prop := ∃ u v w : Int, u * a + v * b + w * c = 1
def Pos3 (a b c : Int) : Prop := 0 < a ∨ (a = 0 ∧ 0 < b) ∨ (a = 0 ∧ b = 0 ∧ 0 < c)
def Al (a b c x y z : Int) : Prop := a * y = b * x ∧ a * z = c * x ∧ b * z = c * y
theorem unit_pm {t s : Int} (h : t * s = 1) : t = 1 ∨ t = -1 := by
  have h2 : t ∣ 1 := ⟨s, h.symm⟩
  have h3 := Int.natAbs_dvd_natAbs.mpr h2
  have h4 : t.natAbs = 1 := Nat.dvd_one.mp h3
  omega
theorem uniq {a b c a' b' c' : Int} (o : One3 a b c) (o' : One3 a' b' c') (p : Pos3 a b c) (p' : Pos3 a' b' c') (al : Al a b c a' b' c') : a = a' ∧ b = b' ∧ c = c' := by
  obtain ⟨u, v, w, e⟩ := o
  obtain ⟨u', v', w', e'⟩ := o'
  obtain ⟨h1, h2, h3⟩ := al
  have ea : a' = a * (u * a' + v * b' + w * c') := by
    have : a' * (u * a + v * b + w * c) = a' := by rw [e, Int.mul_one]
    grind
  have eb : b' = b * (u * a' + v * b' + w * c') := by
    have : b' * (u * a + v * b + w * c) = b' := by rw [e, Int.mul_one]
    grind
  have ec : c' = c * (u * a' + v * b' + w * c') := by
    have : c' * (u * a + v * b + w * c) = c' := by rw [e, Int.mul_one]
    grind
  generalize u * a' + v * b' + w * c' = t at ea eb ec
  have ht : t * (u' * a + v' * b + w' * c) = 1 := by
    rw [ea, eb, ec] at e'
    grind
  rcases unit_pm ht with rfl | rfl
  · omega
  · unfold Pos3 at p p'
    omega
theorem low_ok {x y z d : Int} (hd : d ≠ 0) (hx : d ∣ x) (hy : d ∣ y) (hz : d ∣ z) (hb : ∃ u v w : Int, u * x + v * y + w * z = d) : One3 (x.fdiv d) (y.fdiv d) (z.fdiv d) ∧ x = d * x.fdiv d ∧ y = d * y.fdiv d ∧ z = d * z.fdiv d := by
  obtain ⟨x', rfl⟩ := hx
  obtain ⟨y', rfl⟩ := hy
  obtain ⟨z', rfl⟩ := hz
  obtain ⟨u, v, w, e⟩ := hb
  rw [Int.mul_fdiv_cancel_left _ hd, Int.mul_fdiv_cancel_left _ hd, Int.mul_fdiv_cancel_left _ hd]
  refine ⟨⟨u, v, w, ?_⟩, rfl, rfl, rfl⟩
  have : d * (u * x' + v * y' + w * z') = d * 1 := by grind
  exact Int.eq_of_mul_eq_mul_left hd this
end Lw

namespace Sm
theorem BP.mono' {j k : Nat} {P : P3} (h : BP j P) (hk : j ≤ k := by omega) : BP k P := h.mono hk
theorem BF.mono {j k : Nat} {F : F6} (h : BF j F) (hk : j ≤ k := by omega) : BF k F := ⟨h.a.mono hk, h.b.mono hk, h.c.mono hk, h.d.mono hk, h.e.mono hk, h.f.mono hk⟩
theorem BT.mono {j k : Nat} {t : T3} (h : BT j t) (hk : j ≤ k := by omega) : BT k t := ⟨h.r0.mono hk, h.r1.mono hk, h.r2.mono hk⟩
end Sm
namespace Pn
open Sm Lw
def sz (Q : F6) : Int := 4 * Q.a * Q.b * Q.c + Q.d * Q.e * Q.f - Q.a * Q.d * Q.d - Q.b * Q.e * Q.e - Q.c * Q.f * Q.f
def fm (t : T3) (c : Int) : F6 :=
  ⟨c * (t.r0.x * t.r2.x - t.r1.x * t.r1.x), c * (t.r0.y * t.r2.y - t.r1.y * t.r1.y), c * (t.r0.z * t.r2.z - t.r1.z * t.r1.z),
   c * (t.r0.y * t.r2.z + t.r0.z * t.r2.y - 2 * t.r1.y * t.r1.z), c * (t.r0.x * t.r2.z + t.r0.z * t.r2.x - 2 * t.r1.x * t.r1.z), c * (t.r0.x * t.r2.y + t.r0.y * t.r2.x - 2 * t.r1.x * t.r1.y)⟩
theorem sz_fm (t : T3) (c : Int) : sz (fm t c) = c * c * c * (me t * me t) := by
  simp only [sz, fm, me, cr, rp]
  grind
theorem wo_fm (t : T3) (c : Int) (P : P3) : wo (fm t c) P = c * (rp t.r0 P * rp t.r2 P - rp t.r1 P * rp t.r1 P) := by
  simp only [wo, fm, rp]
  grind
def sp1 (s u : Int) (p q r : Int) : Int := s * s * p + s * u * q + u * u * r
def sp (t : T3) (s u : Int) : P3 :=
  ⟨sp1 s u (cr t.r1 t.r2).x (cr t.r2 t.r0).x (cr t.r0 t.r1).x, sp1 s u (cr t.r1 t.r2).y (cr t.r2 t.r0).y (cr t.r0 t.r1).y, sp1 s u (cr t.r1 t.r2).z (cr t.r2 t.r0).z (cr t.r0 t.r1).z⟩
theorem sp_r0 (t : T3) (s u : Int) : rp t.r0 (sp t s u) = s * s * me t := by
  simp only [sp, sp1, me, cr, rp]
  grind
theorem sp_r1 (t : T3) (s u : Int) : rp t.r1 (sp t s u) = s * u * me t := by
  simp only [sp, sp1, me, cr, rp]
  grind
theorem sp_r2 (t : T3) (s u : Int) : rp t.r2 (sp t s u) = u * u * me t := by
  simp only [sp, sp1, me, cr, rp]
  grind
theorem wo_sp (t : T3) (c s u : Int) : wo (fm t c) (sp t s u) = 0 := by
  rw [wo_fm, sp_r0, sp_r1, sp_r2]
  grind
def N3 (P : P3) : Prop := P.x ≠ 0 ∨ P.y ≠ 0 ∨ P.z ≠ 0
theorem rp_zero {r P : P3} (h : ¬ N3 P) : rp r P = 0 := by
  unfold N3 at h
  have h1 : P.x = 0 := by omega
  have h2 : P.y = 0 := by omega
  have h3 : P.z = 0 := by omega
  unfold rp
  rw [h1, h2, h3]
  omega
theorem sp_nz {t : T3} {s u : Int} (ht : me t ≠ 0) (h : s ≠ 0 ∨ u ≠ 0) : N3 (sp t s u) := by
  apply Classical.byContradiction
  intro c
  have h0 := sp_r0 t s u
  have h2 := sp_r2 t s u
  rw [rp_zero c] at h0 h2
  rcases h with h | h
  · rcases Int.mul_eq_zero.mp h0.symm with w | w
    · rcases Int.mul_eq_zero.mp w with w | w <;> exact h w
    · exact ht w
  · rcases Int.mul_eq_zero.mp h2.symm with w | w
    · rcases Int.mul_eq_zero.mp w with w | w <;> exact h w
    · exact ht w
def tm (d : Int) (P : P3) : P3 := ⟨d * P.x, d * P.y, d * P.z⟩
theorem wo_tm (Q : F6) (d : Int) (P : P3) : wo Q (tm d P) = d * d * wo Q P := by
  simp only [wo, tm]
  grind
theorem wo_of_tm {Q : F6} {d : Int} {P : P3} (hd : d ≠ 0) (h : wo Q (tm d P) = 0) : wo Q P = 0 := by
  rw [wo_tm] at h
  rcases Int.mul_eq_zero.mp h with w | w
  · rcases Int.mul_eq_zero.mp w with w | w <;> exact absurd w hd
  · exact w
def ad (P R : P3) : P3 := ⟨P.x + R.x, P.y + R.y, P.z + R.z⟩
theorem wo_ad (Q : F6) (P R : P3) : wo Q (ad P R) - wo Q P - wo Q R = bl Q P R := by
  simp only [wo, ad, bl, tb, sl, rp]
  grind
theorem bl_comm (Q : F6) (P R : P3) : bl Q P R = bl Q R P := by
  simp only [bl, tb, sl, rp]
  grind
theorem sl_cr (Q : F6) (P R : P3) : tb (sl Q) (cr (tb (sl Q) P) (tb (sl Q) R)) = tm (2 * sz Q) (cr P R) := by
  simp only [tb, sl, cr, rp, tm, sz, P3.mk.injEq]
  refine ⟨?_, ?_, ?_⟩ <;> grind
theorem along_cr {u P R : P3} (h1 : rp u P = 0) (h2 : rp u R = 0) : cr u (cr P R) = ⟨0, 0, 0⟩ := by
  have e : cr u (cr P R) = ⟨P.x * rp u R - R.x * rp u P, P.y * rp u R - R.y * rp u P, P.z * rp u R - R.z * rp u P⟩ := by
    simp only [cr, rp, P3.mk.injEq]
    refine ⟨?_, ?_, ?_⟩ <;> grind
  rw [e, h1, h2]
  simp
theorem mul_cancel {a b : Int} (h : a * b = 0) (ha : a ≠ 0) : b = 0 := by
  rcases Int.mul_eq_zero.mp h with w | w
  · exact absurd w ha
  · exact w
theorem cr_along {u v w : P3} (n : N3 w) (h1 : cr u w = ⟨0, 0, 0⟩) (h2 : cr v w = ⟨0, 0, 0⟩) : cr u v = ⟨0, 0, 0⟩ := by
  simp only [cr, P3.mk.injEq] at *
  obtain ⟨a1, a2, a3⟩ := h1
  obtain ⟨b1, b2, b3⟩ := h2
  rcases n with n | n | n
  · refine ⟨mul_cancel (a := w.x) ?_ n, mul_cancel (a := w.x) ?_ n, mul_cancel (a := w.x) ?_ n⟩ <;> grind
  · refine ⟨mul_cancel (a := w.y) ?_ n, mul_cancel (a := w.y) ?_ n, mul_cancel (a := w.y) ?_ n⟩ <;> grind
  · refine ⟨mul_cancel (a := w.z) ?_ n, mul_cancel (a := w.z) ?_ n, mul_cancel (a := w.z) ?_ n⟩ <;> grind
theorem no_line {Q : F6} {P D : P3} (hs : sz Q ≠ 0) (n : N3 (cr P D)) (h1 : wo Q P = 0) (h2 : wo Q D = 0) (h3 : bl Q P D = 0) : False := by
  have pp : rp (tb (sl Q) P) P = 0 := by
    have := wo_two Q P
    unfold bl at this
    omega
  have pd : rp (tb (sl Q) P) D = 0 := h3
  have dd : rp (tb (sl Q) D) D = 0 := by
    have := wo_two Q D
    unfold bl at this
    omega
  have dp : rp (tb (sl Q) D) P = 0 := by
    have := bl_comm Q D P
    unfold bl at this h3
    omega
  have c0 := cr_along n (along_cr pp pd) (along_cr dp dd)
  have e := sl_cr Q P D
  rw [c0] at e
  simp only [tb, rp, tm, P3.mk.injEq] at e
  obtain ⟨e1, e2, e3⟩ := e
  rcases n with n | n | n
  · exact n (mul_cancel (a := 2 * sz Q) (by rw [← e1]; simp) (by omega))
  · exact n (mul_cancel (a := 2 * sz Q) (by rw [← e2]; simp) (by omega))
  · exact n (mul_cancel (a := 2 * sz Q) (by rw [← e3]; simp) (by omega))
def dr (P : P3) (m n : Int) : P3 := if P.z ≠ 0 then ⟨m, n, 0⟩ else if P.y ≠ 0 then ⟨m, 0, n⟩ else ⟨0, m, n⟩
theorem dr_off {P : P3} {m n : Int} (hP : N3 P) (h : m ≠ 0 ∨ n ≠ 0) : N3 (cr P (dr P m n)) := by
  have k : ∀ {a b : Int}, a ≠ 0 → b ≠ 0 → a * b ≠ 0 := fun ha hb z => hb (mul_cancel z ha)
  unfold dr
  unfold N3 at *
  by_cases c1 : P.z = 0
  · rw [if_neg (by omega)]
    by_cases c2 : P.y = 0
    · rw [if_neg (by omega)]
      have px : P.x ≠ 0 := by omega
      simp only [cr]
      rcases h with h | h
      · right; right
        have := k px h
        rw [c2]
        omega
      · right; left
        have := k px h
        rw [c1]
        omega
    · rw [if_pos c2]
      simp only [cr]
      rcases h with h | h
      · right; right
        have := k c2 h
        omega
      · left
        have := k c2 h
        rw [c1]
        omega
  · rw [if_pos c1]
    simp only [cr]
    rcases h with h | h
    · right; left
      have := k c1 h
      omega
    · left
      have := k c1 h
      omega
def mk (Q : F6) (P D : P3) : P3 := ad (tm (wo Q D) P) (tm (-(bl Q P D)) D)
def L3 (P : P3) : Prop := One3 P.x P.y P.z ∧ Pos3 P.x P.y P.z
theorem L3.n3 {P : P3} (h : L3 P) : N3 P := by
  have := h.2
  unfold Pos3 at this
  unfold N3
  omega
theorem P3.ext' {P R : P3} (h : P.x = R.x ∧ P.y = R.y ∧ P.z = R.z) : P = R := by
  cases P; cases R
  simp only at h
  obtain ⟨rfl, rfl, rfl⟩ := h
  rfl
instance : DecidableEq P3 := fun P R => decidable_of_iff (P.x = R.x ∧ P.y = R.y ∧ P.z = R.z) ⟨P3.ext', fun h => by subst h; exact ⟨rfl, rfl, rfl⟩⟩
theorem low_uniq {P R : P3} (hP : L3 P) (hR : L3 R) (h : cr P R = ⟨0, 0, 0⟩) : P = R := by
  simp only [cr, P3.mk.injEq] at h
  obtain ⟨e1, e2, e3⟩ := h
  exact P3.ext' (uniq hP.1 hR.1 hP.2 hR.2 ⟨by omega, by omega, by omega⟩)
theorem low_tm {P R : P3} {d e : Int} (hP : L3 P) (hR : L3 R) (hd : d ≠ 0) (h : tm d P = tm e R) : P = R := by
  simp only [tm, P3.mk.injEq] at h
  obtain ⟨e1, e2, e3⟩ := h
  refine low_uniq hP hR ?_
  simp only [cr, P3.mk.injEq]
  refine ⟨mul_cancel (a := d) ?_ hd, mul_cancel (a := d) ?_ hd, mul_cancel (a := d) ?_ hd⟩ <;> grind
def ax (P : P3) : P3 := if P.z ≠ 0 then ⟨0, 0, 1⟩ else if P.y ≠ 0 then ⟨0, 1, 0⟩ else ⟨1, 0, 0⟩
def ln (Q : F6) (P R : P3) : P3 := if R = P then tb (sl Q) P else cr P R
theorem n3_not {P : P3} (h : ¬ N3 P) : P = ⟨0, 0, 0⟩ := by
  unfold N3 at h
  exact P3.ext' ⟨by show P.x = 0; omega, by show P.y = 0; omega, by show P.z = 0; omega⟩
theorem ln_nz {Q : F6} {P R : P3} (hs : sz Q ≠ 0) (hP : L3 P) (hR : L3 R) : N3 (ln Q P R) := by
  apply Classical.byContradiction
  intro c
  have c0 := n3_not c
  unfold ln at c0
  by_cases h : R = P
  · rw [if_pos h] at c0
    have n := dr_off (P := P) (m := 1) (n := 0) hP.n3 (.inl (by decide))
    generalize dr P 1 0 = D at n
    have e := sl_cr Q P D
    rw [c0] at e
    have z : cr ⟨0, 0, 0⟩ (tb (sl Q) D) = ⟨0, 0, 0⟩ := by
      simp only [cr, P3.mk.injEq]
      refine ⟨?_, ?_, ?_⟩ <;> omega
    rw [z] at e
    have z2 : tb (sl Q) ⟨0, 0, 0⟩ = ⟨0, 0, 0⟩ := by
      simp [tb, rp]
    rw [z2] at e
    simp only [tm, P3.mk.injEq] at e
    obtain ⟨e1, e2, e3⟩ := e
    rcases n with n | n | n
    · exact n (mul_cancel e1.symm (by omega))
    · exact n (mul_cancel e2.symm (by omega))
    · exact n (mul_cancel e3.symm (by omega))
  · rw [if_neg h] at c0
    exact h (low_uniq hP hR c0).symm
def nm1 (P D : P3) : Int := if P.z ≠ 0 then D.x else if P.y ≠ 0 then D.x else D.y
def nm2 (P D : P3) : Int := if P.z ≠ 0 then D.y else D.z
structure Rgt (F : F6) (P D R : P3) : Prop where
  (low : L3 R) (on : wo F R = 0) (ln : rp (cr P D) R = 0) (same : R = P ↔ bl F P D = 0)
theorem on_line {P D R : P3} (n : N3 (cr P D)) (h : rp (cr P D) R = 0) : ∃ k i j : Int, k ≠ 0 ∧ tm k R = ad (tm i P) (tm j D) := by
  simp only [rp, cr] at h
  unfold N3 at n
  simp only [cr] at n
  rcases n with n | n | n
  · refine ⟨_, R.y * D.z - R.z * D.y, P.y * R.z - P.z * R.y, n, ?_⟩
    simp only [tm, ad, P3.mk.injEq]
    refine ⟨?_, ?_, ?_⟩ <;> grind
  · refine ⟨_, R.z * D.x - R.x * D.z, P.z * R.x - P.x * R.z, n, ?_⟩
    simp only [tm, ad, P3.mk.injEq]
    refine ⟨?_, ?_, ?_⟩ <;> grind
  · refine ⟨_, R.x * D.y - R.y * D.x, P.x * R.y - P.y * R.x, n, ?_⟩
    simp only [tm, ad, P3.mk.injEq]
    refine ⟨?_, ?_, ?_⟩ <;> grind
theorem wo_mix (Q : F6) (P D : P3) (i j : Int) : wo Q (ad (tm i P) (tm j D)) = i * i * wo Q P + i * j * bl Q P D + j * j * wo Q D := by
  simp only [wo, ad, tm, bl, tb, sl, rp]
  grind
end Pn

namespace Pn
open Sm Lw
def nzb (P : P3) : Bool := decide (P.x ≠ 0) || (decide (P.y ≠ 0) || decide (P.z ≠ 0))
def crs (ls os : List P3) : List P3 := ls.flatMap fun l => os.map (cr l)
def axs : List P3 := [⟨1, 0, 0⟩, ⟨0, 1, 0⟩, ⟨0, 0, 1⟩]
def sls (Q : F6) : List P3 := [(sl Q).r0, (sl Q).r1, (sl Q).r2]
def vxs (Q : F6) : List P3 := crs (sls Q) (sls Q) ++ crs (sls Q) axs ++ crs axs axs
def O3 : P3 := ⟨0, 0, 0⟩
end Pn

namespace Pn
open Sm Lw
def cb (P D E : P3) (i j k : Int) : P3 := ad (tm i P) (ad (tm j D) (tm k E))
def md (Q : F6) (P : P3) : P3 := ad (mk Q P (dr P 1 1)) (tm (-1) (ad (mk Q P (dr P 1 0)) (mk Q P (dr P 0 1))))
def sd (Q : F6) (P : P3) : T3 := ⟨mk Q P (dr P 1 0), md Q P, mk Q P (dr P 0 1)⟩
def sc (Q : F6) (P : P3) : Int := bl Q (sd Q P).r0 (sd Q P).r2
end Pn

namespace Pr
def NoDiv (x d : Int) : Prop := ∀ k, 2 ≤ k → k < d → ¬ k ∣ x
structure Prm (p : Int) : Prop where
  two : 2 ≤ p
  no : ∀ k, 2 ≤ k → k * k ≤ p → ¬ k ∣ p
def prodP : List (Int × Int) → Int
  | [] => 1
  | x :: r => x.1 ^ x.2.toNat * prodP r
structure Part (x : Int × Int) : Prop where
  prime : Prm x.1
  often : 1 ≤ x.2
structure Told (n : Int) (xs : List (Int × Int)) : Prop where
  all : ∀ x ∈ xs, Part x
  rise : xs.Pairwise fun x y => x.1 < y.1
  prod : prodP xs = n
structure Out (n left d : Int) (xs : List (Int × Int)) : Prop where
  all : ∀ x ∈ xs, Part x
  rise : xs.Pairwise fun x y => x.1 < y.1
  below : ∀ x ∈ xs, x.1 < d
  prod : prodP xs * left = n
  no : NoDiv left d
  odd : d = 2 ∨ d % 2 = 1
structure Inn (left₀ d left often : Int) : Prop where
  eq : left₀ = d ^ often.toNat * left
def coreP : List (Int × Int) → Int
  | [] => 1
  | x :: r => (if x.2 % 2 = 1 then x.1 else 1) * coreP r
def rootP : List (Int × Int) → Int
  | [] => 1
  | x :: r => x.1 ^ (x.2 / 2).toNat * rootP r
end Pr

namespace Jc
def S (f : Nat → Nat) : Nat → Nat
  | 0 => 0
  | m + 1 => S f m + f (m + 1)
def e (a n k : Nat) : Nat := if n < 2 * (a * k % n) then 1 else 0
def pi (a n k : Nat) : Nat := if n < 2 * (a * k % n) then n - a * k % n else a * k % n
def mu (a n : Nat) : Nat := S (e a n) (n / 2)
structure Ok (a n : Nat) : Prop where
  odd : n % 2 = 1
  cop : Nat.gcd a n = 1
def sg (k : Nat) : Int := if k % 2 = 0 then 1 else -1
def jac (a n : Nat) : Int := if Nat.gcd a n = 1 then sg (mu a n) else 0
def two (n : Nat) : Int := if n % 8 = 3 ∨ n % 8 = 5 then -1 else 1
def turn (a n : Nat) : Int := if a % 4 = 3 ∧ n % 4 = 3 then -1 else 1
end Jc

namespace Jc
@[irreducible] def J (x n : Int) : Int := jac (x % n).toNat n.toNat
def twoI (n : Int) : Int := if n % 8 = 3 ∨ n % 8 = 5 then -1 else 1
def turnI (a n : Int) : Int := if a % 4 = 3 ∧ n % 4 = 3 then -1 else 1
def GG (a b : Int) : Nat := Nat.gcd (a % b).toNat b.toNat
end Jc

namespace Jc
structure Dec (x p l o : Int) : Prop where
  eq : x = p ^ o.toNat * l
  o0 : 0 ≤ o
  nd : ¬ p ∣ l
def odd4 (p o1 l1 o2 l2 : Int) : Int := if o1 % 2 = 1 then (if o2 % 2 = 1 then J (-l1 * l2) p else J l2 p) else (if o2 % 2 = 1 then J l1 p else 1)
def two4 (o1 l1 o2 l2 : Int) : Int := turnI l1 l2 * (if o1 % 2 = 1 then twoI l2 else 1) * (if o2 % 2 = 1 then twoI l1 else 1)
def hs (p o1 l1 o2 l2 : Int) : Int := if p = 2 then two4 o1 l1 o2 l2 else odd4 p o1 l1 o2 l2
end Jc

namespace Jc
def anyZ (p n M c b yp : Nat) : Nat → Bool
  | 0 => false
  | z + 1 => bif anyZ p n M c b yp z then true else bif Nat.ble 1 (yp + z % p) then Nat.testBit M ((c + b * z * z) % n) else false
def anyY (p n M a b k : Nat) : Nat → Bool
  | 0 => false
  | y + 1 => bif anyY p n M a b k y then true else anyZ p n M (a * y * y) b (y % p) k
def fits (p n M a b : Nat) : Bool := anyY p n M a b (n / 2 + 1) (n / 2 + 1)
def ordR (p r : Nat) : Int := if r % p = 0 then 1 else 0
def unitR (p r : Nat) : Int := if r % p = 0 then (r / p : Nat) else (r : Nat)
def hsR (p ra rb : Nat) : Int := hs p (ordR p ra) (unitR p ra) (ordR p rb) (unitR p rb)
def maskOk (n M : Nat) : Bool := (List.range n).all fun r => Nat.testBit M r == (List.range n).any fun x => x * x % n == r
def chkR (p n M ra rb : Nat) : Bool := bif (ra % (p * p) == 0 || rb % (p * p) == 0) then true else bif fits p n M ra rb then decide (hsR p ra rb = 1) else decide (hsR p ra rb = -1)
def chkP (p n M : Nat) : Bool := (List.range n).all fun ra => (List.range n).all fun rb => chkR p n M ra rb
def FitsR (a b : Int) (p n : Nat) : Prop := ∃ y z : Nat, y < n ∧ z < n ∧ 1 ≤ y % p + z % p ∧ ∃ x : Nat, x < n ∧ (x : Int) * x % n = (a * y * y + b * z * z) % n
end Jc

namespace Jc
end Jc

namespace Jc
open Pr (Prm)
end Jc

namespace Pw
@[irreducible] def PM (x : Int) (k : Nat) (n : Int) : Int := x ^ k % n
end Pw

namespace Jc
open Pr (Prm)
def PN (f : Nat → Nat) : Nat → Nat
  | 0 => 1
  | m + 1 => PN f m * f (m + 1)
end Jc

namespace Pl
open Jc
def PL : List Nat := [3, 5, 7, 11, 13, 17, 19, 23, 29, 31, 37, 41, 43, 47, 53, 59, 61, 67, 71, 73, 79, 83, 89, 97, 101, 103, 107, 211, 307, 499, 997]
def chkQ (p : Nat) : Bool := (List.range p).all fun x => (List.range (p / 2 + 1)).any (fun r => r * r % p == x) || x ^ (p / 2) % p == p - 1
def F27 (a b c : Nat) : Bool := [0, 1, 4].any fun x => [0, 1, 4].any fun y => [0, 1, 4].any fun z => (x == 1 || y == 1 || z == 1) && (a * x + b * y + c * z) % 8 == 0
def adm (a b c : Nat) : Bool := (a % 4 != 0) && (b % 4 != 0) && (c % 4 != 0) && !(a % 2 == 0 && b % 2 == 0) && !(b % 2 == 0 && c % 2 == 0) && !(c % 2 == 0 && a % 2 == 0)
def chk2 (a b c : Nat) : Bool := !(adm a b c) || (decide (hsR 2 ((16 - a) * c % 16) ((16 - b) * c % 16) = -1) == !(F27 a b c))
end Pl

namespace Pl
open Pr (Prm Told)
open Jc
structure Pln (a b c : Int) : Prop where
  a0 : a ≠ 0
  b0 : b ≠ 0
  c0 : c ≠ 0
  sa : ∀ p, Prm p → ¬ p * p ∣ a
  sb : ∀ p, Prm p → ¬ p * p ∣ b
  sc : ∀ p, Prm p → ¬ p * p ∣ c
  ab : ∀ p, Prm p → p ∣ a → ¬ p ∣ b
  bc : ∀ p, Prm p → p ∣ b → ¬ p ∣ c
  ca : ∀ p, Prm p → p ∣ c → ¬ p ∣ a
def Rt (x p : Int) : Prop := ∃ r : Int, p ∣ r * r - x
def Fit8 (a b c : Int) : Prop := ∃ x y z : Int, (x % 2 = 1 ∨ y % 2 = 1 ∨ z % 2 = 1) ∧ (a * x * x + b * y * y + c * z * z) % 8 = 0
def Bad (a b c x : Int) : Prop := (x = 0 ∧ ((a < 0 ∧ b < 0 ∧ c < 0) ∨ (0 < a ∧ 0 < b ∧ 0 < c))) ∨ (x = 2 ∧ ¬ Fit8 a b c) ∨
  (Prm x ∧ x ≠ 2 ∧ ((x ∣ a ∧ ¬ Rt (-(b * c)) x) ∨ (x ∣ b ∧ ¬ Rt (-(c * a)) x) ∨ (x ∣ c ∧ ¬ Rt (-(a * b)) x)))
end Pl

namespace Jc
open Pr (Prm)
def noDivs (p : Nat) (m : Nat) : Bool := (List.range m).all fun k => Nat.ble k 1 || !(p % k == 0)
end Jc

namespace Jc
open Pr (Prm)
def HS (p a b v : Int) : Prop := ∃ l1 o1 l2 o2, Dec a p l1 o1 ∧ Dec b p l2 o2 ∧ v = hs p o1 l1 o2 l2
open Classical in
noncomputable def H (p a b : Int) : Int := if h : ∃ v, HS p a b v then choose h else 1
def inf (a b : Int) : Int := if a < 0 ∧ b < 0 then -1 else 1
def PP (f : Int → Int) : List Int → Int
  | [] => 1
  | p :: L => f p * PP f L
noncomputable def W (L : List Int) (a b : Int) : Int := inf a b * PP (fun p => H p a b) L
section
variable {L : List Int}
end
end Jc

namespace Jc
open Pr (Prm)
noncomputable def At0 (a b x : Int) : Int := if x = 0 then inf a b else H x a b
def BadJ (a b c x : Int) : Prop := (x = 0 ∧ ((a < 0 ∧ b < 0 ∧ c < 0) ∨ (0 < a ∧ 0 < b ∧ 0 < c))) ∨ (x = 2 ∧ ¬ Pl.Fit8 a b c) ∨
  (Prm x ∧ x ≠ 2 ∧ ((x ∣ a ∧ J (-(b * c)) x = -1) ∨ (x ∣ b ∧ J (-(c * a)) x = -1) ∨ (x ∣ c ∧ J (-(a * b)) x = -1)))
end Jc

namespace Jc
open Pr (Prm)
def Df (f : Int → Int) : Int → Int := fun x => f (x + 1) - f x
def Dg : Nat → Int → (Int → Int) → Prop
  | 0, c, f => ∀ x, f x = c
  | k + 1, c, f => Dg k (((k : Int) + 1) * c) (Df f)
end Jc

namespace Jc
open Pr (Prm)
structure Sf (n : Int) : Prop where
  n0 : n ≠ 0
  sq : ∀ p, Prm p → ¬ p * p ∣ n
section
variable {a b p x y z : Int}
end
structure Good (a b : Int) : Prop where
  a0 : a ≠ 0
  b0 : b ≠ 0
  i : inf a b = 1
  h : ∀ p, Prm p → H p a b = 1
end Jc

namespace Pn
open Sm Lw
def offs (ps : List P3) : List P3 := ps ++ ps.flatMap fun a => ps.map (ad a)
theorem offs_all {Q : F6} {ps : List P3} (h : ∀ v ∈ offs ps, wo Q v = 0) {a b : P3} (ha : a ∈ ps) (hb : b ∈ ps) : wo Q a = 0 ∧ wo Q b = 0 ∧ bl Q a b = 0 := by
  have h1 := h a (List.mem_append_left _ ha)
  have h2 := h b (List.mem_append_left _ hb)
  have h3 := h (ad a b) (List.mem_append_right _ (List.mem_flatMap.mpr ⟨a, ha, List.mem_map.mpr ⟨b, hb, rfl⟩⟩))
  have h4 := wo_ad Q a b
  exact ⟨h1, h2, by omega⟩
theorem ex_off {Q : F6} {ps : List P3} (h : ¬ ∀ v ∈ offs ps, wo Q v = 0) : ∃ v ∈ offs ps, wo Q v ≠ 0 := by
  apply Classical.byContradiction
  intro c
  exact h fun v hv => Classical.byContradiction fun n => c ⟨v, hv, n⟩
theorem cr_cr (l a b : P3) : cr (cr l a) (cr l b) = tm (rp l (cr a b)) l := by
  simp only [cr, tm, rp, P3.mk.injEq]
  refine ⟨?_, ?_, ?_⟩ <;> grind
theorem off_line {Q : F6} {l : P3} (hs : sz Q ≠ 0) (nl : N3 l) : ∃ v ∈ offs (axs.map (cr l)), wo Q v ≠ 0 := by
  refine ex_off fun h => ?_
  have key : ∀ a ∈ axs, ∀ b ∈ axs, rp l (cr a b) = 0 := fun a ha b hb => by
    apply Classical.byContradiction
    intro c
    obtain ⟨h1, h2, h3⟩ := offs_all h (List.mem_map.mpr ⟨a, ha, rfl⟩) (List.mem_map.mpr ⟨b, hb, rfl⟩)
    refine no_line hs (P := cr l a) (D := cr l b) ?_ h1 h2 h3
    rw [cr_cr]
    rcases nl with n | n | n
    · exact .inl (Int.mul_ne_zero c n)
    · exact .inr (.inl (Int.mul_ne_zero c n))
    · exact .inr (.inr (Int.mul_ne_zero c n))
  have m1 : (⟨1, 0, 0⟩ : P3) ∈ axs := by simp [axs]
  have m2 : (⟨0, 1, 0⟩ : P3) ∈ axs := by simp [axs]
  have m3 : (⟨0, 0, 1⟩ : P3) ∈ axs := by simp [axs]
  have k1 := key _ m1 _ m2
  have k2 := key _ m1 _ m3
  have k3 := key _ m2 _ m3
  simp only [cr, rp] at k1 k2 k3
  unfold N3 at nl
  omega
theorem on_offs {l v : P3} (h : v ∈ offs (axs.map (cr l))) : rp l v = 0 := by
  have e : ∀ a : P3, rp l (cr l a) = 0 := fun a => by
    simp only [rp, cr]
    grind
  have e2 : ∀ a b : P3, rp l (ad a b) = rp l a + rp l b := fun a b => by
    simp only [rp, ad]
    grind
  rcases List.mem_append.mp h with h | h
  · obtain ⟨a, _, rfl⟩ := List.mem_map.mp h
    exact e a
  · obtain ⟨x, hx, h⟩ := List.mem_flatMap.mp h
    obtain ⟨y, hy, rfl⟩ := List.mem_map.mp h
    obtain ⟨a, _, rfl⟩ := List.mem_map.mp hx
    obtain ⟨b, _, rfl⟩ := List.mem_map.mp hy
    rw [e2, e, e]
    rfl
structure Crn (Q : F6) (P R S : P3) : Prop where
  w1 : wo Q P ≠ 0
  w2 : wo Q R ≠ 0
  w3 : wo Q S ≠ 0
  b12 : bl Q P R = 0
  b13 : bl Q P S = 0
  b23 : bl Q R S = 0
  me0 : me ⟨P, R, S⟩ ≠ 0
  prod : 4 * (wo Q P * wo Q R * wo Q S) = sz Q * me ⟨P, R, S⟩ * me ⟨P, R, S⟩
end Pn
namespace Jc
open Pr (Prm)
theorem sq_dvd {A Y : Int} (h : A * A ∣ Y * Y) : A ∣ Y := by
  have h1 := Int.natAbs_dvd_natAbs.mpr h
  rw [Int.natAbs_mul, Int.natAbs_mul] at h1
  have h2 : A.natAbs ^ 2 ∣ Y.natAbs ^ 2 := by rw [Nat.pow_two, Nat.pow_two]; exact h1
  exact Int.natAbs_dvd_natAbs.mp ((Nat.pow_dvd_pow_iff (by decide)).mp h2)
structure Gr (g a b : Int) : Prop where
  pos : 1 ≤ g
  da : g ∣ a
  db : g ∣ b
  all : ∀ p, Prm p → p ∣ a → p ∣ b → p ∣ g
end Jc
namespace Pn
open Sm Lw
end Pn

namespace Pn
open Sm Lw
def gq (F : F6) (m : P3) : Int := -((4 * F.b * F.c - F.d * F.d) * m.x * m.x + (4 * F.a * F.c - F.e * F.e) * m.y * m.y + (4 * F.a * F.b - F.f * F.f) * m.z * m.z + 2 * (F.d * F.e - 2 * F.c * F.f) * m.x * m.y + 2 * (F.f * F.d - 2 * F.b * F.e) * m.x * m.z + 2 * (F.e * F.f - 2 * F.a * F.d) * m.y * m.z)
theorem gq_id (F : F6) (u v : P3) : bl F u v * bl F u v - 4 * (wo F u * wo F v) = gq F (cr u v) := by
  simp only [gq, bl, wo, cr, tb, sl, rp]
  grind
theorem gq_tm (F : F6) (k : Int) (m : P3) : gq F (tm k m) = k * k * gq F m := by
  simp only [gq, tm]
  grind
theorem cr3 (R l T : P3) : cr R (cr l T) = ad (tm (rp T R) l) (tm (-(rp l R)) T) := by
  simp only [cr, ad, tm, rp, P3.mk.injEq]
  refine ⟨?_, ?_, ?_⟩ <;> grind
structure Bas (F : F6) (l R S : P3) : Prop where
  w : wo F R ≠ 0
  nl : N3 l
  lR : rp l R = 0
  lS : rp l S = 0
  b : bl F R S = 0
  s : N3 S
  d : ∃ d, d ≠ 0 ∧ tm d (cr R S) = tm (2 * wo F R) l
theorem tm_nz {k : Int} {P : P3} (hk : k ≠ 0) (h : N3 P) : N3 (tm k P) := by
  rcases h with n | n | n
  · exact .inl (Int.mul_ne_zero hk n)
  · exact .inr (.inl (Int.mul_ne_zero hk n))
  · exact .inr (.inr (Int.mul_ne_zero hk n))
theorem n3_tm {k : Int} {P : P3} (h : N3 (tm k P)) : k ≠ 0 ∧ N3 P := by
  unfold N3 tm at *
  simp only at h
  refine ⟨fun z => ?_, ?_⟩
  · subst z; simp at h
  · rcases h with h | h | h
    · exact .inl fun z => h (by rw [z, Int.mul_zero])
    · exact .inr (.inl fun z => h (by rw [z, Int.mul_zero]))
    · exact .inr (.inr fun z => h (by rw [z, Int.mul_zero]))
theorem pol_cr {F : F6} {l R : P3} (lR : rp l R = 0) : cr R (cr l (tb (sl F) R)) = tm (2 * wo F R) l := by
  have z := wo_two F R
  unfold bl at z
  rw [cr3, z, lR]
  simp only [ad, tm, P3.mk.injEq]
  refine ⟨?_, ?_, ?_⟩ <;> omega
theorem pol_nz {F : F6} {l R : P3} (w : wo F R ≠ 0) (nl : N3 l) (lR : rp l R = 0) : N3 (cr l (tb (sl F) R)) := by
  apply Classical.byContradiction
  intro c
  have h := pol_cr (F := F) lR
  have h2 := tm_nz (show 2 * wo F R ≠ 0 by omega) nl
  rw [← h, n3_not c] at h2
  unfold N3 cr at h2
  simp at h2
theorem bas_of {F : F6} {l R S : P3} {d : Int} (w : wo F R ≠ 0) (nl : N3 l) (lR : rp l R = 0) (hd : d ≠ 0) (e : cr l (tb (sl F) R) = tm d S) : Bas F l R S := by
  have n := pol_nz w nl lR
  have h := pol_cr (F := F) lR
  rw [e] at n h
  have e1 : cr R (tm d S) = tm d (cr R S) := by
    simp only [cr, tm, P3.mk.injEq]
    refine ⟨?_, ?_, ?_⟩ <;> grind
  have z1 : ∀ u, rp u (tm d S) = d * rp u S := fun u => by
    simp only [rp, tm]
    grind
  refine ⟨w, nl, lR, ?_, ?_, (n3_tm n).2, d, hd, by rw [← e1, h]⟩
  · have : rp l (tm d S) = 0 := by
      rw [← e]
      simp only [rp, cr]
      grind
    rw [z1] at this
    exact mul_cancel this hd
  · have : rp (tb (sl F) R) (tm d S) = 0 := by
      rw [← e]
      generalize tb (sl F) R = T
      simp only [rp, cr]
      grind
    rw [z1] at this
    exact mul_cancel this hd
def Sqr (g : Int) : Prop := ∃ a b, a ≠ 0 ∧ a * a * g = b * b
def sqr (F : F6) (R S : P3) : Int := -(wo F R) * wo F S
theorem Bas.disc {F : F6} {l R S : P3} (B : Bas F l R S) : ∃ d, d ≠ 0 ∧ d * d * sqr F R S = wo F R * wo F R * gq F l := by
  obtain ⟨d, hd, e⟩ := B.d
  refine ⟨d, hd, ?_⟩
  have h1 := gq_id F R S
  have h2 := gq_tm F d (cr R S)
  rw [e, gq_tm, ← h1, B.b] at h2
  unfold sqr
  grind
def On (F : F6) (l X : P3) : Prop := L3 X ∧ rp l X = 0 ∧ wo F X = 0
theorem rp_mix (l R S : P3) (i j : Int) : rp l (ad (tm i R) (tm j S)) = i * rp l R + j * rp l S := by
  simp only [rp, ad, tm]
  grind
theorem Bas.ends {F : F6} {l R S : P3} (B : Bas F l R S) {r : Int} (hr : r * r = sqr F R S) : N3 (ad (tm r R) (tm (wo F R) S)) ∧ rp l (ad (tm r R) (tm (wo F R) S)) = 0 ∧ wo F (ad (tm r R) (tm (wo F R) S)) = 0 := by
  refine ⟨?_, by rw [rp_mix, B.lR, B.lS]; omega, ?_⟩
  · apply Classical.byContradiction
    intro c
    have c0 := n3_not c
    have z := wo_two F R
    have h1 : rp (tb (sl F) R) (ad (tm r R) (tm (wo F R) S)) = r * (2 * wo F R) := by
      rw [rp_mix]
      have b := B.b
      unfold bl at z b
      rw [z, b]
      omega
    rw [c0] at h1
    have h2 : r * (2 * wo F R) = 0 := by
      rw [← h1]
      simp [rp]
    have r0 : r = 0 := (Int.mul_eq_zero.mp h2).resolve_right (by have := B.w; omega)
    subst r0
    have : ad (tm 0 R) (tm (wo F R) S) = tm (wo F R) S := by
      simp only [ad, tm, P3.mk.injEq]
      refine ⟨?_, ?_, ?_⟩ <;> omega
    rw [this] at c
    exact c (tm_nz B.w B.s)
  · rw [wo_mix, B.b]
    unfold sqr at hr
    grind
theorem Bas.all {F : F6} {l R S X : P3} (B : Bas F l R S) (h : On F l X) : ∃ c k j : Int, k ≠ 0 ∧ c * c = sqr F R S ∧ tm k X = tm j (ad (tm c R) (tm (wo F R) S)) ∧ (bl F R X = 0 → c = 0) := by
  obtain ⟨hX, lX, wX⟩ := h
  obtain ⟨d, hd, e⟩ := B.d
  have nc : N3 (cr R S) := by
    have := tm_nz (show 2 * wo F R ≠ 0 by have := B.w; omega) B.nl
    rw [← e] at this
    exact (n3_tm this).2
  have on : rp (cr R S) X = 0 := by
    have h1 : rp (tm d (cr R S)) X = d * rp (cr R S) X := by
      simp only [rp, tm]
      grind
    have h2 : rp (tm (2 * wo F R) l) X = 2 * wo F R * rp l X := by
      simp only [rp, tm]
      grind
    rw [e, h2, lX, Int.mul_zero] at h1
    exact mul_cancel h1.symm hd
  obtain ⟨k, i, j, hk, e1⟩ := on_line nc on
  have h1 : wo F (tm k X) = 0 := by rw [wo_tm, wX, Int.mul_zero]
  rw [e1, wo_mix, B.b] at h1
  have j0 : j ≠ 0 := fun z => by
    subst z
    have h2 : i * i * wo F R = 0 := by omega
    have h3 : i * i = 0 := (Int.mul_eq_zero.mp h2).resolve_right B.w
    have i0 : i = 0 := by rcases Int.mul_eq_zero.mp h3 with h | h <;> exact h
    subst i0
    have := tm_nz hk hX.n3
    rw [e1] at this
    unfold N3 ad tm at this
    simp at this
  have h2 : (i * wo F R) * (i * wo F R) = j * j * sqr F R S := by
    unfold sqr
    grind
  obtain ⟨c, hc⟩ := Jc.sq_dvd (A := j) (Y := i * wo F R) ⟨_, h2⟩
  have h3 : c * c = sqr F R S := by
    rw [hc] at h2
    have h4 : j * j * (c * c) = j * j * sqr F R S := by rw [← h2]; grind
    exact Int.eq_of_mul_eq_mul_left (Int.mul_ne_zero j0 j0) h4
  refine ⟨c, k * wo F R, j, Int.mul_ne_zero hk B.w, h3, ?_, fun hb => ?_⟩
  · have : tm (k * wo F R) X = tm (wo F R) (tm k X) := by
      simp only [tm, P3.mk.injEq]
      refine ⟨?_, ?_, ?_⟩ <;> grind
    rw [this, e1]
    simp only [ad, tm, P3.mk.injEq]
    refine ⟨?_, ?_, ?_⟩ <;> grind
  · have z := wo_two F R
    have h5 : rp (tb (sl F) R) (tm k X) = i * (2 * wo F R) := by
      rw [e1, rp_mix]
      have b := B.b
      unfold bl at z b
      rw [z, b]
      omega
    have h6 : rp (tb (sl F) R) (tm k X) = k * bl F R X := by
      unfold bl
      generalize tb (sl F) R = T
      simp only [rp, tm]
      grind
    rw [hb] at h6
    have i0 : i = 0 := (Int.mul_eq_zero.mp (show i * (2 * wo F R) = 0 by omega)).resolve_right (by have := B.w; omega)
    subst i0
    have : j * c = 0 := by rw [← hc]; omega
    exact mul_cancel this j0
theorem Bas.two {F : F6} {l R S P P' : P3} {r e e' : Int} (B : Bas F l R S) (hr : r * r = sqr F R S) (hP : L3 P) (hP' : L3 P') (he : e ≠ 0) (he' : e' ≠ 0)
    (q : ad (tm r R) (tm (wo F R) S) = tm e P) (q' : ad (tm (-r) R) (tm (wo F R) S) = tm e' P') (X : P3) : On F l X ↔ X = P ∨ X = P' := by
  have hr' : (-r) * (-r) = sqr F R S := by rw [← hr]; grind
  have s : ∀ {u : Int} {Y : P3} {f : Int}, u * u = sqr F R S → L3 Y → f ≠ 0 → ad (tm u R) (tm (wo F R) S) = tm f Y → On F l Y := fun {u Y f} hu hY hf ey => by
    obtain ⟨_, h2, h3⟩ := B.ends hu
    rw [ey] at h2 h3
    refine ⟨hY, ?_, wo_of_tm hf h3⟩
    have : rp l (tm f Y) = f * rp l Y := by
      simp only [rp, tm]
      grind
    rw [this] at h2
    exact mul_cancel h2 hf
  constructor
  · intro h
    obtain ⟨c, k, j, hk, hc, e1, _⟩ := B.all h
    have : c = r ∨ c = -r := by
      have : (c - r) * (c + r) = 0 := by
        have := hc.trans hr.symm
        grind
      rcases Int.mul_eq_zero.mp this with z | z
      · left; omega
      · right; omega
    have tt : ∀ (j f : Int) (Y : P3), tm j (tm f Y) = tm (j * f) Y := fun j f Y => by
      simp only [tm, P3.mk.injEq]
      refine ⟨?_, ?_, ?_⟩ <;> grind
    rcases this with rfl | rfl
    · left
      rw [q, tt] at e1
      exact low_tm h.1 hP hk e1
    · right
      rw [q', tt] at e1
      exact low_tm h.1 hP' hk e1
  · rintro (rfl | rfl)
    · exact s hr hP he q
    · exact s hr' hP' he' q'
theorem Bas.same {F : F6} {l R S P P' : P3} {r e e' : Int} (B : Bas F l R S) (he : e ≠ 0) (he' : e' ≠ 0) (hP : L3 P) (hP' : L3 P')
    (q : ad (tm r R) (tm (wo F R) S) = tm e P) (q' : ad (tm (-r) R) (tm (wo F R) S) = tm e' P') : P = P' ↔ r = 0 := by
  constructor
  · rintro rfl
    have z := wo_two F R
    have b := B.b
    unfold bl at z b
    have hm : ∀ u : Int, rp (tb (sl F) R) (ad (tm u R) (tm (wo F R) S)) = u * (2 * wo F R) := fun u => by
      rw [rp_mix, z, b]
      omega
    have h1 := hm r
    have h2 := hm (-r)
    rw [q] at h1
    rw [q'] at h2
    have z1 : ∀ (f : Int) (u : P3), rp u (tm f P) = f * rp u P := fun f u => by
      simp only [rp, tm]
      grind
    rw [z1] at h1 h2
    apply Classical.byContradiction
    intro c
    have w := B.w
    generalize rp (tb (sl F) R) P = t at *
    have h3 : t * (e + e') = 0 := by grind
    have t0 : t ≠ 0 := fun z => by
      subst z
      have : r * (2 * wo F R) = 0 := by omega
      exact c ((Int.mul_eq_zero.mp this).resolve_right (by omega))
    have ee : e' = -e := by have := mul_cancel h3 t0; omega
    subst ee
    simp only [ad, tm, P3.mk.injEq] at q q'
    have k : ∀ a s p : Int, r * a + wo F R * s = e * p → -r * a + wo F R * s = -e * p → s = 0 := fun a s p h1 h2 => by
      have : 2 * wo F R * s = 0 := by grind
      exact (Int.mul_eq_zero.mp this).resolve_left (by omega)
    have s := B.s
    unfold N3 at s
    have := k _ _ _ q.1 q'.1
    have := k _ _ _ q.2.1 q'.2.1
    have := k _ _ _ q.2.2 q'.2.2
    omega
  · rintro rfl
    rw [show -(0 : Int) = 0 from rfl] at q'
    rw [q] at q'
    exact low_tm hP hP' he q'
theorem Bas.none {F : F6} {l R S : P3} (B : Bas F l R S) (h : ¬ ∃ r, r * r = sqr F R S) : ¬ Sqr (gq F l) ∧ ∀ X, ¬ On F l X := by
  refine ⟨fun ⟨a, b, ha, e⟩ => ?_, fun X hX => let ⟨c, _, _, _, hc, _⟩ := B.all hX; h ⟨c, hc⟩⟩
  obtain ⟨d, hd, q⟩ := B.disc
  have h1 : (a * d) * (a * d) * sqr F R S = (wo F R * b) * (wo F R * b) := by grind
  obtain ⟨c, hc⟩ := Jc.sq_dvd (A := a * d) (Y := wo F R * b) ⟨_, h1.symm⟩
  refine h ⟨c, ?_⟩
  rw [hc] at h1
  refine Int.eq_of_mul_eq_mul_left (Int.mul_ne_zero (Int.mul_ne_zero ha hd) (Int.mul_ne_zero ha hd)) ?_
  grind
theorem Bas.sq {F : F6} {l R S : P3} {r : Int} (B : Bas F l R S) (hr : r * r = sqr F R S) : Sqr (gq F l) ∧ (gq F l = 0 ↔ r = 0) := by
  obtain ⟨d, hd, q⟩ := B.disc
  refine ⟨⟨wo F R, d * r, B.w, by rw [← q, ← hr]; grind⟩, fun z => ?_, fun z => ?_⟩
  · rw [z, ← hr] at q
    have h1 : (d * r) * (d * r) = 0 := by grind
    have h2 : d * r = 0 := by rcases Int.mul_eq_zero.mp h1 with h | h <;> exact h
    exact mul_cancel h2 hd
  · subst z
    rw [← hr] at q
    have h1 : wo F R * wo F R * gq F l = 0 := by omega
    exact mul_cancel h1 (Int.mul_ne_zero B.w B.w)
def lt3 (P R : P3) : Prop := P.x < R.x ∨ (P.x = R.x ∧ (P.y < R.y ∨ (P.y = R.y ∧ P.z < R.z)))
theorem lt3_irr (P : P3) : ¬ lt3 P P := by unfold lt3; omega
theorem lt3_asym {P R : P3} (h : lt3 P R) : ¬ lt3 R P := by unfold lt3 at *; omega
inductive Met (F : F6) (l : P3) : List P3 → Prop where
  | none : ¬ Sqr (gq F l) → (∀ X, ¬ On F l X) → Met F l []
  | one {P : P3} : gq F l = 0 → (∀ X, On F l X ↔ X = P) → Met F l [P]
  | two {P R : P3} : Sqr (gq F l) → gq F l ≠ 0 → lt3 P R → (∀ X, On F l X ↔ X = P ∨ X = R) → Met F l [P, R]
theorem Met.on {F : F6} {l : P3} {ps : List P3} (h : Met F l ps) (X : P3) : On F l X ↔ X ∈ ps := by
  cases h with
  | none _ h => simp [h X]
  | one _ h => simp [h X]
  | two _ _ _ h => simp [h X]
theorem Met.uniq {F : F6} {l l' : P3} {ps ps' : List P3} (h : Met F l ps) (h' : Met F l' ps') (e : ∀ X, On F l X ↔ On F l' X) : ps = ps' := by
  have m : ∀ X, X ∈ ps ↔ X ∈ ps' := fun X => (h.on X).symm.trans ((e X).trans (h'.on X))
  cases h with
  | none _ _ =>
    cases h' with
    | none _ _ => rfl
    | one _ _ => exact absurd ((m _).mpr (.head _)) (by simp)
    | two _ _ _ _ => exact absurd ((m _).mpr (.head _)) (by simp)
  | @one P _ _ =>
    cases h' with
    | none _ _ => exact absurd ((m _).mp (.head _)) (by simp)
    | one _ _ =>
      have := (m P).mp (.head _)
      simp at this
      rw [this]
    | @two A B _ _ lt _ =>
      have h1 := (m A).mpr (.head _)
      have h2 := (m B).mpr (.tail _ (.head _))
      simp at h1 h2
      rw [h1, h2] at lt
      exact absurd lt (lt3_irr _)
  | @two A B _ _ lt _ =>
    cases h' with
    | none _ _ => exact absurd ((m _).mp (.head _)) (by simp)
    | @one P _ _ =>
      have h1 := (m A).mp (.head _)
      have h2 := (m B).mp (.tail _ (.head _))
      simp at h1 h2
      rw [h1, h2] at lt
      exact absurd lt (lt3_irr _)
    | @two C D _ _ lt' _ =>
      have h1 := (m A).mp (.head _)
      have h2 := (m B).mp (.tail _ (.head _))
      simp at h1 h2
      rcases h1 with rfl | rfl <;> rcases h2 with rfl | rfl
      · exact absurd lt (lt3_irr _)
      · rfl
      · exact absurd lt (lt3_asym lt')
      · exact absurd lt (lt3_irr _)
theorem on_tm {F : F6} {l X : P3} {k : Int} (hk : k ≠ 0) : On F (tm k l) X ↔ On F l X := by
  have : rp (tm k l) X = k * rp l X := by
    simp only [rp, tm]
    grind
  unfold On
  rw [this]
  exact ⟨fun ⟨a, b, c⟩ => ⟨a, mul_cancel b hk, c⟩, fun ⟨a, b, c⟩ => ⟨a, by rw [b, Int.mul_zero], c⟩⟩
def cnt (u : Int) (c : Int) : Prop := (u = 0 ∧ c = 1) ∨ (u < 0 ∧ c = 0) ∨ (0 < u ∧ (∃ h, 0 ≤ h ∧ h * h = u) ∧ c = 2) ∨ (0 < u ∧ (¬ ∃ h, h * h = u) ∧ c = 0)
theorem Met.cnt {F : F6} {l : P3} {ps : List P3} {k u : Int} (h : Met F l ps) (hk : k ≠ 0) (e : u = k * k * gq F l) : Pn.cnt u ps.length := by
  cases h with
  | one z _ => exact .inl ⟨by rw [e, z, Int.mul_zero], rfl⟩
  | none ns _ =>
    have u0 : u ≠ 0 := fun z => ns ⟨k, 0, hk, by rw [← e, z]; rfl⟩
    by_cases c : u < 0
    · exact .inr (.inl ⟨c, rfl⟩)
    · exact .inr (.inr (.inr ⟨by omega, fun ⟨h, eh⟩ => ns ⟨k, h, hk, by rw [← e, eh]⟩, rfl⟩))
  | two s g0 _ _ =>
    obtain ⟨a, b, ha, q⟩ := s
    have h1 : a * a * u = (k * b) * (k * b) := by rw [e]; grind
    obtain ⟨c, hc⟩ := Jc.sq_dvd (A := a) (Y := k * b) ⟨_, h1.symm⟩
    have h2 : c * c = u := by
      rw [hc] at h1
      exact Int.eq_of_mul_eq_mul_left (Int.mul_ne_zero ha ha) (by grind)
    have u0 : u ≠ 0 := by rw [e]; exact Int.mul_ne_zero (Int.mul_ne_zero hk hk) g0
    have un : 0 ≤ u := by
      rw [← h2]
      rcases Int.le_total 0 c with z | z
      · exact Int.mul_nonneg z z
      · exact Int.mul_nonneg_of_nonpos_of_nonpos z z
    refine .inr (.inr (.inl ⟨by omega, ?_, rfl⟩))
    rcases Int.le_total 0 c with z | z
    · exact ⟨c, z, h2⟩
    · exact ⟨-c, by omega, by rw [← h2]; grind⟩
theorem Met.pair {F : F6} {l X Y : P3} {ps : List P3} (h : Met F l ps) (hX : On F l X) (hY : On F l Y) (lt : lt3 X Y) : ps = [X, Y] := by
  have m1 := (h.on X).mp hX
  have m2 := (h.on Y).mp hY
  cases h with
  | none _ _ => simp at m1
  | one _ _ =>
    simp at m1 m2
    rw [m1, m2] at lt
    exact absurd lt (lt3_irr _)
  | two _ _ lt' _ =>
    simp at m1 m2
    rcases m1 with rfl | rfl <;> rcases m2 with rfl | rfl
    · exact absurd lt (lt3_irr _)
    · rfl
    · exact absurd lt (lt3_asym lt')
    · exact absurd lt (lt3_irr _)
end Pn

namespace Pn
open Sm Lw
structure In100 (F : F6) : Prop where
  (a : F.a.natAbs ≤ 100) (b : F.b.natAbs ≤ 100) (c : F.c.natAbs ≤ 100) (d : F.d.natAbs ≤ 100) (e : F.e.natAbs ≤ 100) (f : F.f.natAbs ≤ 100)
def offF (F : F6) (ps : List P3) : Option P3 := (offs ps).find? fun v => wo F v != 0
theorem offF_ex {F : F6} {ps : List P3} (h : ∃ v ∈ offs ps, wo F v ≠ 0) : ∃ v, offF F ps = some v := by
  obtain ⟨v, hv, n⟩ := h
  have : (offF F ps).isSome = true := List.find?_isSome.mpr ⟨v, hv, by simpa using n⟩
  exact Option.isSome_iff_exists.mp this
theorem offF_nz {F : F6} {ps : List P3} {v : P3} (h : offF F ps = some v) : wo F v ≠ 0 := by
  have := List.find?_some h
  simpa using this
theorem offF_mem {F : F6} {ps : List P3} {v : P3} (h : offF F ps = some v) : v ∈ offs ps := List.mem_of_find?_eq_some h
structure Fst (F : F6) (P l : P3) : Prop where
  w0 : wo F P ≠ 0
  w : (wo F P).natAbs ≤ 100
  px : P.x.natAbs ≤ 1
  py : P.y.natAbs ≤ 1
  pz : P.z.natAbs ≤ 1
  lx : l.x.natAbs ≤ 200
  ly : l.y.natAbs ≤ 200
  lz : l.z.natAbs ≤ 200
  xy : l.x.natAbs + l.y.natAbs ≤ 300
  xz : l.x.natAbs + l.z.natAbs ≤ 300
  yz : l.y.natAbs + l.z.natAbs ≤ 300
end Pn
namespace Jc
open Pr
structure Cc (a b c : Int) : Prop where
  sf : Sf c
  sq : ∃ g, g ≠ 0 ∧ a * b = c * (g * g)
  dv : ∀ p, Prm p → p ∣ c → p ∣ a ∨ p ∣ b
end Jc

namespace L2
open PySem PySem.Spec PyProof.Rows

def cxC (X : Cx) (N : List Str) (scope : Scope) (cl : List (Str × Addr)) (C : Addr) (s0 : Shared) (H0 : Hp) (fp : List Addr) (pins : List (Addr × Obj)) : Cx :=
  { X with N := N, s₀ := s0, H₀ := H0, env := compEnvC scope cl C X.env, outer := X.stack, ex := fp, fn := fun _ => false, pn := X.pn ++ pins, xe := fun _ _ => False }
structure CompScope (X : Cx) (N : List Str) (fr : List Nat) (x : Str) (scope : Scope) (cl : List (Str × Addr)) : Prop where
  kind : scope.kind = .function
  nocell : ∀ y ∈ scope.names, y.2 ≠ .cell
  loc : ∀ y ∈ scope.names, y.2 = .local → scope.names.lookup y.1 = some .local
  own : scope.names.lookup x = some .local
  clos : closureFor scope X.env = pure cl
  sub : ∀ y c, cl.lookup y = some c → X.env.cells.lookup y = some c
  has : ∀ y, ((relabel scope X.env).names.lookup y = some .cell ∨ (relabel scope X.env).names.lookup y = some .free) → ∃ c, cl.lookup y = some c
  nd : N.Nodup
  hN : N[0]? = some x
  len : N.length = fr.length + 1
  ownOnly : ∀ (j : Nat) (y : Str), N[j + 1]? = some y → (relabel scope X.env).names.lookup y ≠ some .local
  out : ∀ (j k : Nat), fr[j]? = some k → ∃ y, N[j + 1]? = some y ∧ X.N[k]? = some y ∧ X.env.kindOf y = some .cell
def compSt (σ : St) (fr : List Nat) (v : Option V) : St := v :: fr.map fun k => (σ[k]?).join
def tComp (wi : TI) (fr : List Nat) (te : TE) : TE := fun σ H Q => wi σ H fun J H1 => ∀ acc, H1 acc = none → ∃ W : Nat → Nat → Hp → List V → Prop, (∃ m, W 0 m (upd H1 acc (.lst [])) []) ∧
  ∀ i m H' vs, W i m H' vs → H' acc = some (.lst vs) ∧ ((J.stop i H' ∧ Q (.ref acc) H') ∨ (J.go i H' ∧ vs.length < sizeLine ∧ ∀ x H2, J.yld i H' x H2 → te (compSt σ fr (some x)) H2 fun y H3 => H3 acc = some (.lst vs) ∧ ∃ m', m' < m ∧ W (i + 1) m' (upd H3 acc (.lst (vs ++ [y]))) (vs ++ [y])))
def tCompIf (wi : TI) (fr : List Nat) (tc : TT) (te : TE) : TE := fun σ H Q => wi σ H fun J H1 => ∀ acc, H1 acc = none → ∃ W : Nat → Nat → Hp → List V → Prop, (∃ m, W 0 m (upd H1 acc (.lst [])) []) ∧
  ∀ i m H' vs, W i m H' vs → H' acc = some (.lst vs) ∧ ((J.stop i H' ∧ Q (.ref acc) H') ∨ (J.go i H' ∧ vs.length < sizeLine ∧ ∀ x H2, J.yld i H' x H2 → tc (compSt σ fr (some x)) H2 fun b H3 =>
    if b = true then te (compSt σ fr (some x)) H3 fun y H4 => H4 acc = some (.lst vs) ∧ ∃ m', m' < m ∧ W (i + 1) m' (upd H4 acc (.lst (vs ++ [y]))) (vs ++ [y]) else ∃ m', m' < m ∧ W (i + 1) m' H3 vs))
section
variable {X : Cx} {N : List Str} {fr : List Nat} {x : Str} {scope : Scope} {cl : List (Str × Addr)} {elt iter : Expr} {px pos : Pos} {wi : TI} {te : TE}
theorem cxC_ok {pins : List (Addr × Obj)} {σ : St} {H : Hp} {s : Shared} {fp : List Addr} {C : Addr} (S : CompScope X N fr x scope cl) (I : Inv X pins σ H s) (hf : ∀ b ∈ fp, FpOk X pins H b) (hC : s.heap.objs.size ≤ C) (hfl : ∀ b ∈ fp, b < s.heap.objs.size) : (cxC X N scope cl C s H fp pins).Ok where
  mod := I.ok.mod
  kind := S.kind
  glob := I.ok.glob
  blt := I.ok.blt
  above := hC
  inj := fun y z c h1 h2 => I.ok.inj y z c (S.sub _ _ h1) (S.sub _ _ h2)
  has := fun y h => S.has y h
  cab := fun y c h => by cases h
  hd := I.ok.hd
  hs := I.ok.hs
  frames := I.ok.frames
  stk := .inl rfl
  exf := fun b hb => ⟨Nat.ne_of_lt (Nat.lt_of_lt_of_le (hfl b hb) hC), fun y c h => (hf b hb).2.2.2.2.1 y c (S.sub _ _ h)⟩
  bs := fun b o e => I.bs b o e
  bsz := Nat.le_trans I.ok.bsz I.sz
  noex := fun b o e hb => by
    rcases (hf b hb).2.2.2.1 with z | z
    · exact I.ok.noex b o e z
    · exact absurd (Nat.lt_of_lt_of_le (Heap.lt_size e) (Nat.le_trans I.ok.bsz z)) (Nat.lt_irrefl _)
  exfs := fun b hb z => by
    rcases List.mem_cons.mp (I.stkSub b z) with e | e
    · exact (hf b hb).2.1 e
    · exact (hf b hb).2.2.1 e
  funs := I.stack
  frf := I.stkFree
theorem cxC_start {pins : List (Addr × Obj)} {σ : St} {H : Hp} {s s4 : Shared} {fp : List Addr} {C : Addr} {m : Str → Option Value} (S : CompScope X N fr x scope cl) (I : Inv X pins σ H s) (hf : ∀ b ∈ fp, FpOk X pins H b) (hC : s.heap.objs.size ≤ C) (hfl : ∀ b ∈ fp, b < s.heap.objs.size)
    (hn : s4.heap.Ns C m) (hk : ∀ b o, s.heap.get? b = some o → s4.heap.get? b = some o) (ho : s4.os = s.os) (hg : s4.gens = s.gens) : Inv (cxC X N scope cl C s H fp pins) [] (compSt σ fr none) H s4 := by
  obtain ⟨m0, hn0, hl⟩ := id I.loc
  refine ⟨cxC_ok S I hf hC hfl, I.fzs, ho, by rw [hg]; exact I.bare, Un.kept hk, ⟨m, hn, fun i y v e1 e2 e3 => ?_⟩, fun y c h => ?_, I.hok.fresh hC, fun y c h => I.freeC y c (S.sub _ _ h), fun p hp => ?_, I.hok.kept hk, ?_⟩
  · cases i with
    | zero => cases e2
    | succ j =>
      have e2' : (fr.map fun k => (σ[k]?).join)[j]? = some (some v) := e2
      rw [List.getElem?_map] at e2'
      cases ek : fr[j]? with
      | none => rw [ek] at e2'; cases e2'
      | some k =>
        rw [ek] at e2'
        have e4 : (σ[k]?).join = some v := Option.some.inj e2'
        obtain ⟨y', h1, h2, h3⟩ := S.out j k ek
        have e1' : N[j + 1]? = some y := e1
        obtain rfl : y' = y := Option.some.inj (h1.symm.trans e1')
        have e5 : σ[k]? = some (some v) := by
          cases q : σ[k]? with
          | none => rw [q] at e4; cases e4
          | some w => rw [q] at e4; exact congrArg some e4
        obtain ⟨u, r, lk⟩ := hl k y' v h2 e5 (.inr (.inl h3))
        refine ⟨u, r, .inr ?_⟩
        rcases lk with ⟨z, _⟩ | ⟨_, c, hc, hcell⟩
        · rw [h3] at z; cases z
        · have e6 : Vis (relabel scope X.env) y' := e3
          have hk2 : (relabel scope X.env).names.lookup y' = some .cell ∨ (relabel scope X.env).names.lookup y' = some .free := by
            rcases e6 with e6 | e6 | e6
            · exfalso
              have nd := S.nd
              -- a name of the block's own is the first one
              exact S.ownOnly _ _ h1 e6
            · exact .inl e6
            · exact .inr e6
          obtain ⟨c2, hc2⟩ := S.has y' hk2
          have := S.sub _ _ hc2
          rw [hc] at this; cases this
          obtain ⟨o, z1, z2⟩ := hcell
          exact ⟨hk2, c, hc2, o, hk _ _ z1, z2⟩
  · obtain ⟨v, o, z1, z2⟩ := I.cell y c (S.sub _ _ h)
    exact ⟨v, o, hk _ _ z1, z2⟩
  · rw [List.append_nil] at hp
    obtain ⟨e, k, ne, nf, d⟩ := I.pin p hp
    refine ⟨hk _ _ e, k, Nat.ne_of_lt (Nat.lt_of_lt_of_le (Heap.lt_size e) hC), fun z => ?_, d⟩
    rcases List.mem_cons.mp (I.stkSub _ z) with q | q
    · exact ne q
    · exact nf q
  · show (compSt σ fr none).length = N.length
    rw [S.len]
    simp [compSt]
theorem cxC_end {pins : List (Addr × Obj)} {σ σ' : St} {H H' : Hp} {s s' : Shared} {fp : List Addr} {C : Addr} {h' : Heap} (I : Inv X pins σ H s) (hf : ∀ b ∈ fp, FpOk X pins H b) (hC : s.heap.objs.size ≤ C) (J : Inv (cxC X N scope cl C s H fp pins) [] σ' H' s') (hs : Heap.SameBut C s'.heap h') :
    Inv X pins σ H' { s' with heap := h' } := by
  have ne : ∀ b o, s.heap.get? b = some o → b ≠ C := fun b o e => Nat.ne_of_lt (Nat.lt_of_lt_of_le (Heap.lt_size e) hC)
  have u : Un (frs X.stack) fp H H' s.heap s'.heap := J.base
  have u2 : Un (frs X.stack) fp H H' s.heap h' := ⟨fun b o e n hb hx => (hs.2 b (ne b o e)).trans (u.keep b o e n hb hx), fun b o e n hb hx => (by
      obtain ⟨sl, q⟩ := u.slot b o e n hb hx
      exact ⟨sl, (hs.2 b (ne b o e)).trans q⟩), u.free, fun b o e hx => (by
      obtain ⟨o', q⟩ := u.there b o e hx
      exact ⟨o', (hs.2 b (ne b o e)).trans q⟩), u.tups, u.frzs, u.tbls⟩
  have nC : H' C = none := J.free
  refine I.call' (s' := { s' with heap := h' }) (ch := fp) J.os u2 (J.hok.onward fun b o hb q => (hs.2 b fun z => hb (z ▸ nC)).trans q) J.bare fun b hb => ?_
  obtain ⟨_, f2, _, f4, f5, f6⟩ := hf b hb
  exact ⟨f4, f2, f5, f6⟩
def PTs (X : Cx) (ifs : List Expr) (t : TT) : Prop :=
  ∀ (pins : List (Addr × Obj)) (s : Shared) (σ : St) (H : Hp) (Q : Bool → Hp → Prop), Inv X pins σ H s → t σ H Q → wpAny (model X.prog X.w) X.A (forIn ifs true fun c r => if r = true then do let ok ← PySem.isTrue c X.env (eval c X.env); pure (ForInStep.yield ok) else pure (ForInStep.yield r)) (TP X pins σ Q) X.xe s
theorem pts_one {X : Cx} {c : Expr} {t : TT} (h : PT X c t) : PTs X [c] t := fun pins s σ H Q I q => wpAny_tests_one (h pins s σ H Q I q)
theorem pts_nil {X : Cx} : PTs X [] (fun _ H Q => Q true H) := fun pins s σ H Q I q => by
  show wpAny _ _ (pure true) _ _ _
  exact wpAny_pure ⟨H, I, q⟩
theorem comp_core {ifs : List Expr} {tc : TT} {use : Option (Value → Sem Unit)} {R : Value → Shared → Prop} {Q : VK} {pins : List (Addr × Obj)} {s : Shared} {σ : St} {H : Hp} {ep : Pos} (hc : X.still = true) (S : CompScope X N fr x scope cl) (hi : PI X (.Name x px) iter wi)
    (ht : ∀ (C : Addr) (s0 : Shared) (H0 : Hp) (fp : List Addr) (pins : List (Addr × Obj)), PTs (cxC X N scope cl C s0 H0 fp pins) ifs tc) (he : ∀ (C : Addr) (s0 : Shared) (H0 : Hp) (fp : List Addr) (pins : List (Addr × Obj)), PE (cxC X N scope cl C s0 H0 fp pins) elt te)
    (hs : ∀ y, foldedSetIterable iter X.env y = pure y) (I : Inv X pins σ H s) (h : tCompIf wi fr tc te σ H Q)
    (fin : ∀ (acc C : Addr) (m : Str → Option Value) (H6 : Hp) (s7 : Shared), Q (.ref acc) H6 → s7.heap.Ns C m → (∀ h' : Heap, Heap.SameBut C s7.heap h' → Inv X pins σ H6 { s7 with heap := h' }) → H6 C = none → X.env.locals ≠ C → (∀ z c, X.env.cells.lookup z = some c → c ≠ C) → (∀ p ∈ X.pn ++ pins, p.1 ≠ C) → X.s₀.heap.objs.size ≤ C → compPost (model X.prog X.w) X.A X.xe use R (.ref acc) C (.ok .next) s7) :
    wpAny (model X.prog X.w) X.A (comprehension (.ListComp elt [⟨.Name x px, iter, ifs, 0⟩] scope pos) scope X.env ep (newList []) false (eval iter X.env) use) R X.xe s := by
  refine wpAny_comprehension_free (use := use) rfl hs S.clos S.kind S.loc (thn (hi pins s σ H _ I h) fun v s1 h1 => thn h1 fun itv s2 h2 => ?_)
  obtain ⟨it, fp, tn, J, H2, e, I2, T, st2, f2, hW⟩ := h2
  subst e
  have hfl : ∀ b ∈ fp, b < s2.heap.objs.size := fun b hb => by
    obtain ⟨o, q, _⟩ := T.obj _ _ st2 b hb
    exact Heap.lt_size q
  have hfr : H2 s2.heap.objs.size = none := I2.hok.fresh (Nat.le_refl _)
  refine wpAny_newObj_type ?_
  have keep3 : ∀ b o, s2.heap.get? b = some o → (s2.heap.push { cls := .type "list", dict := none, data := .seq ([] : List Value).toArray }).get? b = some o := fun b o q => Heap.get?_push_of_some _ q
  have I3 : Inv X pins σ (upd H2 s2.heap.objs.size (.lst [])) { s2 with heap := s2.heap.push { cls := .type "list", dict := none, data := .seq ([] : List Value).toArray } } :=
    I2.laid (t' := s2.toks) keep3 (Nat.le_refl _) ⟨Nat.zero_le _, [], 0, .nil, Heap.get?_push_size _ rfl⟩
  obtain ⟨W, ⟨m0, w0⟩, turn⟩ := hW s2.heap.objs.size hfr
  have f3 : ∀ b ∈ fp, FpOk X pins (upd H2 s2.heap.objs.size (.lst [])) b := fun b hb => ⟨by rw [upd_ne (Nat.ne_of_lt (hfl b hb))]; exact (f2 b hb).1, (f2 b hb).2⟩
  refine wpAny_newFunctionEnv S.nocell (by intro y hy; simp at hy) (fun h4 hns hsb => ?_) S.kind
  have hfl3 : ∀ b ∈ fp, b < (s2.heap.push { cls := .type "list", dict := none, data := .seq ([] : List Value).toArray }).objs.size := fun b hb => by
    rw [Heap.size_push]
    exact Nat.lt_succ_of_lt (hfl b hb)
  have keep4 : ∀ b o, (s2.heap.push { cls := .type "list", dict := none, data := .seq ([] : List Value).toArray }).get? b = some o → h4.get? b = some o := fun b o q =>
    (hsb.2 b (Nat.ne_of_lt (Heap.lt_size q))).trans (Heap.get?_push_of_some _ q)
  have I4 : Inv (cxC X N scope cl (s2.heap.push { cls := .type "list", dict := none, data := .seq ([] : List Value).toArray }).objs.size { s2 with heap := s2.heap.push { cls := .type "list", dict := none, data := .seq ([] : List Value).toArray } } (upd H2 s2.heap.objs.size (.lst [])) fp pins) [] (compSt σ fr none) (upd H2 s2.heap.objs.size (.lst []))
      { s2 with heap := h4, toks := s2.toks + ([] : List (Str × Value)).length } := cxC_start S I3 f3 (Nat.le_refl _) hfl3 hns keep4 rfl rfl
  have st4 : tn 0 h4 := T.keep _ _ _ st2 fun b hb o q => keep4 b o (keep3 b o q)
  generalize hY : cxC X N scope cl (s2.heap.push { cls := .type "list", dict := none, data := .seq ([] : List Value).toArray }).objs.size { s2 with heap := s2.heap.push { cls := .type "list", dict := none, data := .seq ([] : List Value).toArray } } (upd H2 s2.heap.objs.size (.lst [])) fp pins = Y at I4
  have hel : PE Y elt te := hY ▸ he _ _ _ _ _
  have htl : PTs Y ifs tc := hY ▸ ht _ _ _ _ _
  have eA : Y.A = X.A := by rw [← hY]; rfl
  have eP : Y.prog = X.prog := by rw [← hY]; rfl
  have ew : Y.w = X.w := by rw [← hY]; rfl
  have eK : Y.K = X.K := by rw [← hY]; rfl
  have eC : Y.still = true := by rw [← hY]; exact hc
  have eE : Y.env = compEnvC scope cl (s2.heap.push { cls := .type "list", dict := none, data := .seq ([] : List Value).toArray }).objs.size X.env := by rw [← hY]; rfl
  have eX : Y.xe = fun _ _ => False := by rw [← hY]; rfl
  have hg : PG Y (.Name x px) (gName 0) := by
    subst hY
    exact pg_name (i := 0) S.nd S.hN (.inl (lookup_relabel_local S.own)) (.inr (lookup_relabel_local S.own))
  have fY : ∀ {H' : Hp}, (∀ b ∈ fp, H' b = none) → ∀ b ∈ fp, FpOk Y [] H' b := fun {H'} hn b hb => by
    subst hY
    obtain ⟨_, g2, g3, g4, g5, g6⟩ := f3 b hb
    refine ⟨hn b hb, Nat.ne_of_lt (hfl3 b hb), fun z => ?_, .inl hb, fun y c q => g5 y c (S.sub _ _ q), fun p hp => ?_⟩
    · rcases List.mem_cons.mp (I3.stkSub b z) with q | q
      · exact g2 q
      · exact g3 q
    · rw [List.append_nil] at hp
      exact g6 p hp
  have loop : ∀ s5 : Shared, s5 = { s2 with heap := h4, toks := s2.toks + ([] : List (Str × Value)).length } →
      codeAny (model X.prog X.w) X.A (.compLoop (.ListComp elt [⟨.Name x px, iter, ifs, 0⟩] scope pos) 0 (.ref it) (.ref s2.heap.objs.size) (compEnvC scope cl (s2.heap.push { cls := .type "list", dict := none, data := .seq ([] : List Value).toArray }).objs.size X.env))
        (compPost (model X.prog X.w) X.A X.xe use R (.ref s2.heap.objs.size) (s2.heap.push { cls := .type "list", dict := none, data := .seq ([] : List Value).toArray }).objs.size) s5 := by
    rintro s5 rfl
    refine codeAny_compLoop_tests (fun n s' => ∃ i v H' vs, Inv Y [] (compSt σ fr v) H' s' ∧ tn i s'.heap ∧ (∀ b ∈ fp, H' b = none) ∧ W i n H' vs) ?_ m0 ⟨0, none, _, [], I4, st4, fun b hb => (f3 b hb).1, w0⟩
    rintro n s6 ⟨i, v6, H6, vs, I6, st6, fr6, w6⟩
    obtain ⟨hacc, hgo⟩ := turn i n H6 vs w6
    rcases hgo with ⟨stop, qn⟩ | ⟨go, hz, step⟩
    · have hd := T.done Y eP ew eK eC i [] s6 _ H6 (fun _ _ => False) I6 (fY fr6) st6 stop
      rw [eA] at hd
      refine wpAny_mono hd (fun r s7 ⟨hr, I7⟩ => ?_) fun _ _ z => z.elim
      subst hr
      obtain ⟨m, hn, _⟩ := id I7.loc
      rw [eE] at hn
      have hend : ∀ h' : Heap, Heap.SameBut (s2.heap.push { cls := .type "list", dict := none, data := .seq ([] : List Value).toArray }).objs.size s7.heap h' → Inv X pins σ H6 { s7 with heap := h' } := fun h' hs' => by
        subst hY
        exact cxC_end I3 f3 (Nat.le_refl _) I7 hs'
      have cf : H6 (s2.heap.push { cls := .type "list", dict := none, data := .seq ([] : List Value).toArray }).objs.size = none := by
        subst hY
        exact I7.free
      have big : ∀ b o, s2.heap.get? b = some o → b ≠ (s2.heap.push { cls := .type "list", dict := none, data := .seq ([] : List Value).toArray }).objs.size := fun b o q => Nat.ne_of_lt (by rw [Heap.size_push]; exact Nat.lt_succ_of_lt (Heap.lt_size q))
      obtain ⟨m2, hn2, _⟩ := id I2.loc
      obtain ⟨oL, _, _, hoL, _⟩ := id hn2
      exact fin _ _ m H6 s7 qn hn hend cf (big _ _ hoL) (fun z c q => by
        obtain ⟨_, o, w1, _⟩ := I2.cell z c q
        exact big _ _ w1) (fun p hp => by
        obtain ⟨e, _⟩ := I2.pin p hp
        exact big _ _ e) (by
        rw [Heap.size_push]
        exact Nat.le_succ_of_le (Nat.le_trans (Nat.le_refl _) I2.sz))
    · have hd := T.item Y eP ew eK eC i [] s6 _ H6 (fun _ _ => False) I6 (fY fr6) st6 go
      rw [eA] at hd
      refine wpAny_mono hd (fun r s7 ⟨u, hr, h7⟩ => ?_) fun _ _ z => z.elim
      subst hr
      show wpAny _ _ ((pure () : Sem Unit) >>= fun _ => assign (.Name x px) _ u) _ _ s7
      refine wpAny_bind (wpAny_mono h7 (fun _ s8 ⟨y, H8, I8, r8, y8, st8, fr8⟩ => ?_) fun _ _ z => z.elim)
      have I8' := I8.pinned (fY fr8) (T.obj _ _ st8)
      have h9 := hg _ s8 _ H8 y u (fun σ9 H9 => σ9 = compSt σ fr (some y) ∧ H9 = H8) I8' r8 ⟨rfl, rfl⟩
      rw [eA, eP, ew, eE, eX] at h9
      refine wpAny_mono h9 (fun _ s9 ⟨σ9, H9, I9, e9, e9'⟩ => ?_) fun _ _ z => z.elim
      subst e9 e9'
      have ht10 := htl _ s9 _ _ _ I9 (step y _ y8)
      rw [eA, eP, ew, eE, eX] at ht10
      refine wpAny_mono ht10 (fun ok s9t ⟨H9t, I9t, q9t⟩ => ?_) fun _ _ z => z.elim
      cases ok with
      | false =>
        rw [if_neg Bool.false_ne_true] at q9t
        rw [if_neg Bool.false_ne_true]
        obtain ⟨m', hm, w10⟩ := q9t
        refine ⟨m', hm, i + 1, some y, _, vs, I9t.unpinned, T.keep _ _ _ st8 fun b hb o q => (I9t.pin (b, o) (List.mem_append_right _ (List.mem_append_right _ (mem_pinsAt hb q)))).1, fun b hb => ?_, w10⟩
        obtain ⟨o, q, _⟩ := T.obj _ _ st8 b hb
        exact (I9t.pin (b, o) (List.mem_append_right _ (List.mem_append_right _ (mem_pinsAt hb q)))).2.1
      | true =>
      rw [if_pos rfl] at q9t
      rw [if_pos rfl]
      have h10 := hel _ s9t _ _ _ I9t q9t
      rw [eA, eP, ew, eE, eX] at h10
      refine wpAny_mono h10 (fun u10 s10 ⟨z10, H10, I10, r10, a10, m', hm, w10⟩ => ?_) fun _ _ z => z.elim
      have h11 := mt_append _ s10 _ H10 (.ref s2.heap.objs.size) [z10] (.ref s2.heap.objs.size) [u10] (fun _ H11 => H11 = upd H10 s2.heap.objs.size (.lst (vs ++ [z10]))) I10 rfl (.cons r10 .nil) ⟨_, vs, z10, rfl, rfl, a10, hz, rfl⟩
      rw [eA, eP, ew, eX] at h11
      refine wpAny_mono h11 (fun _ s11 ⟨_, H11, I11, _, e11⟩ => ?_) fun _ _ z => z.elim
      subst e11
      refine ⟨m', hm, i + 1, some y, _, vs ++ [z10], I11.unpinned, T.keep _ _ _ st8 fun b hb o q => (I11.pin (b, o) (List.mem_append_right _ (List.mem_append_right _ (mem_pinsAt hb q)))).1, fun b hb => ?_, w10⟩
      obtain ⟨o, q, _⟩ := T.obj _ _ st8 b hb
      exact (I11.pin (b, o) (List.mem_append_right _ (List.mem_append_right _ (mem_pinsAt hb q)))).2.1
  exact codeAny_compStart_list (loop _ rfl) (T.self _ 0 _ _ _ st4 (loop _ rfl))
theorem pe_comp (hc : X.still = true) (S : CompScope X N fr x scope cl) (hi : PI X (.Name x px) iter wi) (he : ∀ (C : Addr) (s0 : Shared) (H0 : Hp) (fp : List Addr) (pins : List (Addr × Obj)), PE (cxC X N scope cl C s0 H0 fp pins) elt te)
    (hs : ∀ y, foldedSetIterable iter X.env y = pure y := by intro _; rfl) : PE X (.ListComp elt [⟨.Name x px, iter, [], 0⟩] scope pos) (tComp wi fr te) := by
  intro pins s σ H Q I h
  rw [eval_ListComp]
  exact comp_core (tc := fun _ H Q => Q true H) (use := none) hc S hi (fun _ _ _ _ _ => pts_nil) he hs I h fun acc C m H6 s7 qn hn hend _ _ _ _ _ => ⟨m, hn, fun h' hs' => ⟨.ref acc, H6, hend h' hs', rfl, qn⟩⟩
end
end L2

namespace L2
open PySem PySem.Spec PyProof.Rows
theorem call_all {X : Cx} (hc : X.still = true) : CallR X (.builtin "all") (fun xs H Q => ∃ (l : Addr) (bs : List Bool), xs = [.ref l] ∧ H l = some (.lst (bs.map V.bl)) ∧ Q (.bl (bs.all id)) H) := by
  intro pins s σ H xs us Q I rv h
  obtain ⟨l, bs, rfl, hH, q⟩ := h
  obtain ⟨u, rfl, ru⟩ := rv.one
  cases ru
  obtain ⟨z, its, n, r, hl, e⟩ := I.lstM hH
  have hlt : l < s.heap.objs.size := Heap.lt_size e
  refine call_all_walk (wpAny_pyIter_list (A := X.A.in1) ⟨_, e, rfl, n, rfl⟩ ?_)
  obtain ⟨fp, st, W, st0, _⟩ := walks_list_any (P := X.prog) (w := X.w) (I.stl hc).in1 s.heap.objs.size l (Nat.ne_of_lt hlt) (I.stn hc (I.hok.fresh (Nat.le_refl _))) its.toArray
  refine ⟨s.heap.objs.size, _, _, _, _, _, fun i => bs.getD i true, rfl, W, st0 _ ⟨_, Heap.get?_push_size _ rfl, rfl, rfl⟩ ⟨_, Heap.get?_push_of_some _ e, rfl, n, rfl⟩ (fun b o x => Heap.get?_push_of_some _ x), ?_, ?_⟩
  · intro i v s' Q' E' hP hQ
    have hv : its[i]? = some v := by simpa using hP
    obtain ⟨b, hb, rfl⟩ : ∃ b, bs[i]? = some b ∧ v = Value.bool b := by
      cases hbi : bs[i]? with
      | none =>
        have h1 := r.none_of (i := i) (by rw [List.getElem?_map, hbi]; rfl)
        rw [h1] at hv; cases hv
      | some b =>
        obtain ⟨u', h1, h2⟩ := r.get (i := i) (x := .bl b) (by rw [List.getElem?_map, hbi]; rfl)
        rw [h1] at hv; cases hv
        exact ⟨b, rfl, h2⟩
    have hQ2 : Q' (bs.getD i true) s' := hQ
    rw [List.getD_eq_getElem?_getD, hb] at hQ2
    exact wpAny_truthy_bool hQ2
  · intro h' tk hk
    have e2 : ((List.range its.toArray.size).all fun i => bs.getD i true) = bs.all id := by
      have hlen : its.toArray.size = bs.length := by
        rw [List.size_toArray, ← r.length, List.length_map]
      rw [hlen]
      rw [Bool.eq_iff_iff, List.all_eq_true, List.all_eq_true]
      constructor
      · intro hA b hb
        obtain ⟨i, hi, e⟩ := List.getElem_of_mem hb
        have := hA i (List.mem_range.mpr hi)
        rw [List.getD_eq_getElem?_getD, List.getElem?_eq_getElem hi, e] at this
        exact this
      · intro hA i hi
        have hi' := List.mem_range.mp hi
        rw [List.getD_eq_getElem?_getD, List.getElem?_eq_getElem hi']
        exact hA _ (List.getElem_mem hi')
    rw [e2]
    refine ⟨.bl (bs.all id), H, ?_, rfl, q⟩
    exact I.kept (h' := h') (t' := tk) fun b o q' => hk b o (fun zz => by
      have : b = s.heap.objs.size := by simpa using zz
      subst this
      exact absurd (Heap.lt_size q') (Nat.lt_irrefl _)) (Heap.get?_push_of_some _ q')
end L2

namespace L2
open PySem PySem.Spec PyProof.Rows

section
variable {κ : Type} [DecidableEq κ]
def valV (kvs : List (κ × V)) (k : κ) : Option V := (kvs.find? fun kv => decide (kv.1 = k)).map (·.2)
def putK (kvs : List (κ × V)) (k : κ) (v : V) : List (κ × V) :=
  if (kvs.any fun kv => decide (kv.1 = k)) = true then kvs.map (fun kv => if kv.1 = k then (kv.1, v) else kv) else kvs ++ [(k, v)]
def dropK (kvs : List (κ × V)) (k : κ) : List (κ × V) := kvs.filter fun kv => decide (kv.1 ≠ k)

end

abbrev KT (H : Hp) : List (List Key × V) → List (List Key × Addr × Value) → Prop := Paired fun p q => p.1 = q.1 ∧ H q.2.1 = some (.tup (p.1.map kV)) ∧ RelV p.2 q.2.2
section
variable {P : Program} {w : World} {H : Hp} {h : Heap} {a : Addr}
end

def DGet (H : Hp) (a : Addr) (y : V) (r : Option V) : Prop :=
  (∃ kvs k, Rd H a (.dK kvs) ∧ y = kV k ∧ r = valV kvs k) ∨ ∃ kvs k b, Rd H a (.dT kvs) ∧ y = .ref b ∧ H b = some (.tup (k.map kV)) ∧ r = valV kvs k
def DPut (H : Hp) (a : Addr) (y v : V) (H' : Hp) : Prop :=
  (∃ kvs k, H a = some (.dK kvs) ∧ y = kV k ∧ kvs.length < sizeLine ∧ H' = upd H a (.dK (putK kvs k v))) ∨
  ∃ kvs k b, H a = some (.dT kvs) ∧ y = .ref b ∧ H b = some (.tup (k.map kV)) ∧ kvs.length < sizeLine ∧ H' = upd H a (.dT (putK kvs k v))
section
variable {X : Cx} {pins : List (Addr × Obj)} {σ : St} {H : Hp} {s : Shared} {a : Addr} {y v : V} {u r : Value} {o : Option V} {A : Around} {E : Value → Shared → Prop}

end

section
variable {X : Cx} {pins : List (Addr × Obj)} {σ : St} {H : Hp} {s : Shared} {a : Addr} {kvs : List (Key × V)} {k : Key} {u : Value} {A : Around} {E : Value → Shared → Prop}
end

def NoSl (i : Expr) : Prop := ∀ ov iv, subscripted i false ov iv = operate [ov, iv] (getItem ov iv)
def tDGet (td ty : TE) : TE := fun σ H Q => td σ H fun x H1 => ty σ H1 fun y H2 => ∃ a v, x = .ref a ∧ DGet H2 a y (some v) ∧ Q v H2
def tDIn (ty td : TE) : TE := fun σ H Q => ty σ H fun y H1 => td σ H1 fun x H2 => ∃ a o, x = .ref a ∧ DGet H2 a y o ∧ Q (.bl o.isSome) H2
def tDNotIn (ty td : TE) : TE := fun σ H Q => ty σ H fun y H1 => td σ H1 fun x H2 => ∃ a o, x = .ref a ∧ DGet H2 a y o ∧ Q (.bl (!o.isSome)) H2
def sDPut (td ty tv : TE) : TS := fun D σ H => tv σ H fun v H1 => td σ H1 fun x H2 => ty σ H2 fun y H3 => ∃ a H4, x = .ref a ∧ DPut H3 a y v H4 ∧ D.nx σ H4
def sDAug (td ty tv : TE) (rd : V → V → Hp → VK → Prop) : TS := fun D σ H => td σ H fun x H1 => ty σ H1 fun y H2 => ∃ a v, x = .ref a ∧ DGet H2 a y (some v) ∧
  tv σ H2 fun y2 H3 => rd v y2 H3 fun z H4 => ∃ H5, DPut H4 a y z H5 ∧ D.nx σ H5
def sDDel (td ty : TE) : TS := fun D σ H => td σ H fun x H1 => ty σ H1 fun y H2 => ∃ a kvs k, x = .ref a ∧ H2 a = some (.dK kvs) ∧ y = kV k ∧ (valV kvs k).isSome = true ∧ D.nx σ (upd H2 a (.dK (dropK kvs k)))

section
variable {X : Cx} {o i e value : Expr} {pos pos' tpos : Pos} {td ty tv : TE}
end

def tDNewK : TE := fun _ H Q => ∀ p, H p = none → Q (.ref p) (upd H p (.dK []))
def tDNewT : TE := fun _ H Q => ∀ p, H p = none → Q (.ref p) (upd H p (.dT []))
section
variable {X : Cx} {pos : Pos}
end

def tPairs : List (TE × TE) → St → Hp → (List (V × V) → Hp → Prop) → Prop
  | [], _, H, Q => Q [] H
  | (tk, tv) :: r, σ, H, Q => tk σ H fun x H1 => tv σ H1 fun y H2 => tPairs r σ H2 fun ps H3 => Q ((x, y) :: ps) H3
abbrev VV : List (V × V) → List (Value × Value) → Prop := Paired fun p q => RelV p.1 q.1 ∧ RelV p.2 q.2
def PPs (X : Cx) (pos : Pos) (keys : List (Option Expr)) (values : List Expr) (trs : List (TE × TE)) : Prop :=
  ∀ (pins : List (Addr × Obj)) (s : Shared) (σ : St) (H : Hp) (Q : List (V × V) → Hp → Prop), Inv X pins σ H s → tPairs trs σ H Q →
    wpAny (model X.prog X.w) X.A (evalPairs (pairTrees keys values X.env pos)) (fun vs s' => ∃ ps H', Inv X pins σ H' s' ∧ VV ps vs ∧ Q ps H') X.xe s
def mergeK (kvs more : List (Key × V)) : List (Key × V) := more.foldl (fun acc kv => putK acc kv.1 kv.2) kvs
def tDisp (trs : List (TE × TE)) : TE := fun σ H Q => ∀ p, H p = none → tPairs trs σ (upd H p (.dK [])) fun ps H2 => H2 p = some (.dK []) ∧ ∃ kvs : List (Key × V), ps = kvs.map (fun kv => (kV kv.1, kv.2)) ∧ kvs.length ≤ 15 ∧ Q (.ref p) (upd H2 p (.dK (mergeK [] kvs)))
structure M1 (X : Cx) (o : Expr) (m : Str) (apos : Pos) (e : Expr) (cpos : Pos) : Prop where
  base : attributeBase o m X.env (eval o X.env) = eval o X.env
  few : ((backTo cpos (starEach [e] X.env)).all (fun x => !x.1) && (backToKw cpos (keywordEach [] X.env)).all (fun x => x.1.isSome)
    && decide (([e] : List Expr).length + ([] : List Keyword).length + (if ([] : List Keyword).isEmpty then 0 else 1) < 30)) = true
  line : (apos.endLine == cpos.line) = true
  trees : backTo cpos (starEach [e] X.env) = [(false, eval e X.env)]
structure M2 (X : Cx) (o : Expr) (m : Str) (apos : Pos) (e f : Expr) (cpos : Pos) : Prop where
  base : attributeBase o m X.env (eval o X.env) = eval o X.env
  few : ((backTo cpos (starEach [e, f] X.env)).all (fun x => !x.1) && (backToKw cpos (keywordEach [] X.env)).all (fun x => x.1.isSome)
    && decide (([e, f] : List Expr).length + ([] : List Keyword).length + (if ([] : List Keyword).isEmpty then 0 else 1) < 30)) = true
  line : (apos.endLine == cpos.line) = true
  trees : backTo cpos (starEach [e, f] X.env) = [(false, eval e X.env), (false, eval f X.env)]

def IsD (H : Hp) (a : Addr) : Prop := (∃ kvs, Rd H a (.dK kvs)) ∨ ∃ kvs, Rd H a (.dT kvs)
section
variable {X : Cx} {pins : List (Addr × Obj)} {σ : St} {H : Hp} {s : Shared} {a : Addr} {y d : V} {u r : Value} {o : Option V} {A : Around} {E : Value → Shared → Prop}
end

def tDGet1 (td ty : TE) : TE := fun σ H Q => td σ H fun x H1 => ∃ a, x = .ref a ∧ IsD H1 a ∧ ty σ H1 fun y H2 => ∃ o, DGet H2 a y o ∧ Q (o.getD .non) H2
def tDGet2 (td ty tx : TE) : TE := fun σ H Q => td σ H fun x H1 => ∃ a, x = .ref a ∧ IsD H1 a ∧ ty σ H1 fun y H2 => tx σ H2 fun z H3 => ∃ o, DGet H3 a y o ∧ Q (o.getD z) H3
def tDPop1 (td ty : TE) : TE := fun σ H Q => td σ H fun x H1 => ∃ a, x = .ref a ∧ IsD H1 a ∧ ty σ H1 fun y H2 => ∃ kvs k v, H2 a = some (.dK kvs) ∧ y = kV k ∧ valV kvs k = some v ∧ Q v (upd H2 a (.dK (dropK kvs k)))
def tDPop2 (td ty tx : TE) : TE := fun σ H Q => td σ H fun x H1 => ∃ a, x = .ref a ∧ IsD H1 a ∧ ty σ H1 fun y H2 => tx σ H2 fun z H3 => ∃ kvs k, H3 a = some (.dK kvs) ∧ y = kV k ∧
  (∀ v, valV kvs k = some v → Q v (upd H3 a (.dK (dropK kvs k)))) ∧ (valV kvs k = none → Q z H3)
section
variable {X : Cx} {o e f : Expr} {apos cpos : Pos} {td ty tx : TE}
end

section
variable {X : Cx} {pins : List (Addr × Obj)} {σ : St} {H : Hp} {s : Shared} {a : Addr} {y : V} {u : Value} {A : Around} {E : Value → Shared → Prop}
end
end L2

namespace L2
open PySem PySem.Spec PyProof.Rows

section
variable {P : Program} {w : World} {K : PySem.W.Frag} {mg : Str → Option Value} {base : Heap}
end
section
variable {X : Cx}
end

section
variable {κ : Type} [DecidableEq κ]
end
end L2

namespace L2
open PySem PySem.Spec PyProof.Rows
abbrev pairD (x : Int × Int) : PyData := .tuple [.int x.1, .int x.2]
end L2

namespace L2
open PySem PySem.Spec PyProof.Rows
section
variable {X : Cx} {N : List Str} {fr : List Nat} {x : Str} {scope : Scope} {cl : List (Str × Addr)} {elt iter : Expr} {px pos : Pos} {wi : TI} {te : TE}
theorem pe_compIf {cnd : Expr} {tc : TT} (hc : X.still = true) (S : CompScope X N fr x scope cl) (hi : PI X (.Name x px) iter wi) (ht : ∀ (C : Addr) (s0 : Shared) (H0 : Hp) (fp : List Addr) (pins : List (Addr × Obj)), PT (cxC X N scope cl C s0 H0 fp pins) cnd tc) (he : ∀ (C : Addr) (s0 : Shared) (H0 : Hp) (fp : List Addr) (pins : List (Addr × Obj)), PE (cxC X N scope cl C s0 H0 fp pins) elt te)
    (hs : ∀ y, foldedSetIterable iter X.env y = pure y := by intro _; rfl) : PE X (.ListComp elt [⟨.Name x px, iter, [cnd], 0⟩] scope pos) (tCompIf wi fr tc te) := by
  intro pins s σ H Q I h
  rw [eval_ListComp]
  exact comp_core (use := none) hc S hi (fun _ _ _ _ _ => pts_one (ht _ _ _ _ _)) he hs I h fun acc C m H6 s7 qn hn hend _ _ _ _ _ => ⟨m, hn, fun h' hs' => ⟨.ref acc, H6, hend h' hs', rfl, qn⟩⟩
end
end L2

namespace L2
open PySem PySem.Spec PyProof.Rows
section
variable {M : Model} {A : Around} {E : Value → Shared → Prop}
variable {nm q nm' q' : Str} {C N D N' : Addr} {bs bm bs' bm' : List Value} {hdct hdct' : Bool} {sn sn' : List Str} {sub sub' : List Value} {ab ab' : Bool} {col col' : Option Bool} {dd dd' : Option Addr} {k0 k1 k2 k3 k5 j0 j1 j2 j3 j5 : Option Value} {newId newId' : String}
end
section
variable {X : Cx} {pins : List (Addr × Obj)} {σ : St} {H H' : Hp} {s s' : Shared} {e : Addr} {cls a0 : Value} {ea C : Addr} {B h' : Heap} {t' : Nat}
end
section
variable {X : Cx} {k : Nat} {f C : Addr} {fd : FuncData} {ps : List Str} {sp : Sp} {g x n : Str} {p pos pos2 pos3 np hpos : Pos} {e : Expr} {es : List Expr} {t : TA} {ts : TS} {b₀ : Stmt} {suite : List Stmt} {i : Nat}
end
end L2

namespace L2
open PySem PySem.Spec PyProof.Rows
def bls (c : Int) (i : Nat) : List Bool := (List.range i).map fun (j : Nat) => decide (V.int (0 + (j : Int)) = V.int c)
def spAloneS (C : Addr) (k : Int) : Sp := fun vs H Q _ => ∃ e, vs = [.ref e, .int k] ∧ H e = some (.ext (ExcAt C e)) ∧ ∀ H', Same H H' → Q (.bl true) H'
end L2

namespace L2
open PySem PySem.Spec PyProof.Rows
end L2

namespace L2
open PySem PySem.Spec PyProof.Rows
def tTryAs3 (sp : Sp) (C C2 : Addr) (i : Nat) (ta : TA) (ts : TS) : TS := fun D σ H => ta σ H fun vs H1 => sp vs H1 (fun _ H2 => D.nx σ H2) fun cls _ H2 =>
  (cls = .ref C ∧ ∀ e, H2 e = none → ts (asEnds D i) (σ.set i (some (.ref e))) (upd H2 e (.ext (ExcAt C e)))) ∨ (cls = .ref C2 ∧ ∀ e, H2 e = none → ts (asEnds D i) (σ.set i (some (.ref e))) (upd H2 e (.ext (ExcAt C2 e))))
section
variable {X : Cx} {k : Nat} {f C : Addr} {fd : FuncData} {ps : List Str} {sp : Sp} {g x n : Str} {p pos pos2 pos3 np hpos : Pos} {e : Expr} {es : List Expr} {t : TA} {ts : TS} {b₀ : Stmt} {suite : List Stmt} {i : Nat}
end
end L2

namespace L2
open PySem PySem.Spec PyProof.Rows
inductive IsiE (X : Cx) (C0 : Addr) : List Expr → List Bool → Prop where
  | nil : IsiE X C0 [] []
  | cons {x : Str} {C : Addr} {b : Bool} {p p2 p3 p4 : Pos} {es : List Expr} {bs : List Bool} (h5 : Gl X x) (h6 : X.mg x = some (.ref C)) (h7 : (x == ("__debug__" : Str)) = false) (k : PySem.W.kitOne X.K (.ref C0) (.ref C) = some b) (h : IsiE X C0 es bs) :
      IsiE X C0 (.Call (.Name "isinstance" p) [.Name "_law_e" p2, .Name x p3] [] p4 :: es) (b :: bs)
def tIsis (C0 : Addr) (bs : List Bool) : TA := fun σ H Q => ∃ a, σ[0]? = some (some (V.ref a)) ∧ H a = some (.ext (ExcAt C0 a)) ∧ Q (bs.map V.bl) H
end L2

namespace L2
open PySem PySem.Spec PyProof.Rows
def tSetC (wi : TI) (fr : List Nat) (tc : TT) (te : TE) (k : Nat) : TS := fun D σ H => tCompIf wi fr tc te σ H fun v H' => D.nx (σ.set k (some v)) H'
theorem Inv.off {X : Cx} {pins : List (Addr × Obj)} {σ : St} {H : Hp} {s : Shared} {C : Addr} {h' : Heap} (I : Inv X pins σ H s) (hs : Heap.SameBut C s.heap h') (hC0 : X.s₀.heap.objs.size ≤ C) (hH : H C = none) (hL : C ≠ X.env.locals) (hc : ∀ y c, X.env.cells.lookup y = some c → c ≠ C) (hp : ∀ p ∈ X.pn ++ pins, p.1 ≠ C) : Inv X pins σ H { s with heap := h' } := by
  obtain ⟨m, hn, hl⟩ := id I.loc
  have old : ∀ b o, X.s₀.heap.get? b = some o → h'.get? b = s.heap.get? b := fun b o e => hs.2 b (Nat.ne_of_lt (Nat.lt_of_lt_of_le (Heap.lt_size e) hC0))
  refine ⟨I.ok, I.fzs, I.os, I.bare, ⟨fun b o e k hb hx => (old b o e).trans (I.base.keep b o e k hb hx), fun b o e k hb hx => ?_, I.base.free, fun b o e hx => ?_, I.base.tups, I.base.frzs, I.base.tbls⟩, ⟨m, hn.sameBut hs hL.symm, fun j y v' e1 e2 e3 => ?_⟩, fun y c e => ?_, I.free, I.freeC, fun p q => ?_, fun b ob e => ?_, I.len⟩
  · obtain ⟨sl, e1⟩ := I.base.slot b o e k hb hx
    exact ⟨sl, (old b o e).trans e1⟩
  · obtain ⟨o', e1⟩ := I.base.there b o e hx
    exact ⟨o', (old b o e).trans e1⟩
  · obtain ⟨u', r', q⟩ := hl j y v' e1 e2 e3
    refine ⟨u', r', ?_⟩
    rcases q with q | ⟨k, c, e, z⟩
    · exact .inl q
    · exact .inr ⟨k, c, e, z.sameBut hs (hc y c e)⟩
  · obtain ⟨w', z⟩ := I.cell y c e
    exact ⟨w', z.sameBut hs (hc y c e)⟩
  · obtain ⟨e, k, ne, nf, d⟩ := I.pin p q
    exact ⟨(hs.2 p.1 (hp p q)).trans e, k, ne, nf, d⟩
  · refine (I.hok b ob e).stay (fun c w' hc' q => (hs.2 c ?_).trans q) (fun _ q => q) fun _ _ q => q
    rintro rfl
    rcases hc' with rfl | hc'
    · rw [hH] at e; cases e
    · rw [hH] at hc'; cases hc'
section
variable {X : Cx} {N : List Str} {fr : List Nat} {x : Str} {scope : Scope} {cl : List (Str × Addr)} {elt iter : Expr} {px pos : Pos} {wi : TI} {te : TE}
theorem ps_setC {cnd : Expr} {tc : TT} {y : Str} {py spos : Pos} {k : Nat} (hN : X.N.Nodup) (hk : X.N[k]? = some y) (hy : Loc X.env.scope y) (hsw : swapsWith (.ListComp elt [⟨.Name x px, iter, [cnd], 0⟩] scope pos) (some (.Name y py)) spos.line X.env = pure true) (hc : X.still = true) (S : CompScope X N fr x scope cl) (hi : PI X (.Name x px) iter wi) (ht : ∀ (C : Addr) (s0 : Shared) (H0 : Hp) (fp : List Addr) (pins : List (Addr × Obj)), PT (cxC X N scope cl C s0 H0 fp pins) cnd tc) (he : ∀ (C : Addr) (s0 : Shared) (H0 : Hp) (fp : List Addr) (pins : List (Addr × Obj)), PE (cxC X N scope cl C s0 H0 fp pins) elt te)
    (hf : X.fn y = true ∨ X.env.scope.names.lookup y = some .local) (hs : ∀ y, foldedSetIterable iter X.env y = pure y := by intro _; rfl) : PS X (.Assign [.Name y py] (.ListComp elt [⟨.Name x px, iter, [cnd], 0⟩] scope pos) spos) (tSetC wi fr tc te k) := by
  intro pins s σ H D I h
  rw [exec_Assign_Name_used _ _ _ _ hsw]
  refine wpAny_bind (wpAny_standAt (wpAny_bind ?_))
  show wpAny _ X.A (do let _ ← comprehension (.ListComp elt [⟨.Name x px, iter, [cnd], 0⟩] scope pos) scope X.env _ (newList []) false (eval iter X.env) (some (assign (.Name y py) X.env))) _ _ s
  refine wpAny_bind (wpAny_mono (comp_core (use := some (assign (.Name y py) X.env)) (R := fun _ s' => SP X pins D .next s') hc S hi (fun _ _ _ _ _ => pts_one (ht _ _ _ _ _)) he hs I h (fun acc C m H6 s7 qn hn hend cf cL cC cP cS => by
    have J7 : Inv X pins σ H6 s7 := hend s7.heap ⟨rfl, fun _ _ => rfl⟩
    show wpAny _ X.A (assign (.Name y py) X.env (.ref acc)) _ _ _
    refine wpAny_assign_Name (store_ok2 J7 hN hk hy (v := .ref acc) rfl (fun s8 J8 ⟨a, hsa, ha⟩ => ?_) hf)
    have aC : C ≠ a := by
      rcases ha with e | e
      · rw [e]; exact Ne.symm cL
      · exact Ne.symm (cC _ _ e)
    exact ⟨m, hn.sameBut hsa aC, fun h' hs' => ⟨_, H6, J8.off hs' cS cf (Ne.symm cL) cC cP, qn⟩⟩)) (fun _ s' hq => wpAny_pure (wpAny_pure hq)) fun _ _ e => e)
end
end L2

namespace L2
open PySem PySem.Spec PyProof.Rows
def CompEnd (J : It) (Q : VK) (H1 : Hp) (te : TE) (σ : V → St) : Prop := ∀ acc, H1 acc = none → ∃ W : Nat → Nat → Hp → List V → Prop, (∃ m, W 0 m (upd H1 acc (.lst [])) []) ∧
  ∀ i m H' vs, W i m H' vs → H' acc = some (.lst vs) ∧ ((J.stop i H' ∧ Q (.ref acc) H') ∨ (J.go i H' ∧ vs.length < sizeLine ∧ ∀ x H2, J.yld i H' x H2 → te (σ x) H2 fun y H3 => H3 acc = some (.lst vs) ∧ ∃ m', m' < m ∧ W (i + 1) m' (upd H3 acc (.lst (vs ++ [y]))) (vs ++ [y])))
def CompIfEnd (J : It) (Q : VK) (H1 : Hp) (tc : TT) (te : TE) (σ : V → St) : Prop := ∀ acc, H1 acc = none → ∃ W : Nat → Nat → Hp → List V → Prop, (∃ m, W 0 m (upd H1 acc (.lst [])) []) ∧
  ∀ i m H' vs, W i m H' vs → H' acc = some (.lst vs) ∧ ((J.stop i H' ∧ Q (.ref acc) H') ∨ (J.go i H' ∧ vs.length < sizeLine ∧ ∀ x H2, J.yld i H' x H2 → tc (σ x) H2 fun b H3 =>
    if b = true then te (σ x) H3 fun y H4 => H4 acc = some (.lst vs) ∧ ∃ m', m' < m ∧ W (i + 1) m' (upd H4 acc (.lst (vs ++ [y]))) (vs ++ [y]) else ∃ m', m' < m ∧ W (i + 1) m' H3 vs))
def tCompC (wi : TI) (fr : List Nat) (te : TE) : TE := fun σ H Q => wi σ H fun J H1 => CompEnd J Q H1 te (fun x => compSt σ fr (some x))
def tCompIfC (wi : TI) (fr : List Nat) (tc : TT) (te : TE) : TE := fun σ H Q => wi σ H fun J H1 => CompIfEnd J Q H1 tc te (fun x => compSt σ fr (some x))
def tSetC0 (wi : TI) (fr : List Nat) (te : TE) (k : Nat) : TS := fun D σ H => tCompC wi fr te σ H fun v H' => D.nx (σ.set k (some v)) H'
section
variable {X : Cx} {N : List Str} {fr : List Nat} {x : Str} {scope : Scope} {cl : List (Str × Addr)} {elt iter : Expr} {px pos : Pos} {wi : TI} {te : TE}
theorem ps_setC0 {y : Str} {py spos : Pos} {k : Nat} (hN : X.N.Nodup) (hk : X.N[k]? = some y) (hy : Loc X.env.scope y) (hsw : swapsWith (.ListComp elt [⟨.Name x px, iter, [], 0⟩] scope pos) (some (.Name y py)) spos.line X.env = pure true) (hc : X.still = true) (S : CompScope X N fr x scope cl) (hi : PI X (.Name x px) iter wi) (he : ∀ (C : Addr) (s0 : Shared) (H0 : Hp) (fp : List Addr) (pins : List (Addr × Obj)), PE (cxC X N scope cl C s0 H0 fp pins) elt te)
    (hf : X.fn y = true ∨ X.env.scope.names.lookup y = some .local) (hs : ∀ y, foldedSetIterable iter X.env y = pure y := by intro _; rfl) : PS X (.Assign [.Name y py] (.ListComp elt [⟨.Name x px, iter, [], 0⟩] scope pos) spos) (tSetC0 wi fr te k) := by
  intro pins s σ H D I h
  rw [exec_Assign_Name_used _ _ _ _ hsw]
  refine wpAny_bind (wpAny_standAt (wpAny_bind ?_))
  show wpAny _ X.A (do let _ ← comprehension (.ListComp elt [⟨.Name x px, iter, [], 0⟩] scope pos) scope X.env _ (newList []) false (eval iter X.env) (some (assign (.Name y py) X.env))) _ _ s
  refine wpAny_bind (wpAny_mono (comp_core (tc := fun _ H Q => Q true H) (Q := fun v H' => D.nx (σ.set k (some v)) H') (use := some (assign (.Name y py) X.env)) (R := fun _ s' => SP X pins D .next s') hc S hi (fun _ _ _ _ _ => pts_nil) he hs I h (fun acc C m H6 s7 qn hn hend cf cL cC cP cS => by
    have J7 : Inv X pins σ H6 s7 := hend s7.heap ⟨rfl, fun _ _ => rfl⟩
    show wpAny _ X.A (assign (.Name y py) X.env (.ref acc)) _ _ _
    refine wpAny_assign_Name (store_ok2 J7 hN hk hy (v := .ref acc) rfl (fun s8 J8 ⟨a, hsa, ha⟩ => ?_) hf)
    have aC : C ≠ a := by
      rcases ha with e | e
      · rw [e]; exact Ne.symm cL
      · exact Ne.symm (cC _ _ e)
    exact ⟨m, hn.sameBut hsa aC, fun h' hs' => ⟨_, H6, J8.off hs' cS cf (Ne.symm cL) cC cP, qn⟩⟩)) (fun _ s' hq => wpAny_pure (wpAny_pure hq)) fun _ _ e => e)
end

section
variable {X : Cx} {N : List Str} {fr : List Nat} {x : Str} {scope : Scope} {cl : List (Str × Addr)} {elt iter : Expr} {px pos : Pos} {wi : TI} {te : TE}
theorem pe_compC (hc : X.still = true) (S : CompScope X N fr x scope cl) (hi : PI X (.Name x px) iter wi) (he : ∀ (C : Addr) (s0 : Shared) (H0 : Hp) (fp : List Addr) (pins : List (Addr × Obj)), PE (cxC X N scope cl C s0 H0 fp pins) elt te)
    (hs : ∀ y, foldedSetIterable iter X.env y = pure y := by intro _; rfl) : PE X (.ListComp elt [⟨.Name x px, iter, [], 0⟩] scope pos) (tCompC wi fr te) := pe_comp hc S hi he hs
theorem pe_compIfC {cnd : Expr} {tc : TT} (hc : X.still = true) (S : CompScope X N fr x scope cl) (hi : PI X (.Name x px) iter wi) (ht : ∀ (C : Addr) (s0 : Shared) (H0 : Hp) (fp : List Addr) (pins : List (Addr × Obj)), PT (cxC X N scope cl C s0 H0 fp pins) cnd tc) (he : ∀ (C : Addr) (s0 : Shared) (H0 : Hp) (fp : List Addr) (pins : List (Addr × Obj)), PE (cxC X N scope cl C s0 H0 fp pins) elt te)
    (hs : ∀ y, foldedSetIterable iter X.env y = pure y := by intro _; rfl) : PE X (.ListComp elt [⟨.Name x px, iter, [cnd], 0⟩] scope pos) (tCompIfC wi fr tc te) := pe_compIf hc S hi ht he hs
end
theorem same_upd {H0 H : Hp} {p : Addr} {o : HO} (g : Same H0 H) (h : H0 p = none) : Same H0 (upd H p o) := fun b u q => by
  rw [upd_ne (ne_of_none q h)]
  exact g b u q
theorem comp_range {te : TE} {σ : V → St} {H : Hp} {Q : VK} {lo : Int} (n : Nat) (hn : n < sizeLine) (R : Nat → List V → Hp → Prop) (R0 : ∀ p, H p = none → R 0 [] (upd H p (.lst [])))
    (he : ∀ i vs H' acc (Q' : VK), i < n → Same H H' → H acc = none → H' acc = some (.lst vs) → R i vs H' → vs.length = i → (∀ y H2, Same H' H2 → (R (i + 1) (vs ++ [y]) (upd H2 acc (.lst (vs ++ [y])))) → Q' y H2) → te (σ (.int (lo + i))) H' Q')
    (q : ∀ p H' vs, Same H H' → H p = none → H' p = some (.lst vs) → vs.length = n → R n vs H' → Q (.ref p) H') : CompEnd (Itr lo n) Q H te σ := by
  intro acc hacc
  refine ⟨fun i m H' vs => i ≤ n ∧ m = n - i ∧ Same H H' ∧ H' acc = some (.lst vs) ∧ vs.length = i ∧ R i vs H', ⟨n, Nat.zero_le _, by simp, same_new hacc _, upd_same, rfl, R0 _ hacc⟩, ?_⟩
  rintro i m H' vs ⟨hi, rfl, g, ha, hl, r⟩
  refine ⟨ha, ?_⟩
  by_cases h : i = n
  · subst h
    exact .inl ⟨Nat.le_refl _, q acc H' vs g hacc ha hl r⟩
  · refine .inr ⟨by (show i < n; omega), by omega, ?_⟩
    rintro z H2 ⟨rfl, rfl⟩
    refine he i vs H2 acc _ (by omega) g hacc ha r hl fun y H3 g3 r3 => ⟨g3 _ _ ha, n - (i + 1), by omega, by omega, rfl, same_upd (g.trans g3) hacc, upd_same, ?_, r3⟩
    rw [List.length_append, hl]
    rfl
theorem comp_rangeF {te : TE} {σ : V → St} {H : Hp} {Q : VK} {lo : Int} (n : Nat) (hn : n < sizeLine) (f : Nat → V)
    (he : ∀ i H' (Q' : VK), i < n → Same H H' → (∀ H2, Same H' H2 → Q' (f i) H2) → te (σ (.int (lo + i))) H' Q')
    (q : ∀ p H', Same H H' → H p = none → H' p = some (.lst ((List.range n).map f)) → Q (.ref p) H') : CompEnd (Itr lo n) Q H te σ := by
  refine comp_range n hn (fun i vs _ => vs = (List.range i).map f) (fun _ _ => rfl) ?_ ?_
  · intro i vs H' acc Q' hi g h0 h1 r hl k
    refine he i H' Q' hi g fun H2 g2 => k _ _ g2 ?_
    rw [r, List.range_succ, List.map_append]
    rfl
  · intro p H' vs g h0 h1 hl r
    exact q p H' g h0 (r ▸ h1)
theorem comp_listF {K : PySem.W.Frag} {a : Addr} {xs : List V} {te : TE} {σ : V → St} {H : Hp} {Q : VK} (hx : SqL K H a xs) (hn : xs.length < sizeLine) (f : V → V) (hK : ∀ H', Same H H' → SqL K H' a xs)
    (he : ∀ (i : Nat) (x : V) (H' : Hp) (Q' : VK), xs[i]? = some x → Same H H' → (∀ H2, Same H' H2 → Q' (f x) H2) → te (σ x) H' Q')
    (q : ∀ p H', Same H H' → H p = none → H' p = some (.lst (xs.map f)) → Q (.ref p) H') : CompEnd (Itl K a) Q H te σ := by
  intro acc hacc
  refine ⟨fun i m H' vs => i ≤ xs.length ∧ m = xs.length - i ∧ Same H H' ∧ H' acc = some (.lst vs) ∧ vs = (xs.take i).map f, ⟨xs.length, Nat.zero_le _, by simp, same_new hacc _, upd_same, by simp⟩, ?_⟩
  rintro i m H' vs ⟨hi, rfl, g, ha, rfl⟩
  refine ⟨ha, ?_⟩
  by_cases h : i = xs.length
  · refine .inl ⟨⟨xs, hK _ g, by omega⟩, q acc H' g hacc ?_⟩
    rw [ha, h, List.take_length]
  · have hlt : i < xs.length := by omega
    refine .inr ⟨⟨xs, xs[i], hK _ g, by simp [hlt]⟩, by rw [List.length_map, List.length_take]; omega, ?_⟩
    rintro z H2 ⟨rfl, hz⟩
    have hz' := hz xs (hK _ g)
    refine he i z H2 _ hz' g fun H3 g3 => ⟨g3 _ _ ha, xs.length - (i + 1), by omega, by omega, rfl, same_upd (g.trans g3) hacc, upd_same, ?_⟩
    rw [List.take_succ, hz', List.map_append]
    rfl
theorem comp_tupF {K : PySem.W.Frag} {a : Addr} {xs : List V} {te : TE} {σ : V → St} {H : Hp} {Q : VK} (hx : SqT K H a xs) (hn : xs.length < sizeLine) (f : V → V) (hK : ∀ H', Same H H' → SqT K H' a xs)
    (he : ∀ (i : Nat) (x : V) (H' : Hp) (Q' : VK), xs[i]? = some x → Same H H' → (∀ H2, Same H' H2 → Q' (f x) H2) → te (σ x) H' Q')
    (q : ∀ p H', Same H H' → H p = none → H' p = some (.lst (xs.map f)) → Q (.ref p) H') : CompEnd (Itt K a) Q H te σ := by
  intro acc hacc
  refine ⟨fun i m H' vs => i ≤ xs.length ∧ m = xs.length - i ∧ Same H H' ∧ H' acc = some (.lst vs) ∧ vs = (xs.take i).map f, ⟨xs.length, Nat.zero_le _, by simp, same_new hacc _, upd_same, by simp⟩, ?_⟩
  rintro i m H' vs ⟨hi, rfl, g, ha, rfl⟩
  refine ⟨ha, ?_⟩
  by_cases h : i = xs.length
  · refine .inl ⟨⟨xs, hK _ g, by omega⟩, q acc H' g hacc ?_⟩
    rw [ha, h, List.take_length]
  · have hlt : i < xs.length := by omega
    refine .inr ⟨⟨xs, xs[i], hK _ g, by simp [hlt]⟩, by rw [List.length_map, List.length_take]; omega, ?_⟩
    rintro z H2 ⟨rfl, hz⟩
    have hz' := hz xs (hK _ g)
    refine he i z H2 _ hz' g fun H3 g3 => ⟨g3 _ _ ha, xs.length - (i + 1), by omega, by omega, rfl, same_upd (g.trans g3) hacc, upd_same, ?_⟩
    rw [List.take_succ, hz', List.map_append]
    rfl

theorem compIf_walk {J : It} {xs : List V} {tc : TT} {te : TE} {σ : V → St} {H : Hp} {Q : VK} (hn : xs.length < sizeLine) (p : V → Bool) (f : V → V)
    (hstop : ∀ H', Same H H' → J.stop xs.length H') (hgo : ∀ (i : Nat) H', i < xs.length → Same H H' → J.go i H') (hyld : ∀ (i : Nat) H' x H2, Same H H' → J.yld i H' x H2 → H2 = H' ∧ xs[i]? = some x)
    (ht : ∀ (i : Nat) (x : V) (H' : Hp) (Q' : Bool → Hp → Prop), xs[i]? = some x → Same H H' → (∀ H2, Same H' H2 → Q' (p x) H2) → tc (σ x) H' Q')
    (he : ∀ (i : Nat) (x : V) (H' : Hp) (Q' : VK), xs[i]? = some x → p x = true → Same H H' → (∀ H2, Same H' H2 → Q' (f x) H2) → te (σ x) H' Q')
    (q : ∀ a H', Same H H' → H a = none → H' a = some (.lst ((xs.filter p).map f)) → Q (.ref a) H') : CompIfEnd J Q H tc te σ := by
  intro acc hacc
  refine ⟨fun i m H' vs => i ≤ xs.length ∧ m = xs.length - i ∧ Same H H' ∧ H' acc = some (.lst vs) ∧ vs = ((xs.take i).filter p).map f, ⟨xs.length, Nat.zero_le _, by simp, same_new hacc _, upd_same, by simp⟩, ?_⟩
  rintro i m H' vs ⟨hi, rfl, g, ha, rfl⟩
  refine ⟨ha, ?_⟩
  by_cases h : i = xs.length
  · refine .inl ⟨h ▸ hstop _ g, q acc H' g hacc ?_⟩
    rw [ha, h, List.take_length]
  · have hlt : i < xs.length := by omega
    refine .inr ⟨hgo i _ hlt g, ?_, ?_⟩
    · rw [List.length_map]
      have h1 := List.length_filter_le p (xs.take i)
      rw [List.length_take] at h1
      omega
    intro z H2 hz
    obtain ⟨rfl, hz'⟩ := hyld i _ _ _ g hz
    refine ht i z H2 _ hz' g fun H3 g3 => ?_
    have ts : xs.take (i + 1) = xs.take i ++ [z] := by rw [List.take_succ, hz']; rfl
    cases e : p z with
    | true =>
      rw [if_pos rfl]
      refine he i z H3 _ hz' e (g.trans g3) fun H4 g4 => ⟨g4 _ _ (g3 _ _ ha), xs.length - (i + 1), by omega, by omega, rfl, same_upd (g.trans (g3.trans g4)) hacc, upd_same, ?_⟩
      rw [ts, List.filter_append, List.map_append]
      have : [z].filter p = [z] := by simp [e]
      rw [this]
      rfl
    | false =>
      rw [if_neg Bool.false_ne_true]
      refine ⟨xs.length - (i + 1), by omega, by omega, rfl, g.trans g3, g3 _ _ ha, ?_⟩
      rw [ts, List.filter_append, List.map_append]
      have : [z].filter p = [] := by simp [e]
      rw [this]
      simp
theorem compIf_tupF {K : PySem.W.Frag} {a : Addr} {xs : List V} {tc : TT} {te : TE} {σ : V → St} {H : Hp} {Q : VK} (hn : xs.length < sizeLine) (p : V → Bool) (f : V → V) (hK : ∀ H', Same H H' → SqT K H' a xs)
    (ht : ∀ (i : Nat) (x : V) (H' : Hp) (Q' : Bool → Hp → Prop), xs[i]? = some x → Same H H' → (∀ H2, Same H' H2 → Q' (p x) H2) → tc (σ x) H' Q')
    (he : ∀ (i : Nat) (x : V) (H' : Hp) (Q' : VK), xs[i]? = some x → p x = true → Same H H' → (∀ H2, Same H' H2 → Q' (f x) H2) → te (σ x) H' Q')
    (q : ∀ a H', Same H H' → H a = none → H' a = some (.lst ((xs.filter p).map f)) → Q (.ref a) H') : CompIfEnd (Itt K a) Q H tc te σ :=
  compIf_walk hn p f (fun H' g => ⟨xs, hK _ g, Nat.le_refl _⟩) (fun i H' hi g => ⟨xs, xs[i], hK _ g, by simp [hi]⟩) (fun i H' x H2 g h => ⟨h.1, h.2 xs (hK _ g)⟩) ht he q
theorem compIf_listF {K : PySem.W.Frag} {a : Addr} {xs : List V} {tc : TT} {te : TE} {σ : V → St} {H : Hp} {Q : VK} (hn : xs.length < sizeLine) (p : V → Bool) (f : V → V) (hK : ∀ H', Same H H' → SqL K H' a xs)
    (ht : ∀ (i : Nat) (x : V) (H' : Hp) (Q' : Bool → Hp → Prop), xs[i]? = some x → Same H H' → (∀ H2, Same H' H2 → Q' (p x) H2) → tc (σ x) H' Q')
    (he : ∀ (i : Nat) (x : V) (H' : Hp) (Q' : VK), xs[i]? = some x → p x = true → Same H H' → (∀ H2, Same H' H2 → Q' (f x) H2) → te (σ x) H' Q')
    (q : ∀ a H', Same H H' → H a = none → H' a = some (.lst ((xs.filter p).map f)) → Q (.ref a) H') : CompIfEnd (Itl K a) Q H tc te σ :=
  compIf_walk hn p f (fun H' g => ⟨xs, hK _ g, Nat.le_refl _⟩) (fun i H' hi g => ⟨xs, xs[i], hK _ g, by simp [hi]⟩) (fun i H' x H2 g h => ⟨h.1, h.2 xs (hK _ g)⟩) ht he q
mutual
inductive DA (H : Hp) : V → PyData → Prop where
  | int {i : Int} : DA H (.int i) (.int i)
  | bl {b : Bool} : DA H (.bl b) (.bool b)
  | str {x : Str} : DA H (.str x) (.str x)
  | lst {p : Addr} {xs : List V} {ds : List PyData} : H p = some (.lst xs) → DAs H xs ds → DA H (.ref p) (.list ds)
  | tup {p : Addr} {xs : List V} {ds : List PyData} : H p = some (.tup xs) → DAs H xs ds → DA H (.ref p) (.tuple ds)
inductive DAs (H : Hp) : List V → List PyData → Prop where
  | nil : DAs H [] []
  | cons {x : V} {d : PyData} {xs : List V} {ds : List PyData} : DA H x d → DAs H xs ds → DAs H (x :: xs) (d :: ds)
end
mutual
theorem DA.reads {X : Cx} {pins : List (Addr × Obj)} {σ : St} {H : Hp} {s : Shared} (I : Inv X pins σ H s) : ∀ {v : V} {d : PyData} {u : Value}, DA H v d → RelV v u → ∃ as, Reads s.heap u d as
  | _, _, _, .int, r => by obtain ⟨t, rfl⟩ := r; exact ⟨_, .int _ _⟩
  | _, _, _, .bl, r => by cases r; exact ⟨_, .bool _⟩
  | _, _, _, .str, r => by obtain ⟨t, rfl⟩ := r; exact ⟨_, .str _ _⟩
  | _, _, _, .lst h hs, r => by
    cases r
    obtain ⟨its, rv, ⟨o, n, e1, e2, _, e3⟩, _⟩ := I.list (SqL.of h)
    obtain ⟨as, z⟩ := DAs.reads I hs rv
    exact ⟨_, .list e1 e2 e3 z⟩
  | _, _, _, .tup h hs, r => by
    cases r
    obtain ⟨its, rv, ⟨o, e1, e2, n, e3⟩, _⟩ := I.tuple (SqT.of h)
    obtain ⟨as, z⟩ := DAs.reads I hs rv
    exact ⟨_, .tuple e1 e2 e3 z⟩
theorem DAs.reads {X : Cx} {pins : List (Addr × Obj)} {σ : St} {H : Hp} {s : Shared} (I : Inv X pins σ H s) : ∀ {vs : List V} {ds : List PyData} {us : List Value}, DAs H vs ds → Vals vs us → ∃ as, ReadsAll s.heap us ds as
  | _, _, _, .nil, r => by cases r; exact ⟨_, .nil⟩
  | _, _, _, .cons h hs, r => by
    cases r with
    | cons r1 r2 =>
      obtain ⟨a1, z1⟩ := DA.reads I h r1
      obtain ⟨a2, z2⟩ := DAs.reads I hs r2
      exact ⟨_, .cons z1 z2⟩
end
theorem DAs.ints {H : Hp} : ∀ ns : List Int, DAs H (ns.map V.int) (ns.map PyData.int)
  | [] => .nil
  | _ :: ns => .cons .int (DAs.ints ns)
def rEqD : R2 := fun x y H Q => ∃ da db : PyData, DA H x da ∧ DA H y db ∧ SeqAt.shaped da = true ∧ SeqAt.shaped db = true ∧ Q (.bl (PyData.eqv da db)) H
def rNeD : R2 := fun x y H Q => ∃ da db : PyData, DA H x da ∧ DA H y db ∧ SeqAt.shaped da = true ∧ SeqAt.shaped db = true ∧ Q (.bl (!PyData.eqv da db)) H
theorem op_eqD {X : Cx} (hu : X.A.units + 64 < cLine) : OpR X (compareOp .Eq) rEqD := by
  intro pins s σ H x y v u Q I rx ry h
  obtain ⟨da, db, ha, hb, sa, sb, q⟩ := h
  obtain ⟨as, ra⟩ := ha.reads I rx
  obtain ⟨bs, rb⟩ := hb.reads I ry
  exact eq_dataH ra rb sa sb hu ⟨.bl _, H, I, rfl, q⟩
theorem op_neD {X : Cx} (hu : X.A.units + 64 < cLine) : OpR X (compareOp .NotEq) rNeD := by
  intro pins s σ H x y v u Q I rx ry h
  obtain ⟨da, db, ha, hb, sa, sb, q⟩ := h
  obtain ⟨as, ra⟩ := ha.reads I rx
  obtain ⟨bs, rb⟩ := hb.reads I ry
  exact ne_dataH ra rb sa sb hu ⟨.bl _, H, I, rfl, q⟩
end L2

namespace L2
open PySem PySem.Spec PyProof.Rows

structure CompScope2 (X : Cx) (N : List Str) (fr : List Nat) (x x2 : Str) (scope : Scope) (cl : List (Str × Addr)) : Prop where
  kind : scope.kind = .function
  nocell : ∀ y ∈ scope.names, y.2 ≠ .cell
  loc : ∀ y ∈ scope.names, y.2 = .local → scope.names.lookup y.1 = some .local
  own : scope.names.lookup x = some .local
  own2 : scope.names.lookup x2 = some .local
  clos : closureFor scope X.env = pure cl
  sub : ∀ y c, cl.lookup y = some c → X.env.cells.lookup y = some c
  has : ∀ y, ((relabel scope X.env).names.lookup y = some .cell ∨ (relabel scope X.env).names.lookup y = some .free) → ∃ c, cl.lookup y = some c
  nd : N.Nodup
  hN : N[0]? = some x
  hN2 : N[1]? = some x2
  len : N.length = fr.length + 2
  ownOnly : ∀ (j : Nat) (y : Str), N[j + 2]? = some y → (relabel scope X.env).names.lookup y ≠ some .local
  out : ∀ (j k : Nat), fr[j]? = some k → ∃ y, N[j + 2]? = some y ∧ X.N[k]? = some y ∧ X.env.kindOf y = some .cell
def compSt2 (σ : St) (fr : List Nat) (v v2 : Option V) : St := v :: v2 :: fr.map fun k => (σ[k]?).join
def CompPEnd (K : PySem.W.Frag) (J : It) (Q : VK) (H1 : Hp) (te : TE) (σ : V → V → St) : Prop := ∀ acc, H1 acc = none → ∃ W : Nat → Nat → Hp → List V → Prop, (∃ m, W 0 m (upd H1 acc (.lst [])) []) ∧
  ∀ i m H' vs, W i m H' vs → H' acc = some (.lst vs) ∧ ((J.stop i H' ∧ Q (.ref acc) H') ∨ (J.go i H' ∧ vs.length < sizeLine ∧ ∀ x H2, J.yld i H' x H2 → ∃ (t : Addr) (v1 v2 : V), x = .ref t ∧ SqT K H2 t [v1, v2] ∧ te (σ v1 v2) H2 fun y H3 => H3 acc = some (.lst vs) ∧ ∃ m', m' < m ∧ W (i + 1) m' (upd H3 acc (.lst (vs ++ [y]))) (vs ++ [y])))
def tCompP (K : PySem.W.Frag) (wi : TI) (fr : List Nat) (te : TE) : TE := fun σ H Q => wi σ H fun J H1 => CompPEnd K J Q H1 te (fun v1 v2 => compSt2 σ fr (some v1) (some v2))
theorem compLoop_pairIf {P : Program} {w : World} {A : Around} {s : Shared} {elt iter : Expr} {ifs : List Expr} {es : List Expr} {x1 : Nat} {tp : Pos} {scope : Scope} {pos : Pos} {it acc : Value} {env : Env} {R : Result → Shared → Prop} (I : Nat → Shared → Prop)
    (turn : ∀ n s, I n s → wpAny (model P w) A (pyNext it) (fun r s₁ => match r with
      | none => R (.ok .next) s₁
      | some v => wpAny (model P w) A (letOwnedTupleGo (.Tuple es x1 tp) it v) (fun _ s₁' => wpAny (model P w) A (assign (.Tuple es x1 tp) env v) (fun _ s₂ =>
          wpAny (model P w) A (forIn ifs true fun c r => if r = true then do let ok ← isTrue c env (eval c env); pure (ForInStep.yield ok) else pure (ForInStep.yield r)) (fun ok s₃ =>
            if ok = true then wpAny (model P w) A (eval elt env) (fun x s₄ =>
              wpAny (model P w) A (call (.builtin "list.append") [acc, x]) (fun _ s₅ => ∃ m, m < n ∧ I m s₅) (notedBy (model P w) A env fun e s' => R (.error e) s') s₄) (notedBy (model P w) A env fun e s' => R (.error e) s') s₃
            else ∃ m, m < n ∧ I m s₃) (notedBy (model P w) A env fun e s' => R (.error e) s') s₂)
          (notedBy (model P w) A env fun e s' => R (.error e) s') s₁') (notedBy (model P w) A env fun e s' => R (.error e) s') s₁) (notedBy (model P w) A env fun e s' => R (.error e) s') s)
    (n : Nat) (h : I n s) : codeAny (model P w) A (.compLoop (.ListComp elt [⟨.Tuple es x1 tp, iter, ifs, 0⟩] scope pos) 0 it acc env) R s := by
  refine codeAny_loop rfl I (fun m s1 hI => ?_) n h
  show wpAny _ A ((compTurn (.ListComp elt [⟨.Tuple es x1 tp, iter, ifs, 0⟩] scope pos) 0 it acc env).onRaise (fun x => do noteFrame x env; theTreesLotGoes x)) _ _ s1
  refine wpAny_noted ?_
  rw [compTurn_list]
  refine wpAny_bind (wpAny_standAt (wpAny_bind (wpAny_mono (turn m s1 hI) (fun r s2 k2 => ?_) fun _ _ z => z)))
  cases r with
  | none => exact wpAny_pure k2
  | some v =>
    refine wpAny_bind (wpAny_mono k2 (fun _ s3 k3 => ?_) fun _ _ z => z)
    refine wpAny_bind (wpAny_mono k3 (fun _ s4 k4 => wpAny_bind (wpAny_mono k4 (fun ok s5 k5 => ?_) fun _ _ z => z)) fun _ _ z => z)
    cases ok with
    | false => exact wpAny_pure ⟨rfl, k5⟩
    | true =>
      exact wpAny_bind (wpAny_bind (wpAny_mono k5 (fun x s6 k6 => wpAny_bind (wpAny_mono k6 (fun _ s7 k7 => wpAny_pure (wpAny_pure ⟨rfl, k7⟩)) fun _ _ z => z)) fun _ _ z => z))
def CompPIEnd (K : PySem.W.Frag) (J : It) (Q : VK) (H1 : Hp) (tc : TT) (te : TE) (σ : V → V → St) : Prop := ∀ acc, H1 acc = none → ∃ W : Nat → Nat → Hp → List V → Prop, (∃ m, W 0 m (upd H1 acc (.lst [])) []) ∧
  ∀ i m H' vs, W i m H' vs → H' acc = some (.lst vs) ∧ ((J.stop i H' ∧ Q (.ref acc) H') ∨ (J.go i H' ∧ vs.length < sizeLine ∧ ∀ x H2, J.yld i H' x H2 → ∃ (t : Addr) (v1 v2 : V), x = .ref t ∧ SqT K H2 t [v1, v2] ∧ tc (σ v1 v2) H2 fun b H3 =>
    if b = true then te (σ v1 v2) H3 fun y H4 => H4 acc = some (.lst vs) ∧ ∃ m', m' < m ∧ W (i + 1) m' (upd H4 acc (.lst (vs ++ [y]))) (vs ++ [y]) else ∃ m', m' < m ∧ W (i + 1) m' H3 vs))
def tCompPI (K : PySem.W.Frag) (wi : TI) (fr : List Nat) (tc : TT) (te : TE) : TE := fun σ H Q => wi σ H fun J H1 => CompPIEnd K J Q H1 tc te (fun v1 v2 => compSt2 σ fr (some v1) (some v2))
section
variable {X : Cx} {N : List Str} {fr : List Nat} {x x2 : Str} {scope : Scope} {cl : List (Str × Addr)} {elt iter : Expr} {px px2 tp pos : Pos} {kt : Nat} {wi : TI} {te : TE}
theorem cxC_ok2 {pins : List (Addr × Obj)} {σ : St} {H : Hp} {s : Shared} {fp : List Addr} {C : Addr} (S : CompScope2 X N fr x x2 scope cl) (I : Inv X pins σ H s) (hf : ∀ b ∈ fp, FpOk X pins H b) (hC : s.heap.objs.size ≤ C) (hfl : ∀ b ∈ fp, b < s.heap.objs.size) : (cxC X N scope cl C s H fp pins).Ok where
  mod := I.ok.mod
  kind := S.kind
  glob := I.ok.glob
  blt := I.ok.blt
  above := hC
  inj := fun y z c h1 h2 => I.ok.inj y z c (S.sub _ _ h1) (S.sub _ _ h2)
  has := fun y h => S.has y h
  cab := fun y c h => by cases h
  hd := I.ok.hd
  hs := I.ok.hs
  frames := I.ok.frames
  stk := .inl rfl
  exf := fun b hb => ⟨Nat.ne_of_lt (Nat.lt_of_lt_of_le (hfl b hb) hC), fun y c h => (hf b hb).2.2.2.2.1 y c (S.sub _ _ h)⟩
  bs := fun b o e => I.bs b o e
  bsz := Nat.le_trans I.ok.bsz I.sz
  noex := fun b o e hb => by
    rcases (hf b hb).2.2.2.1 with z | z
    · exact I.ok.noex b o e z
    · exact absurd (Nat.lt_of_lt_of_le (Heap.lt_size e) (Nat.le_trans I.ok.bsz z)) (Nat.lt_irrefl _)
  exfs := fun b hb z => by
    rcases List.mem_cons.mp (I.stkSub b z) with e | e
    · exact (hf b hb).2.1 e
    · exact (hf b hb).2.2.1 e
  funs := I.stack
  frf := I.stkFree
theorem cxC_start2 {pins : List (Addr × Obj)} {σ : St} {H : Hp} {s s4 : Shared} {fp : List Addr} {C : Addr} {m : Str → Option Value} (S : CompScope2 X N fr x x2 scope cl) (I : Inv X pins σ H s) (hf : ∀ b ∈ fp, FpOk X pins H b) (hC : s.heap.objs.size ≤ C) (hfl : ∀ b ∈ fp, b < s.heap.objs.size)
    (hn : s4.heap.Ns C m) (hk : ∀ b o, s.heap.get? b = some o → s4.heap.get? b = some o) (ho : s4.os = s.os) (hg : s4.gens = s.gens) : Inv (cxC X N scope cl C s H fp pins) [] (compSt2 σ fr none none) H s4 := by
  obtain ⟨m0, hn0, hl⟩ := id I.loc
  refine ⟨cxC_ok2 S I hf hC hfl, I.fzs, ho, by rw [hg]; exact I.bare, Un.kept hk, ⟨m, hn, fun i y v e1 e2 e3 => ?_⟩, fun y c h => ?_, I.hok.fresh hC, fun y c h => I.freeC y c (S.sub _ _ h), fun p hp => ?_, I.hok.kept hk, ?_⟩
  · match i, e1, e2 with
    | 0, e1, e2 => cases e2
    | 1, e1, e2 => cases e2
    | j + 2, e1, e2 =>
      have e2' : (fr.map fun k => (σ[k]?).join)[j]? = some (some v) := e2
      rw [List.getElem?_map] at e2'
      cases ek : fr[j]? with
      | none => rw [ek] at e2'; cases e2'
      | some k =>
        rw [ek] at e2'
        have e4 : (σ[k]?).join = some v := Option.some.inj e2'
        obtain ⟨y', h1, h2, h3⟩ := S.out j k ek
        have e1' : N[j + 2]? = some y := e1
        obtain rfl : y' = y := Option.some.inj (h1.symm.trans e1')
        have e5 : σ[k]? = some (some v) := by
          cases q : σ[k]? with
          | none => rw [q] at e4; cases e4
          | some w => rw [q] at e4; exact congrArg some e4
        obtain ⟨u, r, lk⟩ := hl k y' v h2 e5 (.inr (.inl h3))
        refine ⟨u, r, .inr ?_⟩
        rcases lk with ⟨z, _⟩ | ⟨_, c, hc, hcell⟩
        · rw [h3] at z; cases z
        · have e6 : Vis (relabel scope X.env) y' := e3
          have hk2 : (relabel scope X.env).names.lookup y' = some .cell ∨ (relabel scope X.env).names.lookup y' = some .free := by
            rcases e6 with e6 | e6 | e6
            · exfalso
              have nd := S.nd
              -- a name of the block's own is the first one
              exact S.ownOnly _ _ h1 e6
            · exact .inl e6
            · exact .inr e6
          obtain ⟨c2, hc2⟩ := S.has y' hk2
          have := S.sub _ _ hc2
          rw [hc] at this; cases this
          obtain ⟨o, z1, z2⟩ := hcell
          exact ⟨hk2, c, hc2, o, hk _ _ z1, z2⟩
  · obtain ⟨v, o, z1, z2⟩ := I.cell y c (S.sub _ _ h)
    exact ⟨v, o, hk _ _ z1, z2⟩
  · rw [List.append_nil] at hp
    obtain ⟨e, k, ne, nf, d⟩ := I.pin p hp
    refine ⟨hk _ _ e, k, Nat.ne_of_lt (Nat.lt_of_lt_of_le (Heap.lt_size e) hC), fun z => ?_, d⟩
    rcases List.mem_cons.mp (I.stkSub _ z) with q | q
    · exact ne q
    · exact nf q
  · show (compSt2 σ fr none none).length = N.length
    rw [S.len]
    simp [compSt2]
theorem comp_core2 {ifs : List Expr} {tc : TT} {use : Option (Value → Sem Unit)} {R : Value → Shared → Prop} {Q : VK} {pins : List (Addr × Obj)} {s : Shared} {σ : St} {H : Hp} {ep : Pos} (hc : X.still = true) (S : CompScope2 X N fr x x2 scope cl) (hi : PI X (.Tuple [.Name x px, .Name x2 px2] kt tp) iter wi)
    (ht : ∀ (C : Addr) (s0 : Shared) (H0 : Hp) (fp : List Addr) (pins : List (Addr × Obj)), PTs (cxC X N scope cl C s0 H0 fp pins) ifs tc) (he : ∀ (C : Addr) (s0 : Shared) (H0 : Hp) (fp : List Addr) (pins : List (Addr × Obj)), PE (cxC X N scope cl C s0 H0 fp pins) elt te)
    (hs : ∀ y, foldedSetIterable iter X.env y = pure y) (I : Inv X pins σ H s) (h : tCompPI X.K wi fr tc te σ H Q)
    (fin : ∀ (acc C : Addr) (m : Str → Option Value) (H6 : Hp) (s7 : Shared), Q (.ref acc) H6 → s7.heap.Ns C m → (∀ h' : Heap, Heap.SameBut C s7.heap h' → Inv X pins σ H6 { s7 with heap := h' }) → H6 C = none → X.env.locals ≠ C → (∀ z c, X.env.cells.lookup z = some c → c ≠ C) → (∀ p ∈ X.pn ++ pins, p.1 ≠ C) → X.s₀.heap.objs.size ≤ C → compPost (model X.prog X.w) X.A X.xe use R (.ref acc) C (.ok .next) s7) :
    wpAny (model X.prog X.w) X.A (comprehension (.ListComp elt [⟨.Tuple [.Name x px, .Name x2 px2] kt tp, iter, ifs, 0⟩] scope pos) scope X.env ep (newList []) false (eval iter X.env) use) R X.xe s := by
  refine wpAny_comprehension_free (use := use) rfl hs S.clos S.kind S.loc (thn (hi pins s σ H _ I h) fun v s1 h1 => thn h1 fun itv s2 h2 => ?_)
  obtain ⟨it, fp, tn, J, H2, e, I2, T, st2, f2, hW⟩ := h2
  subst e
  have hfl : ∀ b ∈ fp, b < s2.heap.objs.size := fun b hb => by
    obtain ⟨o, q, _⟩ := T.obj _ _ st2 b hb
    exact Heap.lt_size q
  have hfr : H2 s2.heap.objs.size = none := I2.hok.fresh (Nat.le_refl _)
  refine wpAny_newObj_type ?_
  have keep3 : ∀ b o, s2.heap.get? b = some o → (s2.heap.push { cls := .type "list", dict := none, data := .seq ([] : List Value).toArray }).get? b = some o := fun b o q => Heap.get?_push_of_some _ q
  have I3 : Inv X pins σ (upd H2 s2.heap.objs.size (.lst [])) { s2 with heap := s2.heap.push { cls := .type "list", dict := none, data := .seq ([] : List Value).toArray } } :=
    I2.laid (t' := s2.toks) keep3 (Nat.le_refl _) ⟨Nat.zero_le _, [], 0, .nil, Heap.get?_push_size _ rfl⟩
  obtain ⟨W, ⟨m0, w0⟩, turn⟩ := hW s2.heap.objs.size hfr
  have f3 : ∀ b ∈ fp, FpOk X pins (upd H2 s2.heap.objs.size (.lst [])) b := fun b hb => ⟨by rw [upd_ne (Nat.ne_of_lt (hfl b hb))]; exact (f2 b hb).1, (f2 b hb).2⟩
  refine wpAny_newFunctionEnv S.nocell (by intro y hy; simp at hy) (fun h4 hns hsb => ?_) S.kind
  have hfl3 : ∀ b ∈ fp, b < (s2.heap.push { cls := .type "list", dict := none, data := .seq ([] : List Value).toArray }).objs.size := fun b hb => by
    rw [Heap.size_push]
    exact Nat.lt_succ_of_lt (hfl b hb)
  have keep4 : ∀ b o, (s2.heap.push { cls := .type "list", dict := none, data := .seq ([] : List Value).toArray }).get? b = some o → h4.get? b = some o := fun b o q =>
    (hsb.2 b (Nat.ne_of_lt (Heap.lt_size q))).trans (Heap.get?_push_of_some _ q)
  have I4 : Inv (cxC X N scope cl (s2.heap.push { cls := .type "list", dict := none, data := .seq ([] : List Value).toArray }).objs.size { s2 with heap := s2.heap.push { cls := .type "list", dict := none, data := .seq ([] : List Value).toArray } } (upd H2 s2.heap.objs.size (.lst [])) fp pins) [] (compSt2 σ fr none none) (upd H2 s2.heap.objs.size (.lst []))
      { s2 with heap := h4, toks := s2.toks + ([] : List (Str × Value)).length } := cxC_start2 S I3 f3 (Nat.le_refl _) hfl3 hns keep4 rfl rfl
  have st4 : tn 0 h4 := T.keep _ _ _ st2 fun b hb o q => keep4 b o (keep3 b o q)
  generalize hY : cxC X N scope cl (s2.heap.push { cls := .type "list", dict := none, data := .seq ([] : List Value).toArray }).objs.size { s2 with heap := s2.heap.push { cls := .type "list", dict := none, data := .seq ([] : List Value).toArray } } (upd H2 s2.heap.objs.size (.lst [])) fp pins = Y at I4
  have hel : PE Y elt te := hY ▸ he _ _ _ _ _
  have htl : PTs Y ifs tc := hY ▸ ht _ _ _ _ _
  have eA : Y.A = X.A := by rw [← hY]; rfl
  have eP : Y.prog = X.prog := by rw [← hY]; rfl
  have ew : Y.w = X.w := by rw [← hY]; rfl
  have eK : Y.K = X.K := by rw [← hY]; rfl
  have eC : Y.still = true := by rw [← hY]; exact hc
  have eE : Y.env = compEnvC scope cl (s2.heap.push { cls := .type "list", dict := none, data := .seq ([] : List Value).toArray }).objs.size X.env := by rw [← hY]; rfl
  have eX : Y.xe = fun _ _ => False := by rw [← hY]; rfl
  have hg : PG Y (.Tuple [.Name x px, .Name x2 px2] kt tp) (gTup Y.K 2 (gCons (gName 0) (gCons (gName 1) gNil))) := by
    refine pg_tup eC (pgs_cons ?_ (pgs_cons ?_ pgs_nil)) (by rfl) (by rfl)
    · subst hY
      exact pg_name (i := 0) S.nd S.hN (.inl (lookup_relabel_local S.own)) (.inr (lookup_relabel_local S.own))
    · subst hY
      exact pg_name (i := 1) S.nd S.hN2 (.inl (lookup_relabel_local S.own2)) (.inr (lookup_relabel_local S.own2))
  have fY : ∀ {H' : Hp}, (∀ b ∈ fp, H' b = none) → ∀ b ∈ fp, FpOk Y [] H' b := fun {H'} hn b hb => by
    subst hY
    obtain ⟨_, g2, g3, g4, g5, g6⟩ := f3 b hb
    refine ⟨hn b hb, Nat.ne_of_lt (hfl3 b hb), fun z => ?_, .inl hb, fun y c q => g5 y c (S.sub _ _ q), fun p hp => ?_⟩
    · rcases List.mem_cons.mp (I3.stkSub b z) with q | q
      · exact g2 q
      · exact g3 q
    · rw [List.append_nil] at hp
      exact g6 p hp
  have loop : ∀ s5 : Shared, s5 = { s2 with heap := h4, toks := s2.toks + ([] : List (Str × Value)).length } →
      codeAny (model X.prog X.w) X.A (.compLoop (.ListComp elt [⟨.Tuple [.Name x px, .Name x2 px2] kt tp, iter, ifs, 0⟩] scope pos) 0 (.ref it) (.ref s2.heap.objs.size) (compEnvC scope cl (s2.heap.push { cls := .type "list", dict := none, data := .seq ([] : List Value).toArray }).objs.size X.env))
        (compPost (model X.prog X.w) X.A X.xe use R (.ref s2.heap.objs.size) (s2.heap.push { cls := .type "list", dict := none, data := .seq ([] : List Value).toArray }).objs.size) s5 := by
    rintro s5 rfl
    refine compLoop_pairIf (fun n s' => ∃ i v v2 H' vs, Inv Y [] (compSt2 σ fr v v2) H' s' ∧ tn i s'.heap ∧ (∀ b ∈ fp, H' b = none) ∧ W i n H' vs) ?_ m0 ⟨0, none, none, _, [], I4, st4, fun b hb => (f3 b hb).1, w0⟩
    rintro n s6 ⟨i, v6, v62, H6, vs, I6, st6, fr6, w6⟩
    obtain ⟨hacc, hgo⟩ := turn i n H6 vs w6
    rcases hgo with ⟨stop, qn⟩ | ⟨go, hz, step⟩
    · have hd := T.done Y eP ew eK eC i [] s6 _ H6 (fun _ _ => False) I6 (fY fr6) st6 stop
      rw [eA] at hd
      refine wpAny_mono hd (fun r s7 ⟨hr, I7⟩ => ?_) fun _ _ z => z.elim
      subst hr
      obtain ⟨m, hn, _⟩ := id I7.loc
      rw [eE] at hn
      have hend : ∀ h' : Heap, Heap.SameBut (s2.heap.push { cls := .type "list", dict := none, data := .seq ([] : List Value).toArray }).objs.size s7.heap h' → Inv X pins σ H6 { s7 with heap := h' } := fun h' hs' => by
        subst hY
        exact cxC_end I3 f3 (Nat.le_refl _) I7 hs'
      have cf : H6 (s2.heap.push { cls := .type "list", dict := none, data := .seq ([] : List Value).toArray }).objs.size = none := by
        subst hY
        exact I7.free
      have big : ∀ b o, s2.heap.get? b = some o → b ≠ (s2.heap.push { cls := .type "list", dict := none, data := .seq ([] : List Value).toArray }).objs.size := fun b o q => Nat.ne_of_lt (by rw [Heap.size_push]; exact Nat.lt_succ_of_lt (Heap.lt_size q))
      obtain ⟨m2, hn2, _⟩ := id I2.loc
      obtain ⟨oL, _, _, hoL, _⟩ := id hn2
      exact fin _ _ m H6 s7 qn hn hend cf (big _ _ hoL) (fun z c q => by
        obtain ⟨_, o, w1, _⟩ := I2.cell z c q
        exact big _ _ w1) (fun p hp => by
        obtain ⟨e, _⟩ := I2.pin p hp
        exact big _ _ e) (by
        rw [Heap.size_push]
        exact Nat.le_succ_of_le (Nat.le_trans (Nat.le_refl _) I2.sz))
    · have hd := T.item Y eP ew eK eC i [] s6 _ H6 (fun _ _ => False) I6 (fY fr6) st6 go
      rw [eA] at hd
      refine wpAny_mono hd (fun r s7 ⟨u, hr, h7⟩ => ?_) fun _ _ z => z.elim
      subst hr
      refine wpAny_mono h7 (fun _ s8 ⟨y, H8, I8, r8, y8, st8, fr8⟩ => ?_) fun _ _ z => z.elim
      have I8' := I8.pinned (fY fr8) (T.obj _ _ st8)
      obtain ⟨ta, va, vb, ey, hta, step'⟩ := step y _ y8
      have h9 := hg _ s8 _ H8 y u (fun σ9 H9 => σ9 = compSt2 σ fr (some va) (some vb) ∧ H9 = H8) I8' r8 ⟨ta, [va, vb], ey, by rw [eK]; exact hta, rfl, va, [vb], rfl, vb, [], rfl, rfl, rfl, rfl⟩
      rw [eA, eP, ew, eE, eX] at h9
      refine wpAny_mono h9 (fun _ s9 ⟨σ9, H9, I9, e9, e9'⟩ => ?_) fun _ _ z => z.elim
      subst e9 e9'
      have ht10 := htl _ s9 _ _ _ I9 step'
      rw [eA, eP, ew, eE, eX] at ht10
      refine wpAny_mono ht10 (fun ok s9t ⟨H9t, I9t, q9t⟩ => ?_) fun _ _ z => z.elim
      cases ok with
      | false =>
        rw [if_neg Bool.false_ne_true] at q9t
        rw [if_neg Bool.false_ne_true]
        obtain ⟨m', hm, w10⟩ := q9t
        refine ⟨m', hm, i + 1, some va, some vb, _, vs, I9t.unpinned, T.keep _ _ _ st8 fun b hb o q => (I9t.pin (b, o) (List.mem_append_right _ (List.mem_append_right _ (mem_pinsAt hb q)))).1, fun b hb => ?_, w10⟩
        obtain ⟨o, q, _⟩ := T.obj _ _ st8 b hb
        exact (I9t.pin (b, o) (List.mem_append_right _ (List.mem_append_right _ (mem_pinsAt hb q)))).2.1
      | true =>
      rw [if_pos rfl] at q9t
      rw [if_pos rfl]
      have h10 := hel _ s9t _ _ _ I9t q9t
      rw [eA, eP, ew, eE, eX] at h10
      refine wpAny_mono h10 (fun u10 s10 ⟨z10, H10, I10, r10, a10, m', hm, w10⟩ => ?_) fun _ _ z => z.elim
      have h11 := mt_append _ s10 _ H10 (.ref s2.heap.objs.size) [z10] (.ref s2.heap.objs.size) [u10] (fun _ H11 => H11 = upd H10 s2.heap.objs.size (.lst (vs ++ [z10]))) I10 rfl (.cons r10 .nil) ⟨_, vs, z10, rfl, rfl, a10, hz, rfl⟩
      rw [eA, eP, ew, eX] at h11
      refine wpAny_mono h11 (fun _ s11 ⟨_, H11, I11, _, e11⟩ => ?_) fun _ _ z => z.elim
      subst e11
      refine ⟨m', hm, i + 1, some va, some vb, _, vs ++ [z10], I11.unpinned, T.keep _ _ _ st8 fun b hb o q => (I11.pin (b, o) (List.mem_append_right _ (List.mem_append_right _ (mem_pinsAt hb q)))).1, fun b hb => ?_, w10⟩
      obtain ⟨o, q, _⟩ := T.obj _ _ st8 b hb
      exact (I11.pin (b, o) (List.mem_append_right _ (List.mem_append_right _ (mem_pinsAt hb q)))).2.1
  exact codeAny_compStart_list (loop _ rfl) (T.self _ 0 _ _ _ st4 (loop _ rfl))
theorem pe_compPair (hc : X.still = true) (S : CompScope2 X N fr x x2 scope cl) (hi : PI X (.Tuple [.Name x px, .Name x2 px2] kt tp) iter wi) (he : ∀ (C : Addr) (s0 : Shared) (H0 : Hp) (fp : List Addr) (pins : List (Addr × Obj)), PE (cxC X N scope cl C s0 H0 fp pins) elt te)
    (hs : ∀ y, foldedSetIterable iter X.env y = pure y := by intro _; rfl) : PE X (.ListComp elt [⟨.Tuple [.Name x px, .Name x2 px2] kt tp, iter, [], 0⟩] scope pos) (tCompP X.K wi fr te) := by
  intro pins s σ H Q I h
  rw [eval_ListComp]
  exact comp_core2 (tc := fun _ H Q => Q true H) (use := none) hc S hi (fun _ _ _ _ _ => pts_nil) he hs I h fun acc C m H6 s7 qn hn hend _ _ _ _ _ => ⟨m, hn, fun h' hs' => ⟨.ref acc, H6, hend h' hs', rfl, qn⟩⟩
end
end L2

namespace L2
open PySem PySem.Spec PyProof.Rows

structure CompScopeK (X : Cx) (N : List Str) (fr : List Nat) (x : Str) (scope : Scope) (cl : List (Str × Addr)) : Prop where
  kind : scope.kind = .function
  hcf : ∀ n : Nat, cellsFrom n scope.names cl = (x, n) :: cl
  hpc : ∀ h : Heap, pushCells h scope.names = h.push { cls := .type "cell", data := .cell none }
  loc : ∀ y ∈ scope.names, y.2 = .local → scope.names.lookup y.1 = some .local
  own : (relabel scope X.env).names.lookup x = some .cell
  clos : closureFor scope X.env = pure cl
  sub : ∀ y c, cl.lookup y = some c → X.env.cells.lookup y = some c
  has : ∀ y, ((relabel scope X.env).names.lookup y = some .cell ∨ (relabel scope X.env).names.lookup y = some .free) → y = x ∨ ∃ c, cl.lookup y = some c
  nd : N.Nodup
  hN : N[0]? = some x
  len : N.length = fr.length + 1
  ownOnly : ∀ (j : Nat) (y : Str), N[j + 1]? = some y → (relabel scope X.env).names.lookup y ≠ some .local
  out : ∀ (j k : Nat), fr[j]? = some k → ∃ y, N[j + 1]? = some y ∧ X.N[k]? = some y ∧ X.env.kindOf y = some .cell
def cxK (X : Cx) (N : List Str) (x : Str) (scope : Scope) (cl : List (Str × Addr)) (C : Addr) (s0 : Shared) (H0 : Hp) (fp : List Addr) (pins : List (Addr × Obj)) : Cx :=
  { X with N := N, s₀ := s0, H₀ := H0, env := compEnvC scope ((x, C + 1) :: cl) C X.env, outer := X.stack, ex := fp, fn := fun y => y == x, pn := X.pn ++ pins, xe := fun _ _ => False }
section
variable {X : Cx} {N : List Str} {fr : List Nat} {x : Str} {scope : Scope} {cl : List (Str × Addr)} {elt iter : Expr} {px pos : Pos} {wi : TI} {te : TE}
end
end L2

namespace L2
open PySem PySem.Spec PyProof.Rows
theorem preSum_take (ns : List Int) : ∀ k, k ≤ ns.length → preSum (fun i => ns.getD i 0) k = (ns.take k).sum
  | 0, _ => by simp [preSum]
  | k + 1, h => by
    have hk : k < ns.length := h
    show preSum (fun i => ns.getD i 0) k + ns.getD k 0 = _
    rw [preSum_take ns k (Nat.le_of_lt hk), List.take_succ, List.getElem?_eq_getElem hk, List.getD_eq_getElem?_getD, List.getElem?_eq_getElem hk, List.sum_append]
    show _ + ns[k] = _ + ([ns[k]] : List Int).sum
    simp
theorem call_sum {X : Cx} (hc : X.still = true) : CallR X (.builtin "sum") (fun xs H Q => ∃ (l : Addr) (ns : List Int), xs = [.ref l] ∧ H l = some (.lst (ns.map V.int)) ∧ Q (.int ns.sum) H) := by
  intro pins s σ H xs us Q I rv h
  obtain ⟨l, ns, rfl, hH, q⟩ := h
  obtain ⟨u, rfl, ru⟩ := rv.one
  cases ru
  obtain ⟨z, its, n, r, hl, e⟩ := I.lstM hH
  have hlt : l < s.heap.objs.size := Heap.lt_size e
  refine call_sum_walkAnyS (wpAny_pyIter_list (A := X.A.in1) ⟨_, e, rfl, n, rfl⟩ ?_)
  obtain ⟨fp, st, W0, st0, hfp⟩ := walks_list_any (P := X.prog) (w := X.w) (I.stl hc).in1 s.heap.objs.size l (Nat.ne_of_lt hlt) (I.stn hc (I.hok.fresh (Nat.le_refl _))) its.toArray
  have W := W0.toS
  refine ⟨s.heap.objs.size, _, _, _, _, _, _, fun i => ns.getD i 0, rfl, W, ?_, ?_, ?_, ?_⟩
  · exact st0 _ ⟨_, Heap.get?_push_size _ rfl, rfl, rfl⟩ ⟨_, Heap.get?_push_of_some _ e, rfl, n, rfl⟩ (fun b o x => Heap.get?_push_of_some _ x)
  · intro b hb
    have := hfp b hb
    rw [Heap.size_push]
    rcases this with rfl | rfl | ⟨o, ho⟩
    · exact Nat.lt_succ_self _
    · exact Nat.lt_succ_of_lt hlt
    · exact Nat.lt_succ_of_lt (Heap.lt_size ho)
  · intro i v hP
    have hv : its[i]? = some v := by simpa using hP
    cases hn : ns[i]? with
    | none =>
      have h1 := r.none_of (i := i) (by rw [List.getElem?_map, hn]; rfl)
      rw [h1] at hv; cases hv
    | some m =>
      obtain ⟨u', h1, t, h2⟩ := r.get (i := i) (x := .int m) (by rw [List.getElem?_map, hn]; rfl)
      rw [h1] at hv; cases hv
      exact ⟨t, by show v = Value.int (ns.getD i 0) t; rw [List.getD_eq_getElem?_getD, hn]; exact h2⟩
  · intro s' t' hm
    have hlen : its.toArray.size = ns.length := by rw [List.size_toArray, ← r.length, List.length_map]
    rw [hlen, preSum_take ns _ (Nat.le_refl _), List.take_length]
    obtain ⟨h', g', d', tk, o'⟩ := s'
    obtain rfl : g' = s.gens := hm.gens
    obtain rfl : d' = s.drawn := hm.drawn
    obtain rfl : o' = s.os := hm.os
    refine ⟨.int ns.sum, H, ?_, ⟨_, rfl⟩, q⟩
    exact I.kept (h' := h') (t' := tk) fun b o q' => hm.heap b o (fun zz => by
      have : b = s.heap.objs.size := by simpa using zz
      subst this
      exact absurd (Heap.lt_size q') (Nat.lt_irrefl _)) (Heap.get?_push_of_some _ q')
end L2

namespace L2
open PySem PySem.Spec PyProof.Rows
section
variable {P : Program} {w : World} {A : Around} {E : Value → Shared → Prop} {s : Shared}
theorem tnext_item {j a : Addr} {i : Nat} {us : Array Value} {u : Value} {Q : Value → Shared → Prop} (g0 : s.heap.IsTupleIter j a i) (g1 : s.heap.IsTuple a us) (ex : us[i]? = some u)
    (q : ∀ h', h'.IsTupleIter j a (i + 1) → Heap.SameBut j s.heap h' → Q u { s with heap := h' }) : wpAny (model P w) A (Builtin.SmallTypes.nextOf (.ref j)) Q E s := by
  obtain ⟨o1, k1, k2, k3⟩ := id g0
  obtain ⟨o2, k4, _, n2, k5⟩ := g1
  unfold Builtin.SmallTypes.nextOf
  refine wpAny_bind (wpAny_callSpecial?_slot (name := Str.ofString "__next__") g0.typeIs F.slot_tuple_iterator_next (wpAny_call_entry F.slot_tuple_iterator_next g0.typeIs F.entry_tuple_iterator_next ?_ (F.args_tuple_iterator_next_1 _)))
  show wpAny _ _ (field (.ref j) 0 >>= _) _ _ s
  refine wpAny_bind (wpAny_field k1 k3 (x := .ref a) rfl ?_)
  show wpAny _ _ (if (Value.ref a == Value.none) = true then _ else _) _ _ s
  rw [if_neg (show ¬ ((Value.ref a == Value.none) = true) from Bool.false_ne_true)]
  show wpAny _ _ (field (.ref j) 1 >>= _) _ _ s
  refine wpAny_bind (wpAny_field k1 k3 (x := .int i 0) rfl ?_)
  show wpAny _ _ (seqItems? (.ref a) >>= _) _ _ s
  refine wpAny_bind (wpAny_seqItems k4 k5 ?_)
  simp only [Int.toNat_natCast, ex]
  refine wpAny_bind (wpAny_setField k1 k3 (by simp) (wpAny_pure ⟨u, rfl, wpAny_pure (q _ ?_ (Heap.SameBut.update ..))⟩))
  refine ⟨_, Heap.get?_update_self _ k1 (Obj.isFreed_of_fields (Obj.data_mapFields k3 _)), (Obj.cls_mapFields ..).trans k2, ?_⟩
  rw [Obj.data_mapFields k3]
  simp [rawInt]
structure ZT (z TI TO j1 j2 a1 a2 : Addr) (us vs : Array Value) (i : Nat) (f0 : Value) (h : Heap) : Prop where
  zip : IsZip h z TI TO f0
  its : IsPair h TI (.ref j1) (.ref j2)
  to : ∃ a b, IsPair h TO a b
  i1 : h.IsTupleIter j1 a1 i
  i2 : h.IsTupleIter j2 a2 i
theorem zt_item {z TI TO j1 j2 a1 a2 : Addr} {us vs : Array Value} {i : Nat} {u v : Value} {Q : Value → Shared → Prop} (D : ZipApart z TI TO j1 j2 a1 a2) (Z : ZT z TI TO j1 j2 a1 a2 us vs i .none s.heap)
    (t1 : s.heap.IsTuple a1 us) (t2 : s.heap.IsTuple a2 vs) (eu : us[i]? = some u) (ev : vs[i]? = some v)
    (q : ∀ h', ZT z TI TO j1 j2 a1 a2 us vs (i + 1) (rawInt s.heap.objs.size) h' → IsPair h' s.heap.objs.size u v → h'.objs.size = s.heap.objs.size + 1 →
      (∀ c o, c ≠ z → c ≠ TO → c ≠ j1 → c ≠ j2 → s.heap.get? c = some o → h'.get? c = some o) → Q (.ref s.heap.objs.size) { s with heap := h' }) :
    wpAny (model P w) A (Builtin.«zip.__next__» ⟨[.ref z], []⟩) (fun fin s' => ∃ v, fin = .done (.ret v) ∧ Q v s') E s := by
  obtain ⟨hz, hI, ⟨p1, p2, hO⟩, y1, y2⟩ := Z
  show wpAny _ _ (field (.ref z) (1 + 1) >>= _) _ _ _
  refine wpAny_bind (wpAny_field hz rfl (x := .bool false) rfl ?_); show wpAny _ _ (field (.ref z) (2 + 1) >>= _) _ _ _
  refine wpAny_bind (wpAny_field hz rfl (x := .ref TI) rfl (wpAny_bind (wpAny_seqItems hI rfl ?_)))
  refine wpAny_bind (m := Builtin.SmallTypes.ownedTupleIsFree (.ref z)) ?_
  unfold Builtin.SmallTypes.ownedTupleIsFree; refine wpAny_bind (wpAny_field hz rfl (x := .none) rfl (wpAny_pure ?_))
  simp only [if_true]
  refine wpAny_bind (wpAny_rule (wpAny_bind (wpAny_field hz rfl (x := .ref TO) rfl ?_)))
  refine wpAny_bind (wpAny_setField_rec hz (by simp) fun w1 hz1 b1 => ?_)
  replace hz1 : IsZip w1 z TI TO .ellipsis := hz1
  refine wpAny_bind ?_
  simp only [List.zipIdx_cons, List.zipIdx_nil, List.forIn_cons, List.forIn_nil]; refine wpAny_bind (wpAny_bind (wpAny_onRaise ?_))
  refine wpAny_bind (m := Builtin.SmallTypes.nextOf (.ref j1)) (tnext_item (y1.extBut b1.extBut D.i1z) (t1.extBut b1.extBut D.l1z) eu fun w2 y12 b2 => wpAny_pure ?_)
  have hO2 : IsPair w2 TO p1 p2 := b2.extBut _ _ D.TOi1 (b1.extBut _ _ D.TOz hO)
  refine wpAny_bind (wpAny_seqItems hO2 rfl (wpAny_bind (wpAny_updateSeq_pair hO2 fun w3 hO3 b3 => ?_)))
  replace hO3 : IsPair w3 TO u p2 := hO3
  refine wpAny_bind (wpAny_letGo (wpAny_pure ?_)); refine wpAny_bind (wpAny_bind (wpAny_onRaise ?_))
  refine wpAny_bind (m := Builtin.SmallTypes.nextOf (.ref j2)) (tnext_item (((y2.extBut b1.extBut D.i2z).extBut b2.extBut D.i12.symm).extBut b3.extBut D.TOi2.symm) (((t2.extBut b1.extBut D.l2z).extBut b2.extBut D.l2i1).extBut b3.extBut D.l2TO) ev fun w4 y24 b4 => wpAny_pure ?_)
  have hO4 : IsPair w4 TO u p2 := b4.extBut _ _ D.TOi2 hO3
  refine wpAny_bind (wpAny_seqItems hO4 rfl (wpAny_bind (wpAny_updateSeq_pair hO4 fun w5 hO5 b5 => ?_)))
  replace hO5 : IsPair w5 TO u v := hO5
  refine wpAny_bind (wpAny_letGo (wpAny_pure (wpAny_pure ?_))); refine wpAny_bind (wpAny_seqItems hO5 rfl (wpAny_bind (wpAny_newTuple ?_)))
  have size5 : w5.objs.size = s.heap.objs.size := by rw [b5.1, b4.1, b3.1, b2.1, b1.1]
  have hz5 : IsZip w5 z TI TO .ellipsis := b5.extBut _ _ D.TOz.symm (b4.extBut _ _ D.i2z.symm (b3.extBut _ _ D.TOz.symm (b2.extBut _ _ D.i1z.symm hz1)))
  have kept5 : ∀ c o, c ≠ z → c ≠ TO → c ≠ j1 → c ≠ j2 → s.heap.get? c = some o → w5.get? c = some o := fun c o c1 c2 c3 c4 e => b5.extBut _ _ c2 (b4.extBut _ _ c4 (b3.extBut _ _ c2 (b2.extBut _ _ c3 (b1.extBut _ _ c1 e))))
  have y15 : w5.IsTupleIter j1 a1 (i + 1) := ((y12.extBut b3.extBut D.TOi1.symm).extBut b4.extBut D.i12).extBut b5.extBut D.TOi1.symm
  have y25 : w5.IsTupleIter j2 a2 (i + 1) := y24.extBut b5.extBut D.TOi2.symm
  have zlt : z < w5.objs.size := Heap.lt_size hz5
  refine wpAny_bind (m := Builtin.SmallTypes.ownedTupleHandOut (.ref z) (.ref w5.objs.size)) ?_
  unfold Builtin.SmallTypes.ownedTupleHandOut
  have hz6 : IsZip (w5.push { cls := .type "tuple", data := .seq #[u, v] }) z TI TO .ellipsis := Heap.get?_push_of_some _ hz5
  refine wpAny_bind (wpAny_setField_rec hz6 (by simp) fun w7 hz7 b7 => ?_)
  replace hz7 : IsZip w7 z TI TO (rawInt w5.objs.size) := hz7
  refine wpAny_setField_rec hz7 (by simp) fun w8 hz8 b8 => ?_
  replace hz8 : IsZip w8 z TI TO (rawInt w5.objs.size) := hz8
  have up : ∀ c o, c ≠ z → w5.get? c = some o → w8.get? c = some o := fun c o c1 e => b8.extBut _ _ c1 (b7.extBut _ _ c1 (Heap.get?_push_of_some _ e))
  have new8 : IsPair w8 w5.objs.size u v := b8.extBut _ _ (Nat.ne_of_gt zlt) (b7.extBut _ _ (Nat.ne_of_gt zlt) (Heap.get?_push_size _ rfl))
  have size8 : w8.objs.size = w5.objs.size + 1 := by rw [b8.1, b7.1, Heap.size_push]
  rw [size5] at hz8 new8 size8
  refine wpAny_pure ⟨_, rfl, ?_⟩
  show Q (.ref w5.objs.size) _
  rw [size5]
  exact q w8 ⟨hz8, up _ _ D.TIz (kept5 _ _ D.TIz D.TITO D.TIi1 D.TIi2 hI), ⟨_, _, up _ _ D.TOz hO5⟩, (let ⟨o, e, r⟩ := y15; ⟨o, up _ _ D.i1z e, r⟩), (let ⟨o, e, r⟩ := y25; ⟨o, up _ _ D.i2z e, r⟩)⟩ new8 size8 fun c o c1 c2 c3 c4 e => up c o c1 (kept5 c o c1 c2 c3 c4 e)
theorem zt_end {z TI TO j1 j2 a1 a2 : Addr} {us vs : Array Value} {i : Nat} {Q : Fin → Shared → Prop} (ha : Still A s.heap) (nz : A.handled ≠ some (.ref z)) (nj : A.handled ≠ some (.ref j1)) (D : ZipApart z TI TO j1 j2 a1 a2) (Z : ZT z TI TO j1 j2 a1 a2 us vs i .none s.heap)
    (t1 : s.heap.IsTuple a1 us) (eu : us[i]? = none)
    (q : ∀ h' e, (∀ c o, c ≠ z → c ≠ TO → c ≠ j1 → c ≠ j2 → s.heap.get? c = some o → h'.get? c = some o) → (∃ o, h'.get? e = some o ∧ o.cls = .type "StopIteration") → E (.ref e) { s with heap := h' }) :
    wpAny (model P w) A (Builtin.«zip.__next__» ⟨[.ref z], []⟩) Q E s := by
  obtain ⟨hz, hI, ⟨p1, p2, hO⟩, y1, y2⟩ := Z
  show wpAny _ _ (field (.ref z) (1 + 1) >>= _) _ _ _
  refine wpAny_bind (wpAny_field hz rfl (x := .bool false) rfl ?_); show wpAny _ _ (field (.ref z) (2 + 1) >>= _) _ _ _
  refine wpAny_bind (wpAny_field hz rfl (x := .ref TI) rfl (wpAny_bind (wpAny_seqItems hI rfl ?_)))
  refine wpAny_bind (m := Builtin.SmallTypes.ownedTupleIsFree (.ref z)) ?_
  unfold Builtin.SmallTypes.ownedTupleIsFree; refine wpAny_bind (wpAny_field hz rfl (x := .none) rfl (wpAny_pure ?_))
  simp only [if_true]
  refine wpAny_bind (wpAny_rule (wpAny_bind (wpAny_field hz rfl (x := .ref TO) rfl ?_)))
  refine wpAny_bind (wpAny_setField_rec hz (by simp) fun w1 hz1 b1 => ?_)
  replace hz1 : IsZip w1 z TI TO .ellipsis := hz1
  refine wpAny_bind ?_
  simp only [List.zipIdx_cons, List.zipIdx_nil, List.forIn_cons, List.forIn_nil]; refine wpAny_bind (wpAny_bind (wpAny_onRaise ?_))
  refine wpAny_bind (m := Builtin.SmallTypes.nextOf (.ref j1)) (tnext_end_still (ha.mono fun e o hh h => b1.extBut _ _ (fun x => nz (by rw [← x]; exact hh)) h) nj (y1.extBut b1.extBut D.i1z) (t1.extBut b1.extBut D.l1z) eu fun w2 e b2 he => ?_)
  obtain ⟨oe, e1, e2⟩ := he
  have hz2 : IsZip w2 z TI TO .ellipsis := b2 _ _ D.i1z.symm hz1
  have ez : e ≠ z := fun x => by
    subst x
    rw [hz2] at e1; cases e1; simp at e2
  exact wpAny_setField_rec hz2 (by simp) fun w3 _ b3 => q w3 e (fun c o c1 _ c3 _ x => b3.extBut _ _ c1 (b2 _ _ c3 (b1.extBut _ _ c1 x))) ⟨oe, b3.extBut _ _ ez e1, e2⟩
theorem zt_new (a1 a2 : Addr) (us vs : Array Value) :
    Meets (Builtin.«zip.__new__» ⟨[.type "zip", .ref a1, .ref a2], []⟩) (fun _ R s => s.heap.IsTuple a1 us ∧ s.heap.IsTuple a2 vs ∧
      ∀ h', (∀ c o, s.heap.get? c = some o → h'.get? c = some o) → ZT (s.heap.objs.size + 4) (s.heap.objs.size + 2) (s.heap.objs.size + 3) s.heap.objs.size (s.heap.objs.size + 1) a1 a2 us vs 0 .none h' → h'.objs.size = s.heap.objs.size + 5 → R (.ok (.ret (.ref (s.heap.objs.size + 4)))) { s with heap := h' }) :=
  .of_wp fun prog w A R s h => by
    obtain ⟨hp, g, d, tk, os⟩ := s; obtain ⟨t1, t2, h⟩ := h
    have hsub := sub_zip
    have T1 : Heap.IsTuple (Shared.heap ⟨hp, g, d, tk, os⟩) a1 us := t1
    have T2 : Heap.IsTuple (Shared.heap ⟨hp.push { cls := .type "tuple_iterator", data := .fields #[.ref a1, .int 0 0] }, g, d, tk, os⟩) a2 vs := t2.push _
    wp_walk using wpAny_pyIter_tuple T1, wpAny_pyIter_tuple T2
    refine ⟨_, rfl, ?_⟩
    simp only [Heap.size_push]
    refine h _ (fun c o e => Heap.get?_push_of_some _ (Heap.get?_push_of_some _ (Heap.get?_push_of_some _ (Heap.get?_push_of_some _ (Heap.get?_push_of_some _ e))))) ⟨?_, ?_, ⟨.none, .none, ?_⟩, ⟨_, Heap.get?_push_of_some _ (Heap.get?_push_of_some _ (Heap.get?_push_of_some _ (Heap.get?_push_of_some _ (Heap.get?_push_size _ rfl)))), rfl, rfl⟩, ⟨_, Heap.get?_push_of_some _ (Heap.get?_push_of_some _ (Heap.get?_push_of_some _ (Heap.get?_push_at (by simp only [Heap.size_push]) rfl))), rfl, rfl⟩⟩ (by simp only [Heap.size_push])
    · exact Heap.get?_push_at (by simp only [Heap.size_push]) rfl
    · exact Heap.get?_push_of_some _ (Heap.get?_push_of_some _ (Heap.get?_push_at (by simp only [Heap.size_push]) rfl))
    · exact Heap.get?_push_of_some _ (Heap.get?_push_at (by simp only [Heap.size_push]) rfl)
theorem zt_call {a1 a2 : Addr} {us vs : Array Value} {Q : Value → Shared → Prop} (t1 : s.heap.IsTuple a1 us) (t2 : s.heap.IsTuple a2 vs)
    (q : ∀ h', (∀ c o, s.heap.get? c = some o → h'.get? c = some o) → ZT (s.heap.objs.size + 4) (s.heap.objs.size + 2) (s.heap.objs.size + 3) s.heap.objs.size (s.heap.objs.size + 1) a1 a2 us vs 0 .none h' → h'.objs.size = s.heap.objs.size + 5 → Q (.ref (s.heap.objs.size + 4)) { s with heap := h' }) :
    wpAny (model P w) A (call (.type "zip") [.ref a1, .ref a2]) Q E s := by
  refine callType_new F.called_zip (by decide) (F.typeCall_zip_2 _ _) (F.newCall_zip_2 _ _) (fun obj => F.args_object_init_3 obj _ _) F.entry_zip_new (zt_new a1 a2 us vs) ⟨t1, t2, fun h' k Z sz => ?_⟩
  exact ⟨⟨_, Z.zip, rfl⟩, q h' k Z sz⟩
end
def Itz (K : PySem.W.Frag) (a b : Addr) : It :=
  ⟨fun i H => ∃ xs ys x y, SqT K H a xs ∧ SqT K H b ys ∧ xs[i]? = some x ∧ ys[i]? = some y,
   fun i H v H' => ∃ t x y, v = .ref t ∧ H t = none ∧ H' = upd H t (.tup [x, y]) ∧ (∀ xs, SqT K H a xs → xs[i]? = some x) ∧ ∀ ys, SqT K H b ys → ys[i]? = some y,
   fun i H => ∃ xs ys, SqT K H a xs ∧ SqT K H b ys ∧ xs.length ≤ i⟩
theorem Inv.turnedM {X : Cx} {pins : List (Addr × Obj)} {σ : St} {H : Hp} {s : Shared} {h' : Heap} {t' : Nat} {fp : List Addr} (I : Inv X pins σ H s) (k : ∀ b o, b ∉ fp → s.heap.get? b = some o → h'.get? b = some o) (hf : ∀ b ∈ fp, FpOk X pins H b) : Inv X pins σ H { s with heap := h', toks := t' } := by
  have nf : ∀ b u, H b = some u → b ∉ fp := fun b u e z => by
    have := (hf b z).1
    rw [this] at e; cases e
  have U : Un (frs X.stack) fp H H s.heap h' := ⟨fun b o e _ _ hx => k b o hx e, fun b o e _ _ hx => ⟨o.slots, k b o hx e⟩, fun _ _ _ n _ => n, fun b o e hx => ⟨o, k b o hx e⟩, fun _ _ e => e, fun _ _ _ e => e, fun b ps e => ⟨#[], by rw [e]; simp⟩⟩
  refine I.call' (s' := { s with heap := h', toks := t' }) (ch := fp) rfl U (I.hok.onward fun b o hb e => k b o (fun z => hb (hf b z).1) e) I.bare fun b hb => ?_
  obtain ⟨_, f1, _, f3, f4, f5⟩ := hf b hb
  exact ⟨f3, f1, f4, f5⟩
theorem turn_zip {P : Program} {w : World} {K : PySem.W.Frag} {elts : List Expr} {kt : Nat} {tp : Pos} {z TI TO j1 j2 a b : Addr} (D : ZipApart z TI TO j1 j2 a b) (us vs : Array Value) :
    Turn P w K (.Tuple elts kt tp) (Itz K a b) [z, TI, TO, j1, j2] z (fun i h => ZT z TI TO j1 j2 a b us vs i .none h) where
  mem := by simp
  obj := fun i h st c hc => by
    obtain ⟨hz, hI, ⟨p1, p2, hO⟩, y1, y2⟩ := st
    simp only [List.mem_cons, List.not_mem_nil, or_false] at hc
    rcases hc with rfl | rfl | rfl | rfl | rfl
    · exact ⟨_, hz, fun v q => by cases q⟩
    · exact ⟨_, hI, fun v q => by cases q⟩
    · exact ⟨_, hO, fun v q => by cases q⟩
    · obtain ⟨o, e, c, d⟩ := y1
      exact ⟨o, e, fun v q => by rw [d] at q; cases q⟩
    · obtain ⟨o, e, c, d⟩ := y2
      exact ⟨o, e, fun v q => by rw [d] at q; cases q⟩
  keep := fun i h h' st k => by
    obtain ⟨hz, hI, ⟨p1, p2, hO⟩, y1, y2⟩ := st
    exact ⟨k z (by simp) _ hz, k TI (by simp) _ hI, ⟨p1, p2, k TO (by simp) _ hO⟩, (let ⟨o, e, r⟩ := y1; ⟨o, k j1 (by simp) _ e, r⟩), (let ⟨o, e, r⟩ := y2; ⟨o, k j2 (by simp) _ e, r⟩)⟩
  item := by
    intro X hP hw hK hc i pins s σ H E I hf st hg
    subst hP hw hK
    obtain ⟨xs, ys, x, y, qx, qy, ex, ey⟩ := hg
    obtain ⟨its, rx, px, lx⟩ := I.tuple qx
    obtain ⟨its', ry, py, ly⟩ := I.tuple qy
    obtain ⟨u, hu, ru⟩ := rx.get ex
    obtain ⟨v, hv, rv⟩ := ry.get ey
    have ht : s.TypeIs (.ref z) "zip" := ⟨_, st.zip, rfl⟩
    unfold pyNext
    have st' : ZT z TI TO j1 j2 a b its.toArray its'.toArray i .none s.heap := ⟨st.zip, st.its, st.to, st.i1, st.i2⟩
    refine wpAny_bind (wpAny_attempt (wpAny_callSpecial?_slot (name := Str.ofString "__next__") ht F.slot_zip_next (wpAny_call_entry F.slot_zip_next ht F.entry_zip_next
      (zt_item D st' px py (u := u) (v := v) (by simpa using hu) (by simpa using hv) fun h' Z np sz k => wpAny_pure ?_) (F.args_zip_next_1 _))))
    refine ⟨_, rfl, wpAny_letOwnedTupleGo_zip Z.zip fun h2 hz2 b2 => ?_⟩
    have szl : z < s.heap.objs.size := Heap.lt_size st.zip
    have k2 : ∀ c o, c ∉ [z, TI, TO, j1, j2] → s.heap.get? c = some o → h2.get? c = some o := fun c o hc e => by
      simp only [List.mem_cons, List.not_mem_nil, or_false, not_or] at hc
      exact b2.extBut _ _ hc.1 (k c o hc.1 hc.2.2.1 hc.2.2.2.1 hc.2.2.2.2 e)
    have I2 : Inv X pins σ H { s with heap := h2 } := I.turnedM (t' := s.toks) k2 hf
    have np2 : IsPair h2 s.heap.objs.size u v := b2.extBut _ _ (Nat.ne_of_gt szl) np
    have fr : H s.heap.objs.size = none := I.hok.fresh (Nat.le_refl _)
    have I3 : Inv X pins σ (upd H s.heap.objs.size (.tup [x, y])) { s with heap := h2 } := by
      have U : Un (frs X.stack) [z, TI, TO, j1, j2] H (upd H s.heap.objs.size (.tup [x, y])) s.heap h2 :=
        ⟨fun c o e _ _ hx => k2 c o hx e, fun c o e _ _ hx => ⟨o.slots, k2 c o hx e⟩, fun c o e n _ => (by rw [upd_ne (Nat.ne_of_lt (Heap.lt_size e))]; exact n), fun c o e hx => ⟨o, k2 c o hx e⟩,
          fun c zs e => (by rw [upd_ne (ne_of_none e fr)]; exact e), fun c o w e => (by rw [upd_ne (ne_of_none e fr)]; exact e), fun c ps e => ⟨#[], by rw [upd_ne (ne_of_none e fr), e]; simp⟩⟩
      refine I.call' (s' := { s with heap := h2 }) (ch := [z, TI, TO, j1, j2]) rfl U (I2.hok.more fr ?_) I.bare fun c hc => ?_
      · exact ⟨by show 2 ≤ sizeLine; decide, [u, v], .cons ru (.cons rv .nil), ⟨_, np2, rfl, _, rfl⟩⟩
      · obtain ⟨_, f1, _, f3, f4, f5⟩ := hf c hc
        exact ⟨f3, f1, f4, f5⟩
    refine ⟨.ref s.heap.objs.size, _, I3, rfl, ⟨_, x, y, rfl, fr, rfl, fun zs hz => by rw [I.tuple_inj hz qx]; exact ex, fun zs hz => by rw [I.tuple_inj hz qy]; exact ey⟩, ?_, fun c hc => ?_⟩
    · obtain ⟨o1, e1, r1⟩ := Z.i1
      obtain ⟨o2, e2, r2⟩ := Z.i2
      obtain ⟨p1, p2, e3⟩ := Z.to
      exact ⟨hz2, b2.extBut _ _ D.TIz Z.its, ⟨p1, p2, b2.extBut _ _ D.TOz e3⟩, ⟨o1, b2.extBut _ _ D.i1z e1, r1⟩, ⟨o2, b2.extBut _ _ D.i2z e2, r2⟩⟩
    · have h0 := (hf c hc).1
      rw [upd_ne ?_]
      · exact h0
      · have st2 := st
        obtain ⟨hz, hI, ⟨p1, p2, hO⟩, ⟨o1, y1, _⟩, ⟨o2, y2, _⟩⟩ := st2
        simp only [List.mem_cons, List.not_mem_nil, or_false] at hc
        rcases hc with rfl | rfl | rfl | rfl | rfl
        · exact Nat.ne_of_lt (Heap.lt_size hz)
        · exact Nat.ne_of_lt (Heap.lt_size hI)
        · exact Nat.ne_of_lt (Heap.lt_size hO)
        · exact Nat.ne_of_lt (Heap.lt_size y1)
        · exact Nat.ne_of_lt (Heap.lt_size y2)
  done := by
    intro X hP hw hK hc i pins s σ H E I hf st hg
    subst hP hw hK
    obtain ⟨xs, ys, qx, qy, ln⟩ := hg
    obtain ⟨its, rx, px, lx⟩ := I.tuple qx
    have ht : s.TypeIs (.ref z) "zip" := ⟨_, st.zip, rfl⟩
    have hl := rx.length
    unfold pyNext
    have st' : ZT z TI TO j1 j2 a b its.toArray vs i .none s.heap := ⟨st.zip, st.its, st.to, st.i1, st.i2⟩
    refine wpAny_bind (wpAny_attempt (wpAny_callSpecial?_slot (name := Str.ofString "__next__") ht F.slot_zip_next (wpAny_call_entry F.slot_zip_next ht F.entry_zip_next
      (zt_end (I.stl hc) (I.stn hc (hf z (by simp)).1) (I.stn hc (hf j1 (by simp)).1) D st' px (by simp; omega) fun h' e k he => ?_) (F.args_zip_next_1 _))))
    obtain ⟨o, ho, hce⟩ := he
    refine wpAny_bind (wpAny_isInstance (T := "StopIteration") (b := true) ⟨o, ho, hce⟩ isSubtype_stop ?_)
    refine wpAny_pure ⟨rfl, I.turnedM (t' := s.toks) (fun c o hc e => ?_) hf⟩
    simp only [List.mem_cons, List.not_mem_nil, or_false, not_or] at hc
    exact k c o hc.1 hc.2.2.1 hc.2.2.2.1 hc.2.2.2.2 e
  self := fun _ _ _ _ _ st h => wpAny_pyIter_zip st.zip h
def iZip (K : PySem.W.Frag) (ta : TA) : TI := fun σ H R => ta σ H fun vs H1 => ∃ (a b : Addr) (xs ys : List V), vs = [.ref a, .ref b] ∧ SqT K H1 a xs ∧ SqT K H1 b ys ∧ R (Itz K a b) H1
theorem pi_zip {X : Cx} {elts : List Expr} {kt : Nat} {tp : Pos} {a b : Expr} {ta : TA} {p pos : Pos} (hg : Gl X "zip") (hm : X.mg "zip" = none) (ha : PA X [a, b] ta) (hs : starEach [a, b] X.env = [(false, eval a X.env), (false, eval b X.env)] := by rfl) (hs2 : starEach [b] X.env = [(false, eval b X.env)] := by rfl) :
    PI X (.Tuple elts kt tp) (.Call (.Name "zip" p) [a, b] [] pos) (iZip X.K ta) := by
  intro pins s σ H R I h
  refine Call_ (ld_blt I hg hm boot_zip (PyProof.Rows.callWith_type1 (thn (ha pos pins s σ H _ I h) fun us s1 ⟨vs, H1, I1, r1, q1⟩ => ?_) (by rw [hs, hs2]) (by rw [hs2]; rfl)))
  obtain ⟨x, y, xs, ys, e, qx, qy, q⟩ := q1
  subst e
  cases r1 with
  | cons r rr =>
    cases rr with
    | cons r' rr =>
      cases rr
      cases r
      cases r'
      obtain ⟨its, rx, px, lx⟩ := I1.tuple qx
      obtain ⟨its', ry, py, ly⟩ := I1.tuple qy
      refine zt_call (us := its.toArray) (vs := its'.toArray) px py fun h' k Z sz => ?_
      refine wpAny_pyIter_zip Z.zip ?_
      have I2 : Inv X pins σ H1 { s1 with heap := h' } := I1.kept (t' := s1.toks) k
      have l1 : x < s1.heap.objs.size := by
        obtain ⟨o, e, _⟩ := px
        exact Heap.lt_size e
      have l2 : y < s1.heap.objs.size := by
        obtain ⟨o, e, _⟩ := py
        exact Heap.lt_size e
      refine ⟨_, [s1.heap.objs.size + 4, s1.heap.objs.size + 2, s1.heap.objs.size + 3, s1.heap.objs.size, s1.heap.objs.size + 1], _, _, H1, rfl, I2, turn_zip (zipApart_new l1 l2) its.toArray its'.toArray, Z, fun c hc => ?_, q⟩
      have big : s1.heap.objs.size ≤ c := by
        simp only [List.mem_cons, List.not_mem_nil, or_false] at hc
        rcases hc with rfl | rfl | rfl | rfl | rfl <;> simp
      exact I1.fpOk big (I1.hok.fresh big)
end L2

namespace L2
open PySem PySem.Spec PyProof.Rows
def tSetCP (K : PySem.W.Frag) (wi : TI) (fr : List Nat) (te : TE) (k : Nat) : TS := fun D σ H => tCompP K wi fr te σ H fun v H' => D.nx (σ.set k (some v)) H'
section
variable {X : Cx} {N : List Str} {fr : List Nat} {x x2 : Str} {scope : Scope} {cl : List (Str × Addr)} {elt iter : Expr} {px px2 tp pos : Pos} {kt : Nat} {wi : TI} {te : TE}
end
theorem compP_zipF {K : PySem.W.Frag} {a b : Addr} {xs ys : List V} {te : TE} {σ : V → V → St} {H : Hp} {Q : VK} (hx : ∀ H', Same H H' → SqT K H' a xs) (hy : ∀ H', Same H H' → SqT K H' b ys) (hl : xs.length = ys.length) (hn : xs.length < sizeLine) (f : V → V → V)
    (he : ∀ (i : Nat) (x y : V) (H' : Hp) (Q' : VK), xs[i]? = some x → ys[i]? = some y → Same H H' → (∀ H2, Same H' H2 → Q' (f x y) H2) → te (σ x y) H' Q')
    (q : ∀ p H', Same H H' → H p = none → H' p = some (.lst (List.zipWith f xs ys)) → Q (.ref p) H') : CompPEnd K (Itz K a b) Q H te σ := by
  intro acc hacc
  have zl : (List.zipWith f xs ys).length = xs.length := by rw [List.length_zipWith, ← hl]; simp
  refine ⟨fun i m H' vs => i ≤ xs.length ∧ m = xs.length - i ∧ Same H H' ∧ H' acc = some (.lst vs) ∧ vs = (List.zipWith f xs ys).take i, ⟨xs.length, Nat.zero_le _, by simp, same_new hacc _, upd_same, by simp⟩, ?_⟩
  rintro i m H' vs ⟨hi, rfl, g, ha, rfl⟩
  refine ⟨ha, ?_⟩
  by_cases h : i = xs.length
  · refine .inl ⟨⟨xs, ys, hx _ g, hy _ g, by omega⟩, q acc H' g hacc ?_⟩
    rw [ha, h, ← zl, List.take_length]
  · have hlt : i < xs.length := by omega
    have hlt2 : i < ys.length := by omega
    refine .inr ⟨⟨xs, ys, xs[i], ys[i], hx _ g, hy _ g, by simp [hlt], by simp [hlt2]⟩, by rw [List.length_take, zl]; omega, ?_⟩
    rintro z H2 ⟨t, x, y, rfl, ht, rfl, ex, ey⟩
    have ex' := ex xs (hx _ g)
    have ey' := ey ys (hy _ g)
    have g2 : Same H' (upd H' t (.tup [x, y])) := same_new ht _
    refine ⟨t, x, y, rfl, SqT.of upd_same, he i x y _ _ ex' ey' (g.trans g2) fun H3 g3 => ⟨g3 _ _ (g2 _ _ ha), xs.length - (i + 1), by omega, by omega, rfl, same_upd (g.trans (g2.trans g3)) hacc, upd_same, ?_⟩⟩
    rw [List.take_succ, List.getElem?_zipWith, ex', ey']
    rfl
theorem outs_ok {X : Cx} {own : List Str} {ys : List Str} {ks : List Nat} (hl : ks.length = ys.length) (hk : ∀ p ∈ ks.zip ys, X.N[p.1]? = some p.2 ∧ X.env.kindOf p.2 = some .cell) : ∀ (j k : Nat), ks[j]? = some k → ∃ y, (own ++ ys)[j + own.length]? = some y ∧ X.N[k]? = some y ∧ X.env.kindOf y = some .cell := by
  intro j k h
  have hj : j < ks.length := (List.getElem?_eq_some_iff.mp h).1
  have hj2 : j < ys.length := by omega
  refine ⟨ys[j], by rw [List.getElem?_append_right (by omega)]; simp [hj2], ?_⟩
  have m : (k, ys[j]) ∈ ks.zip ys := by
    refine List.mem_of_getElem? (i := j) ?_
    rw [List.getElem?_zip_eq_some]
    exact ⟨h, by simp [hj2]⟩
  exact hk _ m
theorem lookup_mem_all {cl : List (Str × Addr)} {P : Str → Addr → Prop} (h : ∀ p ∈ cl, P p.1 p.2) {y : Str} {c : Addr} (e : cl.lookup y = some c) : P y c := h _ (PySem.mem_of_lookup e)
theorem has_of {ns' : List (Str × NameKind)} {cl : List (Str × Addr)} (h : ∀ p ∈ ns', p.2 = .cell ∨ p.2 = .free → (cl.lookup p.1).isSome = true) (y : Str) (e : ns'.lookup y = some .cell ∨ ns'.lookup y = some .free) : ∃ c, cl.lookup y = some c := by
  have : (cl.lookup y).isSome = true := by
    rcases e with e | e
    · exact h _ (PySem.mem_of_lookup e) (.inl rfl)
    · exact h _ (PySem.mem_of_lookup e) (.inr rfl)
  exact Option.isSome_iff_exists.mp this
theorem CompScope.gen {X : Cx} {x : Str} {scope : Scope} {cl : List (Str × Addr)} (ys : List Str) (ks : List Nat) (ns' : List (Str × NameKind)) (kind : scope.kind = .function) (nocell : ∀ z ∈ scope.names, z.2 ≠ .cell) (loc : ∀ z ∈ scope.names, z.2 = .local → scope.names.lookup z.1 = some .local) (own : scope.names.lookup x = some .local)
    (clos : closureFor scope X.env = pure cl) (sub : ∀ p ∈ cl, X.env.cells.lookup p.1 = some p.2) (rl : (relabel scope X.env).names = ns') (only : ∀ p ∈ ns', p.2 = .cell ∨ p.2 = .free → (cl.lookup p.1).isSome = true) (nd : (x :: ys).Nodup) (ny : ∀ y ∈ ys, ns'.lookup y ≠ some .local) (hl : ks.length = ys.length)
    (hk : ∀ p ∈ ks.zip ys, X.N[p.1]? = some p.2 ∧ X.env.kindOf p.2 = some .cell) : CompScope X (x :: ys) ks x scope cl := by
  subst rl
  refine ⟨kind, nocell, loc, own, clos, fun y c h => lookup_mem_all (P := fun y c => X.env.cells.lookup y = some c) sub h, has_of only, nd, rfl, by simp [hl], fun j y h => ?_, fun j k h => outs_ok (own := [x]) hl hk j k h⟩
  exact ny y (List.mem_of_getElem? (by simpa using h))
theorem CompScope2.gen {X : Cx} {x x2 : Str} {scope : Scope} {cl : List (Str × Addr)} (ys : List Str) (ks : List Nat) (ns' : List (Str × NameKind)) (kind : scope.kind = .function) (nocell : ∀ z ∈ scope.names, z.2 ≠ .cell) (loc : ∀ z ∈ scope.names, z.2 = .local → scope.names.lookup z.1 = some .local) (own : scope.names.lookup x = some .local) (own2 : scope.names.lookup x2 = some .local)
    (clos : closureFor scope X.env = pure cl) (sub : ∀ p ∈ cl, X.env.cells.lookup p.1 = some p.2) (rl : (relabel scope X.env).names = ns') (only : ∀ p ∈ ns', p.2 = .cell ∨ p.2 = .free → (cl.lookup p.1).isSome = true) (nd : (x :: x2 :: ys).Nodup) (ny : ∀ y ∈ ys, ns'.lookup y ≠ some .local) (hl : ks.length = ys.length)
    (hk : ∀ p ∈ ks.zip ys, X.N[p.1]? = some p.2 ∧ X.env.kindOf p.2 = some .cell) : CompScope2 X (x :: x2 :: ys) ks x x2 scope cl := by
  subst rl
  refine ⟨kind, nocell, loc, own, own2, clos, fun y c h => lookup_mem_all (P := fun y c => X.env.cells.lookup y = some c) sub h, has_of only, nd, rfl, rfl, by simp [hl], fun j y h => ?_, fun j k h => outs_ok (own := [x, x2]) hl hk j k h⟩
  exact ny y (List.mem_of_getElem? (by simpa using h))
end L2

namespace L2
open PySem PySem.Spec PyProof.Rows
theorem comp_walk {J : It} {xs : List V} {te : TE} {σ : V → St} {H : Hp} {Q : VK} (hn : xs.length < sizeLine) (R : Nat → List V → Hp → Prop) (R0 : ∀ p, H p = none → R 0 [] (upd H p (.lst [])))
    (hstop : ∀ H', Same H H' → J.stop xs.length H') (hgo : ∀ (i : Nat) H', i < xs.length → Same H H' → J.go i H') (hyld : ∀ (i : Nat) H' x H2, Same H H' → J.yld i H' x H2 → H2 = H' ∧ xs[i]? = some x)
    (he : ∀ (i : Nat) (x : V) (vs : List V) (H' : Hp) (acc : Addr) (Q' : VK), xs[i]? = some x → Same H H' → H acc = none → H' acc = some (.lst vs) → R i vs H' → vs.length = i → (∀ y H2, Same H' H2 → R (i + 1) (vs ++ [y]) (upd H2 acc (.lst (vs ++ [y]))) → Q' y H2) → te (σ x) H' Q')
    (q : ∀ p H' vs, Same H H' → H p = none → H' p = some (.lst vs) → vs.length = xs.length → R xs.length vs H' → Q (.ref p) H') : CompEnd J Q H te σ := by
  intro acc hacc
  refine ⟨fun i m H' vs => i ≤ xs.length ∧ m = xs.length - i ∧ Same H H' ∧ H' acc = some (.lst vs) ∧ vs.length = i ∧ R i vs H', ⟨xs.length, Nat.zero_le _, by simp, same_new hacc _, upd_same, rfl, R0 _ hacc⟩, ?_⟩
  rintro i m H' vs ⟨hi, rfl, g, ha, hl, r⟩
  refine ⟨ha, ?_⟩
  by_cases h : i = xs.length
  · subst h
    exact .inl ⟨hstop _ g, q acc H' vs g hacc ha hl r⟩
  · have hlt : i < xs.length := by omega
    refine .inr ⟨hgo i _ hlt g, by omega, ?_⟩
    intro z H2 hz
    obtain ⟨rfl, hz'⟩ := hyld i _ _ _ g hz
    refine he i z vs H2 acc _ hz' g hacc ha r hl fun y H3 g3 r3 => ⟨g3 _ _ ha, xs.length - (i + 1), by omega, by omega, rfl, same_upd (g.trans g3) hacc, upd_same, ?_, r3⟩
    rw [List.length_append, hl]
    rfl
theorem comp_tupR {K : PySem.W.Frag} {a : Addr} {xs : List V} {te : TE} {σ : V → St} {H : Hp} {Q : VK} (hn : xs.length < sizeLine) (hK : ∀ H', Same H H' → SqT K H' a xs) (R : Nat → List V → Hp → Prop) (R0 : ∀ p, H p = none → R 0 [] (upd H p (.lst [])))
    (he : ∀ (i : Nat) (x : V) (vs : List V) (H' : Hp) (acc : Addr) (Q' : VK), xs[i]? = some x → Same H H' → H acc = none → H' acc = some (.lst vs) → R i vs H' → vs.length = i → (∀ y H2, Same H' H2 → R (i + 1) (vs ++ [y]) (upd H2 acc (.lst (vs ++ [y]))) → Q' y H2) → te (σ x) H' Q')
    (q : ∀ p H' vs, Same H H' → H p = none → H' p = some (.lst vs) → vs.length = xs.length → R xs.length vs H' → Q (.ref p) H') : CompEnd (Itt K a) Q H te σ :=
  comp_walk hn R R0 (fun H' g => ⟨xs, hK _ g, Nat.le_refl _⟩) (fun i H' hi g => ⟨xs, xs[i], hK _ g, by simp [hi]⟩) (fun i H' x H2 g h => ⟨h.1, h.2 xs (hK _ g)⟩) he q
theorem comp_listR {K : PySem.W.Frag} {a : Addr} {xs : List V} {te : TE} {σ : V → St} {H : Hp} {Q : VK} (hn : xs.length < sizeLine) (hK : ∀ H', Same H H' → SqL K H' a xs) (R : Nat → List V → Hp → Prop) (R0 : ∀ p, H p = none → R 0 [] (upd H p (.lst [])))
    (he : ∀ (i : Nat) (x : V) (vs : List V) (H' : Hp) (acc : Addr) (Q' : VK), xs[i]? = some x → Same H H' → H acc = none → H' acc = some (.lst vs) → R i vs H' → vs.length = i → (∀ y H2, Same H' H2 → R (i + 1) (vs ++ [y]) (upd H2 acc (.lst (vs ++ [y]))) → Q' y H2) → te (σ x) H' Q')
    (q : ∀ p H' vs, Same H H' → H p = none → H' p = some (.lst vs) → vs.length = xs.length → R xs.length vs H' → Q (.ref p) H') : CompEnd (Itl K a) Q H te σ :=
  comp_walk hn R R0 (fun H' g => ⟨xs, hK _ g, Nat.le_refl _⟩) (fun i H' hi g => ⟨xs, xs[i], hK _ g, by simp [hi]⟩) (fun i H' x H2 g h => ⟨h.1, h.2 xs (hK _ g)⟩) he q
theorem ixK_tup {X : Cx} {K : PySem.W.Frag} (e : X.K = K) : IxR X (rIxT K) := e ▸ ix_tup
theorem ixK_list {X : Cx} {K : PySem.W.Frag} (e : X.K = K) : IxR X (rIxL K) := e ▸ ix_list
def Laid (row : Nat → HO) (i : Nat) (vs : List V) (H : Hp) : Prop := ∃ rs : List Addr, vs = rs.map V.ref ∧ rs.length = i ∧ ∀ (j : Nat) (r : Addr), rs[j]? = some r → H r = some (row j)
end L2

namespace L2
open PySem PySem.Spec PyProof.Rows
section
variable {P : Program} {w : World} {A : Around} {E : Value → Shared → Prop}
theorem draw_lst {j l : Addr} {us : Array Value} (ne : l ≠ j) : ∀ (n i : Nat) (s : Shared) (Q : List Value → Shared → Prop), s.heap.IsListIter j l i → s.heap.IsList l us → i + n ≤ us.size →
    (∀ h', h'.IsListIter j l (i + n) → Heap.SameBut j s.heap h' → Q ((us.toList.drop i).take n) { s with heap := h' }) → wpAny (model P w) A (draw (.ref j) n) Q E s
  | 0, i, s, Q, g0, _, _, q => by
    show wpAny _ _ (pure ([] : List Value)) Q E s
    exact wpAny_pure (by simpa using q s.heap g0 (Heap.SameBut.refl ..))
  | n + 1, i, s, Q, g0, g1, le, q => by
    have lt : i < us.size := by omega
    show wpAny _ _ (pyNext (.ref j) >>= _) Q E s
    refine wpAny_bind (wpAny_pyNext_list_item g0 g1 (x := us[i]) (by simp [lt]) fun w1 k1 b1 => ?_)
    refine wpAny_bind (wpAny_holding (draw_lst ne n (i + 1) _ _ k1 (g1.extBut b1.extBut ne) (by omega) fun w2 k2 b2 => wpAny_pure ?_))
    have dr : us.toList.drop i = us[i] :: us.toList.drop (i + 1) := by simp [List.drop_eq_getElem_cons, lt]
    have z := q w2 (by rw [show i + (n + 1) = i + 1 + n by omega]; exact k2) (b1.trans b2)
    rw [dr, List.take_succ_cons] at z
    exact z
theorem unpack_lst {s : Shared} {l : Addr} {us : Array Value} {ts : List (Bool × (Value → Sem Unit))} {Q : Unit → Shared → Prop} (ha : A.handled = none) (g1 : s.heap.IsList l us) (hn : ts.length = us.size) (hst : ts.findIdx? (·.1) = none)
    (q : ∀ h', Heap.ExtBut s.heap.objs.size s.heap h' → wpAny (model P w) A (assignInOrder (ts.map (·.2)) us.toList) Q E { s with heap := h' }) : wpAny (model P w) A (unpack (.ref l) ts) Q E s := by
  have ne : l ≠ s.heap.objs.size := by
    obtain ⟨o, ho, _⟩ := g1
    exact Nat.ne_of_lt (Heap.lt_size ho)
  unfold unpack
  rw [hn, hst]
  refine wpAny_bind (wpAny_holding ?_)
  unfold unpackItems
  refine wpAny_bind ?_
  unfold notIterableAtAll
  refine wpAny_bind (wpAny_specialOf g1.typeIs slot_list_iter.lookup (wpAny_pure ?_))
  simp only [Bool.false_eq_true, if_false]
  refine wpAny_bind (wpAny_holding (wpAny_pyIter_list g1 ?_))
  refine wpAny_bind (wpAny_holding (draw_lst ne us.size 0 _ _ ⟨_, Heap.get?_push_size _ rfl, rfl, rfl⟩ (g1.push _) (by omega) fun w1 k1 b1 => ?_))
  rw [show List.take us.size (List.drop 0 us.toList) = us.toList by rw [List.drop_zero]; exact List.take_of_length_le (by simp)]
  rw [if_neg (by simp)]
  refine wpAny_bind (wpAny_holding (wpAny_pyNext_list_end ha k1 ((g1.push _).extBut b1.extBut ne) (by simp) fun w2 b2 => ?_))
  simp only [Option.isSome_none, Bool.false_eq_true, if_false]
  exact wpAny_pure (q w2 fun b o hb e => b2 b o hb (b1.extBut b o hb (Heap.get?_push_of_some _ e)))
end
def gLst (K : PySem.W.Frag) (n : Nat) (t : TGs) : TG := fun v σ H Q => ∃ a xs, v = .ref a ∧ SqL K H a xs ∧ xs.length = n ∧ t xs σ H Q
theorem pg_lst {X : Cx} {es : List Expr} {k : Nat} {t : TGs} {n : Nat} {pos : Pos} (hc : X.calm = true) (h : PGs X es t)
    (hn : (assignEach es X.env).length = n := by rfl) (hst : (assignEach es X.env).findIdx? (·.1) = none := by rfl) : PG X (.Tuple es k pos) (gLst X.K n t) := by
  intro pins s σ H v u Q I r hw
  obtain ⟨a, xs, e1, hq, hl, hw⟩ := hw
  subst e1
  cases r
  obtain ⟨its, rv, p, hz⟩ := I.list hq
  rw [assign_Tuple]
  refine wpAny_bind (wpAny_standAt (unpack_lst (I.ok.hd hc) p.isList (by simp [hn, ← hl, rv.length]) hst fun h' hx => ?_))
  have I1 : Inv X pins σ H { s with heap := h' } := I.kept (t' := s.toks) fun b o e => hx b o (Nat.ne_of_lt (Heap.lt_size e)) e
  exact h pins _ σ H xs _ Q I1 (by simpa using rv) hw
end L2

namespace L2
open PySem PySem.Spec PySem.Calls PyProof.Rows
section
variable {X : Cx} {N : List Str} {fr : List Nat} {x x2 : Str} {scope : Scope} {cl : List (Str × Addr)} {elt iter : Expr} {px px2 tp pos : Pos} {kt : Nat} {wi : TI} {te : TE}
end
end L2

namespace L2
open PySem PySem.Spec PyProof.Rows
def tPar3 (i j k : Nat) (ta : TA) : TS := fun D σ H => ta σ H fun vs H1 => ∃ v w z, vs = [v, w, z] ∧ D.nx (((σ.set i (some v)).set j (some w)).set k (some z)) H1
theorem compIf_walk2 {J : It} {xs : List V} {tc : TT} {te : TE} {σ : V → St} {H : Hp} {Q : VK} (hn : xs.length < sizeLine) (p : V → Bool) (f : V → V)
    (hstop : ∀ H', Same H H' → J.stop xs.length H') (hgo : ∀ (i : Nat) H', i < xs.length → Same H H' → J.go i H') (hyld : ∀ (i : Nat) H' x H2, i < xs.length → Same H H' → J.yld i H' x H2 → H2 = H' ∧ xs[i]? = some x)
    (ht : ∀ (i : Nat) (x : V) (H' : Hp) (Q' : Bool → Hp → Prop), xs[i]? = some x → Same H H' → (∀ H2, Same H' H2 → Q' (p x) H2) → tc (σ x) H' Q')
    (he : ∀ (i : Nat) (x : V) (H' : Hp) (Q' : VK), xs[i]? = some x → p x = true → Same H H' → (∀ H2, Same H' H2 → Q' (f x) H2) → te (σ x) H' Q')
    (q : ∀ a H', Same H H' → H a = none → H' a = some (.lst ((xs.filter p).map f)) → Q (.ref a) H') : CompIfEnd J Q H tc te σ := by
  intro acc hacc
  refine ⟨fun i m H' vs => i ≤ xs.length ∧ m = xs.length - i ∧ Same H H' ∧ H' acc = some (.lst vs) ∧ vs = ((xs.take i).filter p).map f, ⟨xs.length, Nat.zero_le _, by simp, same_new hacc _, upd_same, by simp⟩, ?_⟩
  rintro i m H' vs ⟨hi, rfl, g, ha, rfl⟩
  refine ⟨ha, ?_⟩
  by_cases h : i = xs.length
  · refine .inl ⟨h ▸ hstop _ g, q acc H' g hacc ?_⟩
    rw [ha, h, List.take_length]
  · have hlt : i < xs.length := by omega
    refine .inr ⟨hgo i _ hlt g, ?_, ?_⟩
    · rw [List.length_map]
      have h1 := List.length_filter_le p (xs.take i)
      rw [List.length_take] at h1
      omega
    intro z H2 hz
    obtain ⟨rfl, hz'⟩ := hyld i _ _ _ hlt g hz
    refine ht i z H2 _ hz' g fun H3 g3 => ?_
    have ts : xs.take (i + 1) = xs.take i ++ [z] := by rw [List.take_succ, hz']; rfl
    cases e : p z with
    | true =>
      rw [if_pos rfl]
      refine he i z H3 _ hz' e (g.trans g3) fun H4 g4 => ⟨g4 _ _ (g3 _ _ ha), xs.length - (i + 1), by omega, by omega, rfl, same_upd (g.trans (g3.trans g4)) hacc, upd_same, ?_⟩
      rw [ts, List.filter_append, List.map_append]
      have : [z].filter p = [z] := by simp [e]
      rw [this]
      rfl
    | false =>
      rw [if_neg Bool.false_ne_true]
      refine ⟨xs.length - (i + 1), by omega, by omega, rfl, g.trans g3, g3 _ _ ha, ?_⟩
      rw [ts, List.filter_append, List.map_append]
      have : [z].filter p = [] := by simp [e]
      rw [this]
      simp
theorem compIf_three {tc : TT} {te : TE} {σ : V → St} {H : Hp} {Q : VK} (p : V → Bool) (f : V → V)
    (ht : ∀ (i : Nat) (H' : Hp) (Q' : Bool → Hp → Prop), i < 3 → Same H H' → (∀ H2, Same H' H2 → Q' (p (.int (0 + (i : Int)))) H2) → tc (σ (.int (0 + (i : Int)))) H' Q')
    (he : ∀ (i : Nat) (H' : Hp) (Q' : VK), i < 3 → p (.int (0 + (i : Int))) = true → Same H H' → (∀ H2, Same H' H2 → Q' (f (.int (0 + (i : Int)))) H2) → te (σ (.int (0 + (i : Int)))) H' Q')
    (q : ∀ a H', Same H H' → H a = none → H' a = some (.lst ((((List.range 3).map fun (i : Nat) => V.int (0 + (i : Int))).filter p).map f)) → Q (.ref a) H') : CompIfEnd (Itr 0 3) Q H tc te σ := by
  have get : ∀ (i : Nat) (x : V), ((List.range 3).map fun (i : Nat) => V.int (0 + (i : Int)))[i]? = some x → i < 3 ∧ x = .int (0 + (i : Int)) := fun i x h => by
    rw [List.getElem?_map] at h
    by_cases e : i < 3
    · rw [List.getElem?_range e] at h
      exact ⟨e, (Option.some.inj h).symm⟩
    · rw [List.getElem?_eq_none (by rw [List.length_range]; omega)] at h
      cases h
  refine compIf_walk2 (xs := (List.range 3).map fun (i : Nat) => V.int (0 + (i : Int))) (by show 3 < sizeLine; decide) p f (fun H' g => Nat.le_refl 3) (fun i H' hi g => hi) (fun i H' x H2 hi g h => ⟨h.1, ?_⟩) ?_ ?_ q
  · have i3 : i < 3 := hi
    rw [h.2, List.getElem?_map, List.getElem?_range i3]
    rfl
  · intro i x H' Q' hx g k
    obtain ⟨h1, rfl⟩ := get i x hx
    exact ht i H' Q' h1 g k
  · intro i x H' Q' hx hp g k
    obtain ⟨h1, rfl⟩ := get i x hx
    exact he i H' Q' h1 hp g k
def tSetCI (wi : TI) (fr : List Nat) (tc : TT) (te : TE) (k : Nat) : TS := fun D σ H => tCompIfC wi fr tc te σ H fun v H' => D.nx (σ.set k (some v)) H'
theorem ps_setCI {X : Cx} {N : List Str} {fr : List Nat} {x : Str} {scope : Scope} {cl : List (Str × Addr)} {elt iter : Expr} {px pos : Pos} {wi : TI} {te : TE} {cnd : Expr} {tc : TT} {y : Str} {py spos : Pos} {k : Nat} (hN : X.N.Nodup) (hk : X.N[k]? = some y) (hy : Loc X.env.scope y) (hsw : swapsWith (.ListComp elt [⟨.Name x px, iter, [cnd], 0⟩] scope pos) (some (.Name y py)) spos.line X.env = pure true) (hc : X.still = true) (S : CompScope X N fr x scope cl) (hi : PI X (.Name x px) iter wi) (ht : ∀ (C : Addr) (s0 : Shared) (H0 : Hp) (fp : List Addr) (pins : List (Addr × Obj)), PT (cxC X N scope cl C s0 H0 fp pins) cnd tc) (he : ∀ (C : Addr) (s0 : Shared) (H0 : Hp) (fp : List Addr) (pins : List (Addr × Obj)), PE (cxC X N scope cl C s0 H0 fp pins) elt te)
    (hf : X.fn y = true ∨ X.env.scope.names.lookup y = some .local) (hs : ∀ y, foldedSetIterable iter X.env y = pure y := by intro _; rfl) : PS X (.Assign [.Name y py] (.ListComp elt [⟨.Name x px, iter, [cnd], 0⟩] scope pos) spos) (tSetCI wi fr tc te k) :=
  ps_setC hN hk hy hsw hc S hi ht he hf hs
end L2

namespace L2
open PySem PySem.Spec PyProof.Rows
def Ho (b : Bool) (xs : List V) : HO := match b with
  | true => .lst xs
  | false => .tup xs
def Sq (K : PySem.W.Frag) (H : Hp) (b : Bool) (a : Addr) (xs : List V) : Prop := match b with
  | true => SqL K H a xs
  | false => SqT K H a xs
def Itb (K : PySem.W.Frag) (b : Bool) (a : Addr) : It := match b with
  | true => Itl K a
  | false => Itt K a
theorem Sq.of {K : PySem.W.Frag} {H : Hp} {b : Bool} {a : Addr} {xs : List V} (h : H a = some (Ho b xs)) : Sq K H b a xs := by
  cases b with
  | true => exact SqL.of h
  | false => exact SqT.of h
def iSeq (K : PySem.W.Frag) (tl : TE) : TI := fun σ H R => tl σ H fun x H1 => ∃ a b xs, x = .ref a ∧ Sq K H1 b a xs ∧ R (Itb K b a) H1
theorem pi_seq {X : Cx} {tg l : Expr} {tl : TE} (hl : PE X l tl) : PI X tg l (iSeq X.K tl) := by
  intro pins s σ H R I h
  refine thn (hl pins s σ H _ I h) fun v s1 ⟨x, H1, I1, r1, q1⟩ => ?_
  obtain ⟨a, b, xs, e, hq, q⟩ := q1
  subst e
  cases r1
  cases b with
  | true =>
    obtain ⟨its, rv, p, hz⟩ := I1.list hq
    refine wpAny_pyIter_list p.isList ?_
    refine ⟨s1.heap.objs.size, [s1.heap.objs.size], _, _, H1, rfl, I1.kept (t' := s1.toks) fun b o e => Heap.get?_push_of_some _ e, turn_list a _, ⟨_, Heap.get?_push_size _ rfl, rfl, rfl⟩, fun b hb => ?_, q⟩
    have e : b = s1.heap.objs.size := by simpa using hb
    subst e
    exact I1.fpOk (Nat.le_refl _) (I1.hok.fresh (Nat.le_refl _))
  | false =>
    obtain ⟨its, rv, p, hz⟩ := I1.tuple hq
    refine wpAny_pyIter_tuple (show s1.heap.IsTuple a its.toArray from p) ?_
    refine ⟨s1.heap.objs.size, [s1.heap.objs.size], _, _, H1, rfl, I1.kept (t' := s1.toks) fun b o e => Heap.get?_push_of_some _ e, turn_tuple a _, ⟨_, Heap.get?_push_size _ rfl, rfl, rfl⟩, fun b hb => ?_, q⟩
    have e : b = s1.heap.objs.size := by simpa using hb
    subst e
    exact I1.fpOk (Nat.le_refl _) (I1.hok.fresh (Nat.le_refl _))
theorem for_seq {K : PySem.W.Frag} {b : Bool} {a : Addr} {xs : List V} {g : TG} {tb : TS} {D : Ends} {σ : St} {H : Hp} (Pv : Nat → St → Hp → Prop) (h0 : Pv 0 σ H) (hl : ∀ i σ H, i ≤ xs.length → Pv i σ H → Sq K H b a xs)
    (hs : ∀ i x σ H, xs[i]? = some x → Pv i σ H → g x σ H fun σ2 H2 => tb { D with nx := Pv (i + 1), ct := Pv (i + 1), bk := D.nx } σ2 H2) (hd : ∀ σ H, Pv xs.length σ H → D.nx σ H) :
    ∃ W : Nat → Nat → St → Hp → Prop, (∃ m, W 0 m σ H) ∧ ∀ i m σ H, W i m σ H →
      ((Itb K b a).stop i H ∧ D.nx σ H) ∨ ((Itb K b a).go i H ∧ ∃ N : St → Hp → Prop, (∀ σ' H', N σ' H' → ∃ m', m' < m ∧ W (i + 1) m' σ' H') ∧ ∀ x H', (Itb K b a).yld i H x H' → g x σ H' fun σ2 H2 => tb { D with nx := N, ct := N, bk := D.nx } σ2 H2) := by
  cases b with
  | true => exact for_list Pv h0 hl hs hd
  | false => exact for_tup Pv h0 hl hs hd
theorem compIf_seqF {K : PySem.W.Frag} {b : Bool} {a : Addr} {xs : List V} {tc : TT} {te : TE} {σ : V → St} {H : Hp} {Q : VK} (hn : xs.length < sizeLine) (p : V → Bool) (f : V → V) (hK : ∀ H', Same H H' → Sq K H' b a xs)
    (ht : ∀ (i : Nat) (x : V) (H' : Hp) (Q' : Bool → Hp → Prop), xs[i]? = some x → Same H H' → (∀ H2, Same H' H2 → Q' (p x) H2) → tc (σ x) H' Q')
    (he : ∀ (i : Nat) (x : V) (H' : Hp) (Q' : VK), xs[i]? = some x → p x = true → Same H H' → (∀ H2, Same H' H2 → Q' (f x) H2) → te (σ x) H' Q')
    (q : ∀ a H', Same H H' → H a = none → H' a = some (.lst ((xs.filter p).map f)) → Q (.ref a) H') : CompIfEnd (Itb K b a) Q H tc te σ := by
  cases b with
  | true => exact compIf_listF hn p f hK ht he q
  | false => exact compIf_tupF hn p f hK ht he q
theorem comp_seqF {K : PySem.W.Frag} {b : Bool} {a : Addr} {xs : List V} {te : TE} {σ : V → St} {H : Hp} {Q : VK} (hn : xs.length < sizeLine) (f : V → V) (hK : ∀ H', Same H H' → Sq K H' b a xs)
    (he : ∀ (i : Nat) (x : V) (H' : Hp) (Q' : VK), xs[i]? = some x → Same H H' → (∀ H2, Same H' H2 → Q' (f x) H2) → te (σ x) H' Q')
    (q : ∀ a H', Same H H' → H a = none → H' a = some (.lst (xs.map f)) → Q (.ref a) H') : CompEnd (Itb K b a) Q H te σ := by
  cases b with
  | true => exact comp_listF (hK H (Same.refl _)) hn f hK he q
  | false => exact comp_tupF (hK H (Same.refl _)) hn f hK he q
def Its (lo st : Int) (n : Nat) : It := ⟨fun i _ => i < n, fun i H x H' => H' = H ∧ x = .int (lo + (i : Int) * st), fun i _ => n ≤ i⟩
section
variable {X : Cx} {tg : Expr}
def iRng3 (ta : TA) : TI := fun σ H R => ta σ H fun vs H1 => ∃ i j c : Int, vs = [.int i, .int j, .int c] ∧ c ≠ 0 ∧ Builtin.divisionGoesByPylong (j - i) c = false ∧ Builtin.Range.small i j c = true ∧ R (Its i c (Builtin.Range.rangeSize i j c).toNat) H1
end
theorem call_anyT {X : Cx} (hc : X.calm = true) : CallR X (.builtin "any") (fun xs H Q => ∃ (l : Addr) (ns : List Int), xs = [.ref l] ∧ SqT X.K H l (ns.map V.int) ∧ Q (.bl (ns.any (· != 0))) H) := by
  intro pins s σ H xs us Q I rv h
  obtain ⟨l, ns, rfl, hH, q⟩ := h
  obtain ⟨u, rfl, ru⟩ := rv.one
  cases ru
  obtain ⟨its, r, p, hz⟩ := I.tuple hH
  obtain ⟨o, e, hcl, n, hd⟩ := id p
  have hlt : l < s.heap.objs.size := Heap.lt_size e
  refine call_any_walk (wpAny_pyIter_tuple (A := X.A.in1) (show s.heap.IsTuple l its.toArray from p) ?_)
  have W := Walks.tuple (prog := X.prog) (w := X.w) (A := X.A.in1) (show X.A.in1.handled = none from I.ok.hd hc) s.heap.objs.size l (Nat.ne_of_lt hlt) its.toArray
  refine ⟨s.heap.objs.size, _, _, _, _, _, fun i => ns.getD i 0 != 0, rfl, W, ⟨⟨_, Heap.get?_push_size _ rfl, rfl, rfl⟩, ⟨o, Heap.get?_push_of_some _ e, hcl, n, hd⟩⟩, ?_, ?_⟩
  · intro i v s' Q' E' hP hQ
    have hv : its[i]? = some v := by simpa using hP
    obtain ⟨b, t, hb, rfl⟩ : ∃ b t, ns[i]? = some b ∧ v = Value.int b t := by
      cases hbi : ns[i]? with
      | none =>
        have h1 := r.none_of (i := i) (by rw [List.getElem?_map, hbi]; rfl)
        rw [h1] at hv; cases hv
      | some b =>
        obtain ⟨u', h1, h2⟩ := r.get (i := i) (x := .int b) (by rw [List.getElem?_map, hbi]; rfl)
        rw [h1] at hv; cases hv
        obtain ⟨t, rfl⟩ := h2
        exact ⟨b, t, rfl, rfl⟩
    have hQ2 : Q' (ns.getD i 0 != 0) s' := hQ
    rw [List.getD_eq_getElem?_getD, hb] at hQ2
    exact truthy_int hQ2
  · intro h' tk hk
    have e2 : ((List.range its.toArray.size).any fun i => ns.getD i 0 != 0) = ns.any (· != 0) := by
      have hlen : its.toArray.size = ns.length := by
        rw [List.size_toArray, ← r.length, List.length_map]
      rw [hlen]
      rw [Bool.eq_iff_iff, List.any_eq_true, List.any_eq_true]
      constructor
      · rintro ⟨i, hi, hA⟩
        have hi' := List.mem_range.mp hi
        rw [List.getD_eq_getElem?_getD, List.getElem?_eq_getElem hi'] at hA
        exact ⟨_, List.getElem_mem hi', hA⟩
      · rintro ⟨b, hb, hA⟩
        obtain ⟨i, hi, e⟩ := List.getElem_of_mem hb
        refine ⟨i, List.mem_range.mpr hi, ?_⟩
        rw [List.getD_eq_getElem?_getD, List.getElem?_eq_getElem hi, e]
        exact hA
    rw [e2]
    refine ⟨.bl (ns.any (· != 0)), H, ?_, rfl, q⟩
    exact I.kept (h' := h') (t' := tk) fun b o q' => hk b o (fun zz => by
      have : b = s.heap.objs.size := by simpa using zz
      subst this
      exact absurd (Heap.lt_size q') (Nat.lt_irrefl _)) (Heap.get?_push_of_some _ q')
theorem callK_isi {X : Cx} {K : PySem.W.Frag} (e : X.K = K) : CallR X (.builtin "isinstance") (rIsi K) := e ▸ call_isi
def TupK (K : PySem.W.Frag) (a : Addr) (xs : List V) : Prop := ∃ (o : Obj) (its : Array Value) (n : Nat), K.lookup a = some o ∧ o.cls = .type "tuple" ∧ o.data = .seq its n ∧ its.size ≤ sizeLine ∧ Vals xs its.toList
theorem TupK.sq {K : PySem.W.Frag} {a : Addr} {xs : List V} (h : TupK K a xs) (H : Hp) : SqT K H a xs := .inr h
theorem TupK.mk {K : PySem.W.Frag} {a : Addr} {xs : List V} {od : Option Addr} {its : Array Value} {n : Nat} {sl : Array (Option Value)} (h : K.lookup a = some ⟨.type "tuple", od, .seq its n, sl⟩) (hz : its.size ≤ sizeLine) (hv : Vals xs its.toList) : TupK K a xs := ⟨_, its, n, h, rfl, rfl, hz, hv⟩
end L2

namespace SetM
open PySem PySem.SetTable
def Up (xs : Array Nat) : Prop := ∀ i j, (hij : i < j) → (h : j < xs.size) → xs[i]'(Nat.lt_trans hij h) < xs[j]
theorem below_go {xs : Array Nat} (u : Up xs) (j : Nat) : ∀ (f lo hi : Nat), hi ≤ xs.size → hi - lo ≤ f → lo ≤ hi → (∀ i, i < lo → (h : i < xs.size) → xs[i] < j) → (∀ i, hi ≤ i → (h : i < xs.size) → j ≤ xs[i]) →
    let r := below.go xs j f lo hi
    r ≤ xs.size ∧ (∀ i, i < r → (h : i < xs.size) → xs[i] < j) ∧ (∀ i, r ≤ i → (h : i < xs.size) → j ≤ xs[i])
  | 0, lo, hi, h1, h2, h3, ha, hb => by
    have e : lo = hi := by omega
    subst e
    exact ⟨h1, ha, hb⟩
  | f + 1, lo, hi, h1, h2, h3, ha, hb => by
    unfold below.go
    by_cases c : lo < hi
    · rw [if_pos c]
      have hm : (lo + hi) / 2 < xs.size := by omega
      have e : xs.getD ((lo + hi) / 2) j = xs[(lo + hi) / 2] := by
        rw [Array.getD_eq_getD_getElem?, Array.getElem?_eq_getElem hm]
        rfl
      dsimp only
      rw [e]
      by_cases d : xs[(lo + hi) / 2] < j
      · rw [if_pos d]
        refine below_go u j f _ hi h1 (by omega) (by omega) (fun i hi' h => ?_) hb
        by_cases q : i = (lo + hi) / 2
        · subst q; exact d
        · have := u i ((lo + hi) / 2) (by omega) hm
          omega
      · rw [if_neg d]
        refine below_go u j f lo _ (by omega) (by omega) (by omega) ha (fun i hi' h => ?_)
        by_cases q : i = (lo + hi) / 2
        · subst q; omega
        · have := u ((lo + hi) / 2) i (by omega) h
          omega
    · rw [if_neg c]
      have e : lo = hi := by omega
      subst e
      exact ⟨h1, ha, hb⟩
theorem below_spec {xs : Array Nat} (u : Up xs) (j : Nat) : below xs j ≤ xs.size ∧ (∀ i, i < below xs j → (h : i < xs.size) → xs[i] < j) ∧ (∀ i, below xs j ≤ i → (h : i < xs.size) → j ≤ xs[i]) :=
  below_go u j xs.size 0 xs.size (Nat.le_refl _) (by omega) (by omega) (fun i h => absurd h (Nat.not_lt_zero i)) fun i h h' => by omega
theorem below_next {xs : Array Nat} (u : Up xs) {i : Nat} (h : i < xs.size) : below xs (xs[i] + 1) = i + 1 := by
  obtain ⟨a, b, c⟩ := below_spec u (xs[i] + 1)
  have h1 : ¬ below xs (xs[i] + 1) ≤ i := fun z => by have := c i z h; omega
  have h2 : ¬ i + 1 < below xs (xs[i] + 1) := fun z => by
    have h3 : i + 1 < xs.size := by omega
    have := b (i + 1) z h3
    have := u i (i + 1) (by omega) h3
    omega
  omega
theorem below_zero {xs : Array Nat} (u : Up xs) : below xs 0 = 0 := by
  obtain ⟨a, b, c⟩ := below_spec u 0
  by_cases z : below xs 0 = 0
  · exact z
  · have := b 0 (by omega) (by omega)
    omega
theorem insertAt_toList {α : Type} (xs : Array α) (p : Nat) (x : α) : (insertAt xs p x).toList = xs.toList.take p ++ x :: xs.toList.drop p := by
  unfold insertAt
  simp
  exact List.take_of_length_le (by simp)
theorem up_iff {xs : Array Nat} : Up xs ↔ xs.toList.Pairwise (· < ·) := by
  rw [List.pairwise_iff_getElem]
  constructor
  · intro u i j hi hj hij
    exact u i j hij (by simpa using hj)
  · intro u i j hij h
    exact u i j (by simpa using Nat.lt_trans hij h) (by simpa using h) hij
theorem up_insert {xs : Array Nat} (u : Up xs) {j : Nat} (hj : xs[below xs j]? ≠ some j) : Up (insertAt xs (below xs j) j) := by
  obtain ⟨a, b, c⟩ := below_spec u j
  have ul := up_iff.mp u
  rw [up_iff, insertAt_toList]
  have c' : ∀ y ∈ xs.toList.drop (below xs j), j < y := fun y hy => by
    obtain ⟨i, hi, rfl⟩ := List.getElem_of_mem hy
    rw [List.getElem_drop]
    have hs : below xs j + i < xs.size := by
      rw [List.length_drop, Array.length_toList] at hi
      omega
    have h1 := c (below xs j + i) (by omega) hs
    by_cases z : i = 0
    · subst z
      have h2 : xs[below xs j] ≠ j := fun z => hj (by rw [Array.getElem?_eq_getElem (by omega), z])
      have h3 := c (below xs j) (by omega) (by omega)
      have h4 : xs[below xs j] = xs[below xs j + 0] := rfl
      show j < xs[below xs j + 0]
      omega
    · have h2 := u (below xs j) (below xs j + i) (by omega) hs
      have h3 := c (below xs j) (by omega) (by omega)
      show j < xs[below xs j + i]
      omega
  have b' : ∀ y ∈ xs.toList.take (below xs j), y < j := fun y hy => by
    obtain ⟨i, hi, rfl⟩ := List.getElem_of_mem hy
    rw [List.getElem_take]
    rw [List.length_take, Array.length_toList] at hi
    exact b i (by omega) (by omega)
  rw [List.pairwise_append]
  refine ⟨ul.take, List.pairwise_cons.mpr ⟨c', ul.drop⟩, fun x hx y hy => ?_⟩
  rcases List.mem_cons.mp hy with rfl | hy
  · exact b' x hx
  · exact Nat.lt_trans (b' x hx) (c' y hy)
structure Good (b : Bool) (t : SetTable) : Prop where
  up : Up t.place
  no : t.dummies = #[]
  led : t.led = b
theorem has_none (j : Nat) : SetTable.has #[] j = false := rfl
theorem good_put {b : Bool} {t : SetTable} (g : Good b t) {j : Nat} (hj : t.slot j = .empty) : Good b (t.put j).1 := by
  have hn : t.place[below t.place j]? ≠ some j := fun z => by
    unfold SetTable.slot at hj
    dsimp only at hj
    rw [if_pos (by rw [z]; exact beq_self_eq_true _)] at hj
    cases hj
  refine ⟨up_insert g.up hn, ?_, g.led⟩
  unfold SetTable.put
  dsimp only
  rw [g.no, has_none]
  rfl
end SetM

namespace SetM
open PySem
def SetG (prog : Program) (w : World) (b : Bool) (h : Heap) (a : Addr) (S : Int → Bool) (n : Nat) : Prop :=
  ∃ o es ep t, h.get? a = some o ∧ o.ExactSet ∧ o.data = .set es ep t ∧ ElemsOf (intKind prog w) es.toList ∧ (∀ k, S k = true ↔ ∃ e ∈ es.toList, (intKind prog w).is k e.2 = true) ∧ es.size < scanBound ∧ t.fits es.size = true ∧ es.size = n ∧ Good b t
section
variable {prog : Program} {w : World} {A : Around} {E : Value → Shared → Prop} {s : Shared} {b : Bool}
end
end SetM

namespace SetM
open PySem PyProof.Rows
abbrev byT (w : World) : Bool := w.params.followText "set-order"
abbrev newO (w : World) : Obj := { cls := .type "set", dict := none, data := .set #[] 0 (.fresh 0 0 (!byT w)) }
section
variable {prog : Program} {w : World} {A : Around} {E : Value → Shared → Prop} {s : Shared} {b : Bool}
theorem newG (a : Value) {Q₁ : Value → Shared → Prop} (h : Q₁ (.ref s.heap.objs.size) { s with heap := s.heap.push (newO w) }) :
    codeAny (model prog w) A (.call (.builtin "set.__new__") ⟨[.type "set", a], []⟩) (wants Q₁ E) s := by
  refine codeAny_of_tree ?_
  show wpAny _ A.in1 (do checkBuiltinCall "set.__new__" ⟨[.type "set", a], []⟩; again (.builtin "set.__new__" ⟨[.type "set", a], []⟩)) _ _ s
  refine wpAny_bind (wpAny_of_eq (PySem.F.newCall_set_1 a) (wpAny_pure ⟨plainId_quiet PySem.F.plain_set_new _, codeAny_builtin PySem.F.entry_set_new ?_⟩))
  rw [Around.under_plainId PySem.F.plain_set_new _]
  unfold Builtin.«set.__new__» Builtin.Frozenset.newClass
  have hsub := sub_set_self
  obtain ⟨hp, g, d, tk, os⟩ := s
  dsimp only
  wp_walk
  refine wpAny_askSetting (wpAny_pure ?_)
  dsimp only
  simp only [newObj]
  exact wpAny_bind (wpAny_alloc (wpAny_pure (wpAny_pure h)))
end
end SetM

namespace SetM
open PySem PyProof.Rows
theorem sl_next : Slot "set_iterator" "__next__" "set_iterator.__next__" :=
  .of (owner := "set_iterator") (n := "__next__") (by rw [typeLookup_type, builtinLookup_eq_fast]; kernel_rfl) (by decide +kernel) (by decide +kernel) (by decide +kernel)
    (by first | exact .inl (by decide +kernel) | exact .inr (by decide +kernel)) (by rw [isSubtype_type]; kernel_rfl)
theorem en_next : entryFor table "set_iterator.__next__" = some Builtin.«set_iterator.__next__» := entryFor_of_tree (by kernel_rfl)
theorem ow_si : Manifest.owners.lookup (String.ofList ['r', 'o', 't', 'a', 'r', 'e', 't', 'i', '_', 't', 'e', 's'].reverse) = some Manifest.sig_set_iterator := by kernel_rfl
theorem ar_next (a : Value) : argsOk "set_iterator.__next__" ⟨[a], []⟩ := by
  unfold argsOk; rw [signature?_of (id := "set_iterator.__next__") (n := ['_', '_', 't', 'x', 'e', 'n', '_', '_']) (o := ['r', 'o', 't', 'a', 'r', 'e', 't', 'i', '_', 't', 'e', 's']) (by kernel_rfl) ow_si]; kernel_rfl
theorem en_iter : entryFor table "set.__iter__" = some Builtin.«frozenset.__iter__» := entryFor_alias (id' := "frozenset.__iter__") (by kernel_rfl) rfl (by decide +kernel) (by kernel_rfl)
theorem sl_self : Slot "set_iterator" "__iter__" "set_iterator.__iter__" :=
  .of (owner := "set_iterator") (n := "__iter__") (by rw [typeLookup_type, builtinLookup_eq_fast]; kernel_rfl) (by decide +kernel) (by decide +kernel) (by decide +kernel)
    (by first | exact .inl (by decide +kernel) | exact .inr (by decide +kernel)) (by rw [isSubtype_type]; kernel_rfl)
def SetAt (h : Heap) (a : Addr) (es : Array (Int × Value)) (ep : Nat) (t : SetTable) : Prop := ∃ o, h.get? a = some o ∧ o.ExactSet ∧ o.data = .set es ep t ∧ t.fits es.size = true
def IterAt (h : Heap) (it a : Addr) (first : Value) (i n ep : Nat) : Prop := ∃ o, h.get? it = some o ∧ o.cls = .type "set_iterator" ∧ o.data = .fields #[first, .int i 0, .ref a, .int n 0, .int ep 0]
theorem SetAt.keeps {h h' : Heap} {a : Addr} {es : Array (Int × Value)} {ep : Nat} {t : SetTable} (x : SetAt h a es ep t) (k : ∀ o, h.get? a = some o → h'.get? a = some o) : SetAt h' a es ep t := let ⟨o, p, r⟩ := x; ⟨o, k _ p, r⟩
theorem IterAt.keeps {h h' : Heap} {it a : Addr} {f : Value} {i n ep : Nat} (x : IterAt h it a f i n ep) (k : ∀ o, h.get? it = some o → h'.get? it = some o) : IterAt h' it a f i n ep := let ⟨o, p, r⟩ := x; ⟨o, k _ p, r⟩
section
variable {prog : Program} {w : World} {A : Around} {E : Value → Shared → Prop} {s : Shared} {it a : Addr} {es : Array (Int × Value)} {ep i : Nat} {t : SetTable} {first : Value}
theorem IterAt.type {n : Nat} (x : IterAt s.heap it a first i n ep) : s.TypeIs (.ref it) "set_iterator" := let ⟨o, p, c, _⟩ := x; ⟨o, p, c⟩
theorem choose_ok {src : Source} {n : Nat} {Q : Nat → Shared → Prop} (hn : n ≠ 0) (h : ∀ k d, k < n → Q k { s with drawn := d }) : wpAny (model prog w) A (choose src n) Q E s := fun _ _ _ => ⟨hn, h _ _ (Nat.mod_lt _ (Nat.pos_of_ne_zero hn))⟩
theorem next_int {sl nx : Nat} {x : Value} {Q : Option Value → Shared → Prop} (hi : IterAt s.heap it a (.int sl 0) i es.size ep) (hs : SetAt s.heap a es ep t) (hne : a ≠ it)
    (hn : ∀ (A' : Around) (Q' : Option (Value × Nat) → Shared → Prop) (E' : Value → Shared → Prop), Q' (some (x, nx)) s → wpAny (model prog w) A' (setNext a sl i ep) Q' E' s)
    (hQ : ∀ h', IterAt h' it a (.int nx 0) (i + 1) es.size ep → Heap.SameBut it s.heap h' → Q (some x) { s with heap := h' }) :
    wpAny (model prog w) A (pyNext (.ref it)) Q E s := by
  obtain ⟨o, ho, hc, hd⟩ := id hi
  obtain ⟨os, hos, hex, hds, hf⟩ := id hs
  unfold pyNext
  refine wpAny_bind (wpAny_attempt (wpAny_callSpecial?_slot (name := Str.ofString "__next__") hi.type sl_next (wpAny_call_entry sl_next hi.type en_next ?_ (ar_next _))))
  unfold Builtin.«set_iterator.__next__»
  refine wpAny_bind (wpAny_pure ?_)
  refine wpAny_bind (wpAny_fieldsOf ho hd ?_)
  dsimp only
  refine wpAny_bind (wpAny_setEntries_of hos hds hf ?_)
  rw [if_neg (by simp)]
  refine wpAny_bind ?_
  simp only [Int.toNat_natCast]
  refine hn _ _ _ ?_
  dsimp only
  refine wpAny_bind (wpAny_setField ho hd (by simp) ?_)
  have h1 : (s.heap.update it (Obj.mapFields (·.setIfInBounds 0 (rawInt (nx : Int))))).get? it = some (Obj.mapFields (·.setIfInBounds 0 (rawInt (nx : Int))) o) := Heap.get?_update_self _ ho (Obj.isFreed_of_fields (Obj.data_mapFields hd _))
  refine wpAny_bind (wpAny_setField (s := { s with heap := s.heap.update it (Obj.mapFields (·.setIfInBounds 0 (rawInt (nx : Int)))) }) h1 (Obj.data_mapFields hd _) (by simp) ?_)
  refine wpAny_pure ⟨_, rfl, wpAny_pure (hQ _ ⟨_, Heap.get?_update_self _ h1 (Obj.isFreed_of_fields (Obj.data_mapFields (Obj.data_mapFields hd _) _)), ?_, ?_⟩ ((Heap.SameBut.update ..).trans (Heap.SameBut.update ..)))⟩
  · rw [Obj.cls_mapFields, Obj.cls_mapFields]
    exact hc
  · rw [Obj.data_mapFields (Obj.data_mapFields hd _)]
    simp [rawInt]
theorem stopped {o : Obj} {vs : Array Value} {k : Nat} {Q : Option Value → Shared → Prop} (hh : A.handled = none) (ho : s.heap.get? it = some o) (hd : o.data = .fields vs) (hk : k < vs.size) (x : Value) (hQ : ∀ h', Heap.ExtBut it s.heap h' → Q none { s with heap := h' }) :
    wpAny (model prog w) A.in1 (do setField (.ref it) k x; raiseNew (← newExc (.type "StopIteration") [])) (fun fin s' => ∃ v, fin = Fin.done (Flow.ret v) ∧ wpAny (model prog w) A (pure (some v)) Q E s')
      (fun e s' => wpAny (model prog w) A (do if ← isInstance e (.type "StopIteration") then pure none else throw e) Q E s') s := by
  refine wpAny_bind (wpAny_setField ho hd hk ?_)
  refine wpAny_bind ?_
  simp only [newExc, newTuple]
  refine wpAny_bind (wpAny_newObj_type ?_ (by size_fits))
  refine wpAny_bind (m := firstArgMember _ _) (wpAny_of_eq (a := Value.none) (by first | rfl | (simp only [firstArgMember]; rfl)) ?_)
  refine wpAny_newObj_type ?_ (by size_fits)
  simp only [raiseNew]
  refine wpAny_bind (wpAny_handled ?_)
  rw [show A.in1.handled = none from hh]
  refine wpAny_bind (wpAny_pure (wpAny_throw ?_))
  refine wpAny_bind (wpAny_isInstance (T := "StopIteration") (b := true) ⟨_, Heap.get?_push_size _ rfl, rfl⟩ isSubtype_stop ?_)
  exact wpAny_pure (hQ _ (((Heap.SameBut.update ..).extBut.push _).push _))
theorem next_intE {sl : Nat} {Q : Option Value → Shared → Prop} (hh : A.handled = none) (hi : IterAt s.heap it a (.int sl 0) i es.size ep) (hs : SetAt s.heap a es ep t)
    (hn : ∀ (A' : Around) (Q' : Option (Value × Nat) → Shared → Prop) (E' : Value → Shared → Prop), Q' none s → wpAny (model prog w) A' (setNext a sl i ep) Q' E' s)
    (hQ : ∀ h', Heap.ExtBut it s.heap h' → Q none { s with heap := h' }) : wpAny (model prog w) A (pyNext (.ref it)) Q E s := by
  obtain ⟨o, ho, hc, hd⟩ := id hi
  obtain ⟨os, hos, hex, hds, hf⟩ := id hs
  unfold pyNext
  refine wpAny_bind (wpAny_attempt (wpAny_callSpecial?_slot (name := Str.ofString "__next__") hi.type sl_next (wpAny_call_entry sl_next hi.type en_next ?_ (ar_next _))))
  unfold Builtin.«set_iterator.__next__»
  refine wpAny_bind (wpAny_pure ?_)
  refine wpAny_bind (wpAny_fieldsOf ho hd ?_)
  dsimp only
  refine wpAny_bind (wpAny_setEntries_of hos hds hf ?_)
  rw [if_neg (by simp)]
  refine wpAny_bind ?_
  simp only [Int.toNat_natCast]
  refine hn _ _ _ ?_
  dsimp only
  exact stopped hh ho hd (by simp) _ hQ
theorem next_drawn {f : Addr} {ps : List Nat} {p : Nat} {e : Int × Value} {Q : Option Value → Shared → Prop} (hi : IterAt s.heap it a (.ref f) i es.size ep) (hs : SetAt s.heap a es ep t) (hf' : s.heap.IsTuple f (ps.map fun (i : Nat) => rawInt i).toArray)
    (hp : ps[i]? = some p) (he : es[p]? = some e) (hQ : ∀ h', IterAt h' it a (.ref f) (i + 1) es.size ep → Heap.SameBut it s.heap h' → Q (some e.2) { s with heap := h' }) :
    wpAny (model prog w) A (pyNext (.ref it)) Q E s := by
  obtain ⟨o, ho, hc, hd⟩ := id hi
  obtain ⟨os, hos, hex, hds, hf⟩ := id hs
  unfold pyNext
  refine wpAny_bind (wpAny_attempt (wpAny_callSpecial?_slot (name := Str.ofString "__next__") hi.type sl_next (wpAny_call_entry sl_next hi.type en_next ?_ (ar_next _))))
  unfold Builtin.«set_iterator.__next__»
  refine wpAny_bind (wpAny_pure ?_)
  refine wpAny_bind (wpAny_fieldsOf ho hd ?_)
  dsimp only
  refine wpAny_bind (wpAny_setEntries_of hos hds hf ?_)
  rw [if_neg (by simp)]
  obtain ⟨of, hof, hcf, nf, hdf⟩ := id hf'
  refine wpAny_bind (wpAny_seqItems hof hdf ?_)
  have hx : (ps.map fun (i : Nat) => rawInt i).toArray[(i : Int).toNat]? = some (.int p 0) := by
    rw [Int.toNat_natCast, List.getElem?_toArray, List.getElem?_map, hp]
    rfl
  dsimp only
  rw [hx]
  dsimp only
  refine wpAny_bind ?_
  unfold setNextDrawn
  refine wpAny_bind (wpAny_setState_of hos hds hf ?_)
  dsimp only
  rw [if_neg (by simp)]
  simp only [Int.toNat_natCast, he]
  refine wpAny_pure ?_
  refine wpAny_bind (wpAny_setField ho hd (by simp) ?_)
  refine wpAny_pure ⟨_, rfl, wpAny_pure (hQ _ ⟨_, Heap.get?_update_self _ ho (Obj.isFreed_of_fields (Obj.data_mapFields hd _)), (Obj.cls_mapFields ..).trans hc, ?_⟩ (Heap.SameBut.update ..))⟩
  rw [Obj.data_mapFields hd]
  simp [rawInt]
theorem next_drawnE {f : Addr} {ps : List Nat} {Q : Option Value → Shared → Prop} (hh : A.handled = none) (hi : IterAt s.heap it a (.ref f) i es.size ep) (hs : SetAt s.heap a es ep t) (hf' : s.heap.IsTuple f (ps.map fun (i : Nat) => rawInt i).toArray)
    (hp : ps[i]? = none) (hQ : ∀ h', Heap.ExtBut it s.heap h' → Q none { s with heap := h' }) : wpAny (model prog w) A (pyNext (.ref it)) Q E s := by
  obtain ⟨o, ho, hc, hd⟩ := id hi
  obtain ⟨os, hos, hex, hds, hf⟩ := id hs
  unfold pyNext
  refine wpAny_bind (wpAny_attempt (wpAny_callSpecial?_slot (name := Str.ofString "__next__") hi.type sl_next (wpAny_call_entry sl_next hi.type en_next ?_ (ar_next _))))
  unfold Builtin.«set_iterator.__next__»
  refine wpAny_bind (wpAny_pure ?_)
  refine wpAny_bind (wpAny_fieldsOf ho hd ?_)
  dsimp only
  refine wpAny_bind (wpAny_setEntries_of hos hds hf ?_)
  rw [if_neg (by simp)]
  obtain ⟨of, hof, hcf, nf, hdf⟩ := id hf'
  refine wpAny_bind (wpAny_seqItems hof hdf ?_)
  have hx : (ps.map fun (i : Nat) => rawInt i).toArray[(i : Int).toNat]? = none := by
    rw [Int.toNat_natCast, List.getElem?_toArray, List.getElem?_map, hp]
    rfl
  dsimp only
  rw [hx]
  dsimp only
  refine wpAny_bind (wpAny_setField ho hd (by simp) ?_)
  have h1 : (s.heap.update it (Obj.mapFields (·.setIfInBounds 0 (rawInt 0)))).get? it = some (Obj.mapFields (·.setIfInBounds 0 (rawInt 0)) o) := Heap.get?_update_self _ ho (Obj.isFreed_of_fields (Obj.data_mapFields hd _))
  exact stopped (s := { s with heap := s.heap.update it (Obj.mapFields (·.setIfInBounds 0 (rawInt 0))) }) hh h1 (Obj.data_mapFields hd _) (by simp) _ fun h' x => hQ h' fun b o' nb e => x b o' nb ((Heap.get?_update_ne _ _ _ _ nb).trans e)
theorem erase_perm {α : Type} : ∀ {l : List α} {i : Nat} (h : i < l.length), (l[i] :: l.eraseIdx i).Perm l
  | x :: xs, 0, h => .refl _
  | x :: xs, i + 1, h => by
    have h' : i < xs.length := by simpa using h
    show (xs[i] :: x :: xs.eraseIdx i).Perm (x :: xs)
    exact (List.Perm.swap x xs[i] _).trans ((erase_perm h').cons x)
theorem draw_ok {α : Type} : ∀ (n : Nat) (xs : List α) (s : Shared) (Q : List α → Shared → Prop), n = xs.length → (∀ ys d, ys.Perm xs → Q ys { s with drawn := d }) → wpAny (model prog w) A (drawOrder n xs) Q E s
  | 0, xs, s, Q, hl, h => by
    have : xs = [] := List.length_eq_zero_iff.mp hl.symm
    subst this
    exact wpAny_pure (h [] s.drawn .nil)
  | n + 1, [], s, Q, hl, h => by cases hl
  | n + 1, x :: xs, s, Q, hl, h => by
    unfold drawOrder
    refine wpAny_bind (choose_ok (by simp) fun k d hk => ?_)
    rw [List.getElem?_eq_getElem hk]
    dsimp only
    refine wpAny_bind (draw_ok n _ _ _ (by rw [List.length_eraseIdx_of_lt hk]; simp at hl ⊢; omega) fun ys d' hy => wpAny_pure ?_)
    exact h _ d' ((hy.cons _).trans (erase_perm hk))
theorem pick_go {α : Type} (nx : Nat → Nat) : ∀ (f k : Nat) (l : List α) (out : Array α), f = l.length → (pickOrder.go nx f k l out).toList.Perm (out.toList ++ l)
  | 0, k, l, out, hl => by
    have : l = [] := List.length_eq_zero_iff.mp hl.symm
    subst this
    unfold pickOrder.go
    rw [List.append_nil]
  | f + 1, k, l, out, hl => by
    have hp : nx k % l.length < l.length := Nat.mod_lt _ (by omega)
    unfold pickOrder.go
    rw [List.getElem?_eq_getElem hp]
    dsimp only
    refine (pick_go nx f (k + 1) _ _ (by rw [List.length_eraseIdx_of_lt hp]; omega)).trans ?_
    rw [Array.toList_push, List.append_assoc]
    exact (erase_perm hp).append_left out.toList
theorem pick_perm {α : Type} (nx : Nat → Nat) (xs : Array α) : (pickOrder nx xs).toList.Perm xs.toList := by
  have := pick_go nx xs.size 0 xs.toList #[] (by simp)
  simpa [pickOrder] using this
end
end SetM

namespace SetM
open PySem PyProof.Rows
def Ends (t : SetTable) : Nat → SetTable.Probe → Prop
  | 0, p => t.slot p.j = .empty
  | n + 1, p => t.slot p.j = .empty ∨ (t.slot p.j = .live 0 ∧ Ends t n (t.advance p))
theorem adv_dummy (t : SetTable) (p : SetTable.Probe) : (t.advance p).dummy = p.dummy := by unfold SetTable.advance; split <;> rfl
theorem go_ends {t : SetTable} {f : Nat → Int} {h : Int} : ∀ (n fuel : Nat) (p : SetTable.Probe), n < fuel → p.dummy = none → Ends t n p →
    (∃ j, SetTable.probe.go t f h fuel p = some (.empty j none) ∧ t.slot j = .empty) ∨
    (∃ j q m, m < n ∧ SetTable.probe.go t f h fuel p = some (.candidate j 0 q) ∧ f 0 = h ∧ t.slot j = .live 0 ∧ q.dummy = none ∧ Ends t m q)
  | n, 0, p, hn, _, _ => absurd hn (Nat.not_lt_zero n)
  | 0, fuel + 1, p, _, hd, he => by
    left
    refine ⟨p.j, ?_, he⟩
    unfold SetTable.probe.go
    rw [show t.slot p.j = .empty from he, hd]
  | n + 1, fuel + 1, p, hn, hd, he => by
    rcases he with he | ⟨he, hr⟩
    · left
      refine ⟨p.j, ?_, he⟩
      unfold SetTable.probe.go
      rw [he, hd]
    · by_cases c : f 0 = h
      · right
        refine ⟨p.j, t.advance p, n, Nat.lt_succ_self n, ?_, c, he, (adv_dummy t p).trans hd, hr⟩
        unfold SetTable.probe.go
        rw [he]
        dsimp only
        rw [if_pos (by rw [c]; exact beq_self_eq_true _)]
      · have ih := go_ends (f := f) (h := h) n fuel (t.advance p) (by omega) ((adv_dummy t p).trans hd) hr
        have e : SetTable.probe.go t f h (fuel + 1) p = SetTable.probe.go t f h fuel (t.advance p) := by
          conv => lhs; unfold SetTable.probe.go
          rw [he]
          dsimp only
          rw [if_neg (by simpa using c)]
        rw [e]
        rcases ih with ih | ⟨j, q, m, h1, h2⟩
        · exact .inl ih
        · exact .inr ⟨j, q, m, by omega, h2⟩
theorem slot_one {t : SetTable} {q : Nat} (hp : t.place = #[q]) (hd : t.dummies = #[]) (j : Nat) : t.slot j = if j = q then .live 0 else .empty := by
  have hb : SetTable.below #[q] j = if q < j then 1 else 0 := by
    unfold SetTable.below
    show SetTable.below.go #[q] j 1 0 1 = _
    unfold SetTable.below.go
    simp [SetTable.below.go]
  unfold SetTable.slot
  rw [hp, hd]
  dsimp only
  rw [hb]
  by_cases c : q < j
  · rw [if_pos c, if_neg (show ¬ j = q by omega)]
    rfl
  · rw [if_neg c]
    by_cases d : j = q
    · subst d
      rw [if_pos rfl, if_pos (by simp)]
    · rw [if_neg d, if_neg (by simp; omega)]
      rfl
theorem ends_one {t : SetTable} {q : Nat} (hp : t.place = #[q]) (hd : t.dummies = #[]) (hm : t.mask = 7) : ∀ (k : Nat) (p : SetTable.Probe), p.more = 0 → p.j = p.i → p.i < 8 → p.perturb < 32 ^ k → Ends t (k + 1) p
  | k, p, h1, h2, h3, h4 => by
    have ha : t.advance p = { p with j := (p.i * 5 + 1 + p.perturb / 32) % 8, more := 0, i := (p.i * 5 + 1 + p.perturb / 32) % 8, perturb := p.perturb / 32 } := by
      unfold SetTable.advance
      rw [if_neg (by omega), hm]
      dsimp only [SetTable.leap]
      unfold SetTable.runEnd
      rw [if_neg (by omega), Nat.sub_self]
    by_cases c : p.j = q
    · right
      refine ⟨by rw [slot_one hp hd, if_pos c], ?_⟩
      cases k with
      | zero =>
        have e0 : p.perturb = 0 := by simpa using h4
        show t.slot (t.advance p).j = .empty
        rw [ha, slot_one hp hd]
        dsimp only
        rw [if_neg (by rw [e0]; omega)]
      | succ k =>
        refine ends_one hp hd hm k _ (by rw [ha]) (by rw [ha]) (by rw [ha]; dsimp only; omega) ?_
        rw [ha]
        dsimp only
        rw [Nat.pow_succ] at h4
        omega
    · left
      rw [slot_one hp hd, if_neg c]
theorem ends_start {t : SetTable} {q : Nat} (hp : t.place = #[q]) (hd : t.dummies = #[]) (hm : t.mask = 7) (h : Int) : Ends t 14 (t.probeStart h) := by
  have hb : SetTable.bits h < 2 ^ 64 := by
    unfold SetTable.bits
    have := Int.emod_nonneg h (show (2 ^ 64 : Int) ≠ 0 by decide)
    have := Int.emod_lt_of_pos h (show (0 : Int) < 2 ^ 64 by decide)
    omega
  have hr : SetTable.runEnd 7 (SetTable.bits h % 8) - SetTable.bits h % 8 = 0 := by
    unfold SetTable.runEnd
    rw [if_neg (by omega), Nat.sub_self]
  refine ends_one hp hd hm 13 _ ?_ rfl ?_ (Nat.lt_of_lt_of_le hb (by decide))
  · unfold SetTable.probeStart; rw [hm]; exact hr
  · unfold SetTable.probeStart; rw [hm]; exact Nat.mod_lt _ (by decide)
section
variable {prog : Program} {w : World} {A : Around} {E : Value → Shared → Prop} {s : Shared}
abbrev TK (prog : Program) (w : World) (h : Heap) (ns : List Int) (x : Addr) : Prop := IsTupleKey (intKind prog w) h ns x
theorem TK.keep {h h' : Heap} {ns : List Int} {x : Addr} (k : TK prog w h ns x) (q : ∀ o, h.get? x = some o → h'.get? x = some o) : TK prog w h' ns x :=
  let ⟨o, its, n, a, b⟩ := k; ⟨o, its, n, q _ a, b⟩
theorem notClass {ks : List Int} {x : Addr} {Q : Bool → Shared → Prop} (hx : TK prog w s.heap ks x) (h : Q false s) : wpAny (model prog w) A (ofAClassStatement 8 (.ref x)) Q E s := by
  have hT := hx.typeIs
  obtain ⟨o, items, n, ho, _, hd, hi⟩ := hx
  unfold ofAClassStatement
  refine wpAny_bind (wpAny_typeOf hT ?_)
  show wpAny _ _ (if ("tuple" == "tuple") = true then _ else _) _ _ _
  rw [if_pos (by decide)]
  refine wpAny_bind (wpAny_pure ?_)
  dsimp only
  rw [if_neg (by decide)]
  refine wpAny_bind (wpAny_seqItems ho hd ?_)
  dsimp only
  refine wpAny_bind ?_
  show wpAny _ _ (forIn items _ _) _ _ s
  rw [← Array.forIn_toList]
  refine wpAny_forIn_list _ (fun rest r s' => r.1 = none ∧ s' = s ∧ ∀ v ∈ rest, carriedByValue v = true) _ ?_ ?_ _ _ ⟨rfl, rfl, hi.byValue⟩
  · rintro v rest r s' ⟨hr, rfl, hall⟩
    have e : ofAClassStatement 7 v = pure false := by
      have := hall v List.mem_cons_self
      cases v with
      | ref a => simp [carriedByValue] at this
      | _ => rfl
    rw [e]
    refine wpAny_bind (wpAny_pure ?_)
    simp only [Bool.false_eq_true, if_false]
    exact wpAny_pure ⟨rfl, rfl, fun u hu' => hall u (List.mem_cons_of_mem _ hu')⟩
  · rintro ⟨r1, r2⟩ s' ⟨hr, rfl, _⟩
    simp only at hr
    subst hr
    exact wpAny_pure h
theorem hashByV {ks : List Int} {x : Addr} {Q : Bool → Shared → Prop} (hx : TK prog w s.heap ks x) (h : Q true s) : wpAny (model prog w) A (hashByValue 8 (.ref x)) Q E s := by
  have hT := hx.typeIs
  obtain ⟨o, items, n, ho, _, hd, hi⟩ := hx
  unfold hashByValue
  refine wpAny_bind (wpAny_specialOf hT F.slot_tuple_hash.lookup ?_)
  dsimp only
  refine wpAny_bind (wpAny_seqItems ho hd ?_)
  refine wpAny_bind ?_
  show wpAny _ _ (forIn items _ _) _ _ s
  rw [← Array.forIn_toList]
  refine wpAny_forIn_list _ (fun rest r s' => r.1 = none ∧ s' = s ∧ ∃ ks', ItemsAre (intKind prog w) ks' rest) _ ?_ ?_ _ _ ⟨rfl, rfl, ks, hi⟩
  · rintro v rest r s' ⟨hr, rfl, ks', hall⟩
    cases hall with
    | @cons k _ ks'' _ h1 hl =>
      have e : hashByValue 7 v = pure true := by
        have h' : Value.isInt k v = true := h1
        cases v with
        | int i t => rfl
        | _ => simp [Value.isInt] at h'
      rw [e]
      refine wpAny_bind (wpAny_pure ?_)
      simp only [Bool.not_true, Bool.false_eq_true, if_false]
      exact wpAny_pure ⟨rfl, rfl, ks'', hl⟩
  · rintro ⟨r1, r2⟩ s' ⟨hr, rfl, _⟩
    simp only at hr
    subst hr
    exact wpAny_pure h
theorem seen_no {ks ms : List Int} {x y : Addr} {Q : Bool → Shared → Prop} (hx : TK prog w s.heap ks x) (hy : TK prog w s.heap ms y) (h : Q false s) : wpAny (model prog w) A (searchCouldBeSeen (.ref x) [.ref y]) Q E s := by
  unfold searchCouldBeSeen
  refine wpAny_bind ?_
  rw [List.forIn_cons]
  refine wpAny_bind ?_
  dsimp only
  by_cases c : x = y
  · subst c
    rw [if_pos (by simp)]
    refine wpAny_pure ?_
    dsimp only
    rw [List.forIn_nil]
    exact wpAny_pure (wpAny_pure h)
  · rw [if_neg (by simp [carriedByValue, c])]
    refine wpAny_bind (wpAny_eqIsQuiet_tuple hx ?_)
    simp only [Bool.not_true, Bool.false_eq_true, if_false]
    refine wpAny_bind (wpAny_eqIsQuiet_tuple hy ?_)
    simp only [Bool.not_true, Bool.false_eq_true, if_false]
    refine wpAny_bind (notClass hx ?_)
    simp only [Bool.false_eq_true, if_false]
    refine wpAny_bind (notClass hy ?_)
    simp only [Bool.false_eq_true, if_false]
    refine wpAny_pure ?_
    dsimp only
    rw [List.forIn_nil]
    exact wpAny_pure (wpAny_pure h)
end
end SetM

namespace SetM
open PySem PyProof.Rows
section
variable {prog : Program} {w : World} {A : Around} {E : Value → Shared → Prop} {s : Shared}
theorem search_free {S x y : Addr} {ks ms : List Int} {h0 h : Int} {ep : Nat} {t : SetTable} {o : Obj} {Q : SetFound → Shared → Prop} (hu : A.units < cLine) (ho : s.heap.get? S = some o) (hd : o.data = .set #[(h0, .ref y)] ep t) (hf : t.fits 1 = true) (hm : t.mask = 7)
    (hx : TK prog w s.heap ks x) (hy : TK prog w s.heap ms y) (hne : ks ≠ ms) (hQ : ∀ j, t.slot j = .empty → Q (.free j false) s) :
    ∀ (n fuel : Nat) (st : Option SetTable.Probe), n < fuel → n < 220 → (st.getD (t.probeStart h)).dummy = none → Ends t n (st.getD (t.probeStart h)) → wpAny (model prog w) A (setSearchFrom S (.ref x) h true fuel st) Q E s
  | n, 0, st, hn, _, _, _ => absurd hn (Nat.not_lt_zero n)
  | n, fuel + 1, st, hn, h220, hdm, he => by
    unfold setSearchFrom
    refine wpAny_bind (wpAny_setState_of ho hd hf ?_)
    dsimp only
    rw [if_neg (by unfold SetTable.gaveWay; rw [hm]; decide)]
    refine wpAny_bind (wpAny_pure ?_)
    have hp : ∀ f, t.probe f h (st.getD (t.probeStart h)) = SetTable.probe.go t f h 220 (st.getD (t.probeStart h)) := fun f => by
      unfold SetTable.probe SetTable.turns
      rw [hm]
    rw [hp]
    rcases go_ends (h := h) (f := _) n 220 _ h220 hdm he with ⟨j, e, hs⟩ | ⟨j, q, m, hmn, e, hh, hs, hqd, hqe⟩
    · rw [e]
      exact wpAny_pure (hQ j hs)
    · rw [e]
      dsimp only
      have fin : wpAny (model prog w) A (do
          let some (_, y) := (#[(h0, Value.ref y)] : Array (Int × Value))[0]? | unsupported "internal:set-entry"
          let equal ← holding [y] (eqBool y (.ref x))
          let (es', _, t') ← setState S
          if true && equal then return SetFound.there none
          let some same := t'.sameMemory t.moves t.mask | unsupported "set.changed-during-lookup:is-the-new-block-at-the-old-address"
          let still ← match (if same then t'.slot j else .empty) with
            | .live i' => match es'[i']? with
              | some (_, y') => do pure (if ← isSame y' y then some i' else none)
              | none => pure none
            | _ => pure none
          match still with
          | none => rule "set.search.anew"; setSearchFrom S (.ref x) h true fuel none
          | some i' => if equal then return .there (some i') else setSearchFrom S (.ref x) h true fuel (some q)) Q E s := by
        show wpAny _ _ (holding [Value.ref y] (eqBool (.ref y) (.ref x)) >>= _) _ _ s
        refine wpAny_bind (wpAny_holding (wpAny_eqBool_tuple hu hy hx ?_))
        rw [decide_eq_false (fun z => hne z.symm)]
        refine wpAny_bind (wpAny_setState_of ho hd hf ?_)
        dsimp only
        rw [if_neg (by decide)]
        refine wpAny_bind (wpAny_pure ?_)
        rw [show t.sameMemory t.moves t.mask = some true by unfold SetTable.sameMemory; rw [if_pos (by simp)]]
        dsimp only
        rw [if_pos rfl, hs]
        dsimp only
        show wpAny _ _ (isSame (Value.ref y) (Value.ref y) >>= _) _ _ s
        have es : isSame (Value.ref y) (Value.ref y) = pure true := by
          show (if (y == y) = true then _ else _) = _
          rw [if_pos (by simp)]
        rw [es]
        refine wpAny_bind (wpAny_pure (wpAny_bind (wpAny_pure ?_)))
        rw [if_pos rfl]
        dsimp only
        rw [if_neg (by decide)]
        exact search_free hu ho hd hf hm hx hy hne hQ m fuel (some q) (by omega) (by omega) hqd hqe
      cases hl : t.led with
      | true =>
        rw [if_neg (by decide)]
        exact fin
      | false =>
        rw [if_pos (by decide)]
        have ef : ((#[(h0, Value.ref y)] : Array (Int × Value)).filter (·.1 == h)).toList.map (·.2) = [Value.ref y] := by
          have : h0 = h := hh
          simp [this]
        rw [ef]
        refine wpAny_bind (seen_no hx hy ?_)
        rw [if_neg (by decide)]
        exact fin
abbrev T1 (q : Nat) (b : Bool) : SetTable := { mask := 7, place := #[q], dummies := #[], finger := 0, led := b, moves := 0, plain := true }
abbrev hsh (prog : Program) (w : World) (ks : List Int) : Int := tupleKeyHash (intKind prog w) ks
abbrev hb8 (prog : Program) (w : World) (ks : List Int) : Nat := SetTable.bits (hsh prog w ks) % 8
def One (prog : Program) (w : World) (b : Bool) (h : Heap) (S x : Addr) (ks : List Int) : Prop := ∃ ep, SetAt h S #[(hsh prog w ks, .ref x)] ep (T1 (hb8 prog w ks) b)
theorem add_first {S x : Addr} {ks : List Int} {b : Bool} {ep : Nat} {Q : Bool → Shared → Prop} (hu : A.units < cLine) (hs : SetAt s.heap S #[] ep (.fresh 0 0 b)) (hx : TK prog w s.heap ks x)
    (h : ∀ h' tk, s.toks ≤ tk → Heap.SameBut S s.heap h' → One prog w b h' S x ks → Q true { s with heap := h', toks := tk }) : wpAny (model prog w) A (setAdd S (.ref x)) Q E s := by
  obtain ⟨o, ho, hex, hd, hf⟩ := hs
  unfold setAdd
  refine wpAny_holding (wpAny_bind (wpAny_pyHash_tuple hu hx ?_))
  unfold setAddHashed setAddHashedIn
  refine wpAny_holding (wpAny_bind (wpAny_setState_of ho hd hf ?_))
  show wpAny _ _ (setSearch S (.ref x) (hsh prog w ks) true >>= _) _ _ _
  refine wpAny_bind ?_
  unfold setSearch setSearchFrom
  refine wpAny_bind (wpAny_setState_of ho hd hf ?_)
  dsimp only
  rw [if_neg (show ¬ ((SetTable.fresh 0 0 b).gaveWay = true) from (show ¬ ((7 % 2 == 0) = true) by decide))]
  refine wpAny_pure ?_
  dsimp only
  refine wpAny_bind (wpAny_setState_of ho hd hf ?_)
  show wpAny _ _ (hashByValue 8 (.ref x) >>= _) _ _ _
  refine wpAny_bind (hashByV (s := { s with toks := _ }) hx ?_)
  show wpAny _ _ (storeSet S #[(hsh prog w ks, .ref x)] (T1 (hb8 prog w ks) b) >>= _) _ _ _
  refine wpAny_bind (wpAny_storeSet_of ho hd ?_ (by show 1 ≤ _; rw [sizeLine_eq]; omega))
  show wpAny _ _ (pure true) _ _ _
  refine wpAny_pure (h _ _ (Nat.le_add_right _ _) (Heap.SameBut.update _ _ _) ⟨ep + 1, { o with data := .set #[(hsh prog w ks, .ref x)] (ep + 1) (T1 (hb8 prog w ks) b) }, ?_, hex, rfl, rfl⟩)
  have z := Heap.get?_update_self (Obj.putSet #[(hsh prog w ks, .ref x)] (T1 (hb8 prog w ks) b)) ho (by rw [putSet_of _ _ hd]; rfl)
  rw [putSet_of _ _ hd] at z
  exact z
def Two (b : Bool) (h : Heap) (S x y : Addr) (ks ms : List Int) : Prop := ∃ es ep t, SetAt h S es ep t ∧ Good b t ∧ (es.toList.map (·.2)).Perm (if ks = ms then [.ref x] else [.ref x, .ref y])
theorem good_one (q : Nat) (b : Bool) : Good b (T1 q b) := ⟨fun i j hij h => by simp at h; omega, rfl, rfl⟩
theorem add_second {S x y : Addr} {ks ms : List Int} {b : Bool} {Q : Bool → Shared → Prop} (hu : A.units < cLine) (hs : One prog w b s.heap S x ks) (hx : TK prog w s.heap ks x) (hy : TK prog w s.heap ms y)
    (h : ∀ (r : Bool) h' tk, s.toks ≤ tk → Heap.SameBut S s.heap h' → Two b h' S x y ks ms → Q r { s with heap := h', toks := tk }) : wpAny (model prog w) A (setAdd S (.ref y)) Q E s := by
  obtain ⟨ep, o, ho, hex, hd, hf⟩ := hs
  unfold setAdd
  refine wpAny_holding (wpAny_bind (wpAny_pyHash_tuple hu hy ?_))
  unfold setAddHashed setAddHashedIn
  refine wpAny_holding (wpAny_bind (wpAny_setState_of ho hd hf ?_))
  show wpAny _ _ (setSearch S (.ref y) (hsh prog w ms) true >>= _) _ _ _
  refine wpAny_bind ?_
  by_cases c : ks = ms
  · subst c
    unfold setSearch setSearchFrom
    refine wpAny_bind (wpAny_setState_of ho hd hf ?_)
    dsimp only
    rw [if_neg (show ¬ ((T1 (hb8 prog w ks) b).gaveWay = true) from (show ¬ ((7 % 2 == 0) = true) by decide))]
    have hg : ∀ f : Nat → Int, f 0 = hsh prog w ks → (T1 (hb8 prog w ks) b).probe f (hsh prog w ks) ((none : Option SetTable.Probe).getD ((T1 (hb8 prog w ks) b).probeStart (hsh prog w ks))) = some (.candidate (hb8 prog w ks) 0 ((T1 (hb8 prog w ks) b).advance ((T1 (hb8 prog w ks) b).probeStart (hsh prog w ks)))) := fun f hf => by
      show SetTable.probe.go _ f _ 220 ((T1 (hb8 prog w ks) b).probeStart (hsh prog w ks)) = _
      unfold SetTable.probe.go
      rw [show ((T1 (hb8 prog w ks) b).slot ((T1 (hb8 prog w ks) b).probeStart (hsh prog w ks)).j) = .live 0 from by rw [slot_one rfl rfl]; exact if_pos rfl]
      dsimp only
      rw [if_pos (by rw [hf]; exact beq_self_eq_true _)]
      rfl
    rw [hg _ rfl]
    dsimp only
    have hh : Two b s.heap S x y ks ks := ⟨_, ep, _, ⟨o, ho, hex, hd, hf⟩, good_one _ b, by rw [if_pos rfl]; exact List.Perm.refl _⟩
    have fin : wpAny (model prog w) A (holding [Value.ref x] (eqBool (.ref x) (.ref y))) (fun e s' => e = true ∧ s' = { s with toks := s.toks + (ks.length + 1) }) E { s with toks := s.toks + (ks.length + 1) } :=
      wpAny_holding (wpAny_eqBool_tuple (s := { s with toks := s.toks + (ks.length + 1) }) hu hx hy ⟨by simp, rfl⟩)
    cases b with
    | true =>
      rw [if_neg (by decide)]
      show wpAny _ _ (holding [Value.ref x] (eqBool (.ref x) (.ref y)) >>= _) _ _ _
      refine wpAny_bind (wpAny_mono fin (fun e s' z => ?_) fun _ _ z => z)
      obtain ⟨rfl, rfl⟩ := z
      refine wpAny_bind (wpAny_setState_of ho hd hf ?_)
      dsimp only
      rw [if_pos (by rfl)]
      exact wpAny_pure (wpAny_pure (h _ s.heap _ (Nat.le_add_right _ _) (Heap.SameBut.refl _ _) hh))
    | false =>
      rw [if_pos (by decide)]
      have ef : ((#[(hsh prog w ks, Value.ref x)] : Array (Int × Value)).filter (·.1 == hsh prog w ks)).toList.map (·.2) = [Value.ref x] := by simp
      rw [ef]
      refine wpAny_bind (seen_no hy hx ?_)
      rw [if_neg (by decide)]
      show wpAny _ _ (holding [Value.ref x] (eqBool (.ref x) (.ref y)) >>= _) _ _ _
      refine wpAny_bind (wpAny_mono fin (fun e s' z => ?_) fun _ _ z => z)
      obtain ⟨rfl, rfl⟩ := z
      refine wpAny_bind (wpAny_setState_of ho hd hf ?_)
      dsimp only
      rw [if_pos (by rfl)]
      exact wpAny_pure (wpAny_pure (h _ s.heap _ (Nat.le_add_right _ _) (Heap.SameBut.refl _ _) hh))
  · unfold setSearch
    refine search_free (s := { s with toks := s.toks + (ms.length + 1) }) (h := hsh prog w ms) hu ho hd hf rfl hy hx (fun z => c z.symm) (fun j hj => ?_) 14 100000 none (by decide) (by decide) rfl (ends_start rfl rfl rfl _)
    refine wpAny_bind (wpAny_setState_of ho hd hf ?_)
    have gp := good_put (good_one (hb8 prog w ks) b) hj
    have hb : SetTable.below #[hb8 prog w ks] j ≤ 1 := (below_spec (good_one (hb8 prog w ks) b).up j).1
    have pl : ((T1 (hb8 prog w ks) b).put j).1.plain = true := rfl
    show wpAny _ _ (hashByValue 8 (.ref y) >>= _) _ _ _
    refine wpAny_bind (hashByV (s := { s with toks := _ }) hy ?_)
    show wpAny _ _ (storeSet S (SetTable.insertAt #[(hsh prog w ks, Value.ref x)] (SetTable.below #[hb8 prog w ks] j) (hsh prog w ms, Value.ref y)) ((T1 (hb8 prog w ks) b).put j).1 >>= fun _ => if (!false && ((T1 (hb8 prog w ks) b).put j).1.tooFull) = true then (setRelay S (SetTable.grown 2) >>= fun _ => pure true) else pure true) _ _ _
    generalize hT : ((T1 (hb8 prog w ks) b).put j).1 = t2 at gp ⊢
    have hsz : t2.place.size = 2 ∧ t2.mask = 7 := by
      rw [← hT]
      refine ⟨?_, rfl⟩
      show (SetTable.insertAt #[hb8 prog w ks] (SetTable.below #[hb8 prog w ks] j) j).size = 2
      rw [← Array.length_toList, insertAt_toList, List.length_append, List.length_cons, ← Nat.add_assoc, List.length_take, List.length_drop]
      simp only [List.length_cons, List.length_nil]
      omega
    have hfl : t2.fill = 2 := by unfold SetTable.fill; rw [hsz.1, gp.no]; rfl
    have hl : (SetTable.insertAt #[(hsh prog w ks, Value.ref x)] (SetTable.below #[hb8 prog w ks] j) (hsh prog w ms, Value.ref y)).toList.Perm [(hsh prog w ks, Value.ref x), (hsh prog w ms, Value.ref y)] := by
      rw [insertAt_toList]
      rcases (by omega : SetTable.below #[hb8 prog w ks] j = 0 ∨ SetTable.below #[hb8 prog w ks] j = 1) with e | e <;> rw [e]
      · exact List.Perm.swap _ _ _
      · exact List.Perm.refl _
    generalize SetTable.insertAt #[(hsh prog w ks, Value.ref x)] (SetTable.below #[hb8 prog w ks] j) (hsh prog w ms, Value.ref y) = es2 at hl ⊢
    have hz : es2.size = 2 := by rw [← Array.length_toList, hl.length_eq]; rfl
    refine wpAny_bind (wpAny_storeSet_of ho hd ?_ (by rw [hz, sizeLine_eq]; omega))
    have hft : t2.tooFull = false := by unfold SetTable.tooFull; rw [hfl, hsz.2]; decide
    rw [hft, if_neg (by decide)]
    refine wpAny_pure (h _ _ _ (Nat.le_add_right _ _) (Heap.SameBut.update _ _ _) ⟨es2, ep + 1, t2, ⟨{ o with data := .set es2 (ep + 1) t2 }, ?_, hex, rfl, ?_⟩, gp, ?_⟩)
    · have z := Heap.get?_update_self (Obj.putSet es2 t2) ho (by rw [putSet_of _ _ hd]; rfl)
      rw [putSet_of _ _ hd] at z
      exact z
    · unfold SetTable.fits
      rw [hz, hsz.1, hfl, hsz.2]
      decide
    · rw [if_neg c]
      exact hl.map _
end
end SetM

namespace SetM
open PySem PyProof.Rows
def drw (es : Array (Int × Value)) (t : SetTable) : Bool := !t.plain && decide (es.size > 1)
def slotAt (t : SetTable) (i : Nat) : Nat := match i with
  | 0 => 0
  | i + 1 => t.place.getD i 0 + 1
section
variable {prog : Program} {w : World} {A : Around} {E : Value → Shared → Prop} {s : Shared} {it a : Addr} {es : Array (Int × Value)} {ep i : Nat} {t : SetTable}
theorem below_slot {t : SetTable} (u : Up t.place) {i : Nat} (h : i ≤ t.place.size) : SetTable.below t.place (slotAt t i) = i := by
  cases i with
  | zero => exact below_zero u
  | succ i =>
    have hi : i < t.place.size := h
    show SetTable.below t.place (t.place.getD i 0 + 1) = i + 1
    rw [Array.getD_eq_getD_getElem?, Array.getElem?_eq_getElem hi]
    exact below_next u hi
theorem fits_size {t : SetTable} {n : Nat} (h : t.fits n = true) : t.place.size = n := by
  unfold SetTable.fits at h
  simp only [Bool.and_eq_true, beq_iff_eq] at h
  exact h.1
theorem next_table {k : Nat} {Q : Option (Value × Nat) → Shared → Prop} (hs : SetAt s.heap a es ep t) (hT : byT w = false) (hD : drw es t = false) (g : Good true t) (hi : i < es.size) (hQ : Q (some ((es[i]).2, slotAt t (i + 1))) s) :
    wpAny (model prog w) A (setNext a (slotAt t i) k ep) Q E s := by
  obtain ⟨o, ho, hex, hd, hf⟩ := hs
  have hz := fits_size hf
  unfold setNext
  refine wpAny_bind (wpAny_setState_of ho hd hf ?_)
  refine wpAny_bind (wpAny_bind (wpAny_askSetting (wpAny_pure ?_)))
  show wpAny _ _ (if byT w = true then _ else _) _ _ _
  rw [if_neg (by rw [hT]; exact Bool.false_ne_true)]
  show wpAny _ _ (if drw es t = true then _ else _) _ _ _
  rw [if_neg (by rw [hD]; exact Bool.false_ne_true)]
  refine wpAny_bind ?_
  show wpAny _ _ (if (!t.led && !es.isEmpty) = true then _ else _) _ _ _
  rw [if_neg (by rw [g.led]; simp)]
  refine wpAny_pure (wpAny_pure ?_)
  rw [below_slot g.up (by omega), Array.getElem?_eq_getElem hi, Array.getElem?_eq_getElem (show i < t.place.size by omega)]
  have e : slotAt t (i + 1) = t.place[i]'(by omega) + 1 := by
    show t.place.getD i 0 + 1 = _
    rw [Array.getD_eq_getD_getElem?, Array.getElem?_eq_getElem (show i < t.place.size by omega)]
    rfl
  rw [e] at hQ
  exact hQ
theorem next_tableE {k : Nat} {Q : Option (Value × Nat) → Shared → Prop} (hs : SetAt s.heap a es ep t) (hT : byT w = false) (hD : drw es t = false) (g : Good true t) (hQ : Q none s) :
    wpAny (model prog w) A (setNext a (slotAt t es.size) k ep) Q E s := by
  obtain ⟨o, ho, hex, hd, hf⟩ := hs
  have hz := fits_size hf
  unfold setNext
  refine wpAny_bind (wpAny_setState_of ho hd hf ?_)
  refine wpAny_bind (wpAny_bind (wpAny_askSetting (wpAny_pure ?_)))
  show wpAny _ _ (if byT w = true then _ else _) _ _ _
  rw [if_neg (by rw [hT]; exact Bool.false_ne_true)]
  show wpAny _ _ (if drw es t = true then _ else _) _ _ _
  rw [if_neg (by rw [hD]; exact Bool.false_ne_true)]
  refine wpAny_bind ?_
  show wpAny _ _ (if (!t.led && !es.isEmpty) = true then _ else _) _ _ _
  rw [if_neg (by rw [g.led]; simp)]
  refine wpAny_pure (wpAny_pure ?_)
  rw [below_slot g.up (by omega), Array.getElem?_eq_none (Nat.le_refl es.size)]
  exact hQ
abbrev picked (w : World) (a : Addr) (ep : Nat) (es : Array (Int × Value)) : Array (Int × Value) := pickOrder (w.params.setOrder a ep) es
theorem next_text {sl : Nat} {Q : Option (Value × Nat) → Shared → Prop} (hs : SetAt s.heap a es ep t) (hT : byT w = true) (hQ : Q (((picked w a ep es)[i]?).map fun e => (e.2, sl)) s) :
    wpAny (model prog w) A (setNext a sl i ep) Q E s := by
  obtain ⟨o, ho, hex, hd, hf⟩ := hs
  unfold setNext
  refine wpAny_bind (wpAny_setState_of ho hd hf ?_)
  refine wpAny_bind (wpAny_bind (wpAny_askSetting (wpAny_pure ?_)))
  show wpAny _ _ (if byT w = true then _ else _) _ _ _
  rw [if_pos hT]
  rw [if_neg (by simp)]
  refine wpAny_bind ?_
  unfold setWalk
  refine wpAny_bind (wpAny_setState_of ho hd hf ?_)
  refine wpAny_bind (wpAny_bind (wpAny_askSetting (wpAny_pure ?_)))
  show wpAny _ _ (if byT w = true then _ else _) _ _ _
  rw [if_pos hT]
  exact wpAny_bind (wpAny_askSetting (wpAny_pure (wpAny_pure hQ)))
theorem iter_set {Q : Value → Shared → Prop} (hs : SetAt s.heap a es ep t) (hz : es.size ≤ sizeLine)
    (h1 : (!byT w && drw es t) = false → Q (.ref s.heap.objs.size) { s with heap := s.heap.push { cls := .type "set_iterator", data := .fields #[.int 0 0, .int 0 0, .ref a, .int es.size 0, .int ep 0] } })
    (h2 : (!byT w && drw es t) = true → ∀ (ps : List Nat) d, ps.Perm (List.range es.size) → Q (.ref (s.heap.objs.size + 1)) { s with
      heap := (s.heap.push { cls := .type "tuple", data := .seq (ps.map fun (i : Nat) => rawInt i).toArray }).push { cls := .type "set_iterator", data := .fields #[.ref s.heap.objs.size, .int 0 0, .ref a, .int es.size 0, .int ep 0] }, drawn := d }) :
    wpAny (model prog w) A (pyIter (.ref a)) Q E s := by
  obtain ⟨o, ho, hex, hd, hf⟩ := id hs
  have hT : s.TypeIs (.ref a) "set" := ⟨o, ho, hex.1⟩
  refine wpAny_pyIter_slot hT PySem.F.slot_set_iter (wpAny_call_entry PySem.F.slot_set_iter hT en_iter ?_ (PySem.F.args_set_iter_1 _))
  unfold Builtin.«frozenset.__iter__»
  refine wpAny_bind ?_
  unfold Builtin.Frozenset.slot0
  refine wpAny_bind (wpAny_pure ?_)
  show wpAny _ _ (pure a) _ _ _
  refine wpAny_pure (wpAny_bind ?_)
  unfold Builtin.Frozenset.sizeOf
  refine wpAny_bind (wpAny_setEntries_of ho hd hf (wpAny_pure (wpAny_bind ?_)))
  refine wpAny_bind (wpAny_setState_of ho hd hf ?_)
  refine wpAny_bind (wpAny_bind (wpAny_askSetting (wpAny_pure (wpAny_pure ?_))))
  show wpAny _ _ (if (!byT w && drw es t) = true then _ else _) _ _ _
  cases c : (!byT w && drw es t) with
  | false =>
    rw [if_neg Bool.false_ne_true]
    refine wpAny_bind (wpAny_pure (wpAny_bind (wpAny_setEpoch_of ho hd hf ?_)))
    refine wpAny_bind (wpAny_newObj_type (wpAny_pure ⟨_, rfl, "set_iterator", _, ⟨_, Heap.get?_push_size _ rfl, rfl⟩, sl_next.lookup, ?_⟩))
    simpa [rawInt] using h1 c
  | true =>
    rw [if_pos rfl]
    refine wpAny_bind (draw_ok _ _ _ _ (by simp) fun ps d hp => ?_)
    have hl : (ps.map fun (i : Nat) => rawInt (i : Int)).length ≤ sizeLine := by rw [List.length_map, hp.length_eq, List.length_range]; exact hz
    refine wpAny_bind (wpAny_newTuple ?_ hl)
    have ho2 : (s.heap.push { cls := .type "tuple", data := .seq (ps.map fun (i : Nat) => rawInt (i : Int)).toArray }).get? a = some o := Heap.get?_push_of_some _ ho
    refine wpAny_bind (wpAny_setEpoch_of ho2 hd hf ?_)
    refine wpAny_bind (wpAny_newObj_type (wpAny_pure ⟨_, rfl, "set_iterator", _, ⟨_, Heap.get?_push_size _ rfl, rfl⟩, sl_next.lookup, ?_⟩))
    have := h2 c ps d hp
    simpa [rawInt, Heap.size_push] using this
end
end SetM

namespace SetM
open PySem PyProof.Rows PySem.W
section
variable {prog : Program} {w : World} {A : Around} {E : Value → Shared → Prop} {s : Shared} {a : Addr} {es : Array (Int × Value)} {ep : Nat} {t : SetTable}
theorem en_self : entryFor table "set_iterator.__iter__" = some Builtin.«dict_keyiterator.__iter__» := entryFor_alias (id' := "dict_keyiterator.__iter__") (by kernel_rfl) rfl (by decide +kernel) (by kernel_rfl)
theorem ar_self (a : Value) : argsOk "set_iterator.__iter__" ⟨[a], []⟩ := by
  unfold argsOk; rw [signature?_of (id := "set_iterator.__iter__") (n := ['_', '_', 'r', 'e', 't', 'i', '_', '_']) (o := ['r', 'o', 't', 'a', 'r', 'e', 't', 'i', '_', 't', 'e', 's']) (by kernel_rfl) ow_si]; kernel_rfl
theorem iter_self {it : Addr} {f : Value} {i n : Nat} {Q : Value → Shared → Prop} (hi : IterAt s.heap it a f i n ep) (h : Q (.ref it) s) : wpAny (model prog w) A (pyIter (.ref it)) Q E s := by
  refine wpAny_pyIter_slot hi.type sl_self (wpAny_call_entry sl_self hi.type en_self ?_ (ar_self _))
  show wpAny _ _ (ret (.ref it)) _ _ s
  exact wpAny_pure ⟨_, rfl, "set_iterator", _, hi.type, sl_next.lookup, h⟩
theorem walk_table (hh : A.handled = none) (I : Addr) (hne : a ≠ I) (hT : byT w = false) (hD : drw es t = false) (g : Good true t) :
    Walks prog w A I [I, a] [I] es.size (fun i v => ∃ e, es[i]? = some e ∧ v = e.2) (fun i h => IterAt h I a (.int (slotAt t i) 0) i es.size ep ∧ SetAt h a es ep t) where
  sub := fun b hb => by simp at hb; simp [hb]
  frame := fun _ _ _ st hk => ⟨st.1.keeps fun o e => hk I (by simp) o e, st.2.keeps fun o e => hk a (by simp) o e⟩
  item := fun i s Q E hi st hQ => by
    refine next_int st.1 st.2 hne (fun A' Q' E' q => next_table st.2 hT hD g hi q) fun h' it' sb => ?_
    exact hQ _ h' s.toks ⟨es[i], Array.getElem?_eq_getElem hi, rfl⟩ ⟨it', st.2.keeps fun o e => (sb.2 a hne).trans e⟩ fun b o hb e => (sb.2 b fun z => hb (by simp [z])).trans e
  done := fun s Q E st hQ => next_intE hh st.1 st.2 (fun A' Q' E' q => next_tableE st.2 hT hD g q) fun h' x => hQ h' s.toks fun b o hb e => x b o (fun z => hb (by simp [z])) e
  self := fun _ _ _ _ st hQ => iter_self st.1 hQ
theorem walk_text (hh : A.handled = none) (I : Addr) (hne : a ≠ I) (hT : byT w = true) :
    Walks prog w A I [I, a] [I] es.size (fun i v => ∃ e, (picked w a ep es)[i]? = some e ∧ v = e.2) (fun i h => IterAt h I a (.int (0 : Nat) 0) i es.size ep ∧ SetAt h a es ep t) where
  sub := fun b hb => by simp at hb; simp [hb]
  frame := fun _ _ _ st hk => ⟨st.1.keeps fun o e => hk I (by simp) o e, st.2.keeps fun o e => hk a (by simp) o e⟩
  item := fun i s Q E hi st hQ => by
    have hz : (picked w a ep es).size = es.size := by rw [← Array.length_toList, (pick_perm _ es).length_eq, Array.length_toList]
    have hp : i < (picked w a ep es).size := by omega
    refine next_int (x := (picked w a ep es)[i].2) (nx := 0) st.1 st.2 hne (fun A' Q' E' q => next_text st.2 hT (by rw [Array.getElem?_eq_getElem hp]; exact q)) fun h' it' sb => ?_
    exact hQ _ h' s.toks ⟨_, Array.getElem?_eq_getElem hp, rfl⟩ ⟨it', st.2.keeps fun o e => (sb.2 a hne).trans e⟩ fun b o hb e => (sb.2 b fun z => hb (by simp [z])).trans e
  done := fun s Q E st hQ => by
    have hz : (picked w a ep es).size = es.size := by rw [← Array.length_toList, (pick_perm _ es).length_eq, Array.length_toList]
    exact next_intE hh st.1 st.2 (fun A' Q' E' q => next_text st.2 hT (by rw [Array.getElem?_eq_none (by omega)]; exact q)) fun h' x => hQ h' s.toks fun b o hb e => x b o (fun z => hb (by simp [z])) e
  self := fun _ _ _ _ st hQ => iter_self st.1 hQ
theorem walk_drawn {f : Addr} {ps : List Nat} (hh : A.handled = none) (I : Addr) (hne : a ≠ I) (hnf : f ≠ I) (hp : ps.Perm (List.range es.size)) :
    Walks prog w A I [I, a, f] [I] es.size (fun i v => ∃ p e, ps[i]? = some p ∧ es[p]? = some e ∧ v = e.2) (fun i h => IterAt h I a (.ref f) i es.size ep ∧ SetAt h a es ep t ∧ h.IsTuple f (ps.map fun (i : Nat) => rawInt i).toArray) where
  sub := fun b hb => by simp at hb; simp [hb]
  frame := fun _ _ _ st hk => ⟨st.1.keeps fun o e => hk I (by simp) o e, st.2.1.keeps fun o e => hk a (by simp) o e, let ⟨o, p, r⟩ := st.2.2; ⟨o, hk f (by simp) o p, r⟩⟩
  item := fun i s Q E hi st hQ => by
    have hl : ps.length = es.size := by rw [hp.length_eq, List.length_range]
    have h1 : i < ps.length := by omega
    have h2 : ps[i] < es.size := List.mem_range.mp (hp.mem_iff.mp (List.getElem_mem h1))
    refine next_drawn st.1 st.2.1 st.2.2 (List.getElem?_eq_getElem h1) (Array.getElem?_eq_getElem h2) fun h' it' sb => ?_
    exact hQ _ h' s.toks ⟨_, _, List.getElem?_eq_getElem h1, Array.getElem?_eq_getElem h2, rfl⟩ ⟨it', st.2.1.keeps fun o e => (sb.2 a hne).trans e, let ⟨o, p, r⟩ := st.2.2; ⟨o, (sb.2 f hnf).trans p, r⟩⟩ fun b o hb e => (sb.2 b fun z => hb (by simp [z])).trans e
  done := fun s Q E st hQ => by
    have hl : ps.length = es.size := by rw [hp.length_eq, List.length_range]
    exact next_drawnE hh st.1 st.2.1 st.2.2 (List.getElem?_eq_none (by omega)) fun h' x => hQ h' s.toks fun b o hb e => x b o (fun z => hb (by simp [z])) e
  self := fun _ _ _ _ st hQ => iter_self st.1 hQ
def vAt (es : Array (Int × Value)) (p : Nat) : Value := (es.getD p (0, .none)).2
theorem vAt_lt {es : Array (Int × Value)} {p : Nat} (h : p < es.size) : vAt es p = es[p].2 := by
  unfold vAt
  rw [Array.getD_eq_getD_getElem?, Array.getElem?_eq_getElem h]
  rfl
theorem vals_range (es : Array (Int × Value)) : es.toList.map (·.2) = (List.range es.size).map (vAt es) := by
  refine List.ext_getElem (by simp) fun i h1 h2 => ?_
  have h : i < es.size := by simpa using h1
  rw [List.getElem_map, List.getElem_map, List.getElem_range, vAt_lt h]
  simp
theorem items_table {es : Array (Int × Value)} {acc : Array Value} {n : Nat} (hn : es.size = n) (h : ItemsOf (fun i v => ∃ e, es[i]? = some e ∧ v = e.2) acc n) : acc.toList = es.toList.map (·.2) := by
  refine List.ext_getElem (by simp [h.1, hn]) fun i h1 h2 => ?_
  have h3 : i < acc.size := by simpa using h1
  obtain ⟨e, he, hv⟩ := h.2 i acc[i] (Array.getElem?_eq_getElem h3)
  have h4 : i < es.size := by simpa using h2
  rw [Array.getElem?_eq_getElem h4] at he
  cases he
  simpa using hv
theorem items_drawn {es : Array (Int × Value)} {acc : Array Value} {ps : List Nat} (hp : ps.Perm (List.range es.size)) (h : ItemsOf (fun i v => ∃ p e, ps[i]? = some p ∧ es[p]? = some e ∧ v = e.2) acc es.size) : acc.toList.Perm (es.toList.map (·.2)) := by
  have hl : ps.length = es.size := by rw [hp.length_eq, List.length_range]
  have e : acc.toList = ps.map (vAt es) := by
    refine List.ext_getElem (by simp [h.1, hl]) fun i h1 h2 => ?_
    have h3 : i < acc.size := by simpa using h1
    obtain ⟨p, e, hp', he, hv⟩ := h.2 i acc[i] (Array.getElem?_eq_getElem h3)
    have h4 : i < ps.length := by simpa using h2
    rw [List.getElem?_eq_getElem h4] at hp'
    cases hp'
    obtain ⟨h5, h6⟩ := Array.getElem?_eq_some_iff.mp he
    rw [List.getElem_map, vAt_lt h5, h6, ← hv]
    simp
  rw [e, vals_range]
  exact hp.map _
structure Pk (prog : Program) (w : World) (A : Around) (s s1 : Shared) (a I : Addr) (es : Array (Int × Value)) (fp : List Addr) (P : Nat → Value → Prop) (St : Nat → Heap → Prop) : Prop where
  walk : Walks prog w A I fp [I] es.size P St
  at0 : St 0 s1.heap
  old : ∀ b o, s.heap.get? b = some o → s1.heap.get? b = some o
  new : s.heap.get? I = none
  fps : ∀ b ∈ fp, b = a ∨ s.heap.get? b = none
  same : s1 = { s with heap := s1.heap, drawn := s1.drawn }
  perm : ∀ acc, ItemsOf P acc es.size → acc.toList.Perm (es.toList.map (·.2))
theorem iterG {Q : Value → Shared → Prop} (hh : A.handled = none) (hs : SetAt s.heap a es ep t) (hz : es.size ≤ sizeLine) (g : Good (!byT w) t)
    (h : ∀ I s1 fp P St, Pk prog w A s s1 a I es fp P St → Q (.ref I) s1) : wpAny (model prog w) A (pyIter (.ref a)) Q E s := by
  have la : a < s.heap.objs.size := let ⟨o, p, _⟩ := hs; Heap.lt_size p
  refine iter_set (t := t) hs hz (fun c => ?_) (fun c ps d hp => ?_)
  · have hne : a ≠ s.heap.objs.size := Nat.ne_of_lt la
    have st : IterAt (s.heap.push { cls := .type "set_iterator", data := .fields #[.int 0 0, .int 0 0, .ref a, .int es.size 0, .int ep 0] }) s.heap.objs.size a (.int (0 : Nat) 0) 0 es.size ep := ⟨_, Heap.get?_push_size _ rfl, rfl, rfl⟩
    have hs1 : SetAt (s.heap.push { cls := .type "set_iterator", data := .fields #[.int 0 0, .int 0 0, .ref a, .int es.size 0, .int ep 0] }) a es ep t := hs.keeps fun o e => Heap.get?_push_of_some _ e
    have nn : s.heap.get? s.heap.objs.size = none := Heap.get?_none_of_le (Nat.le_refl _)
    have fp : ∀ b ∈ [s.heap.objs.size, a], b = a ∨ s.heap.get? b = none := fun b hb => by
      rcases List.mem_cons.mp hb with rfl | hb
      · exact .inr nn
      · exact .inl (List.mem_singleton.mp hb)
    cases hT : byT w with
    | true =>
      exact h _ _ _ _ _ ⟨walk_text (t := t) (ep := ep) hh _ hne hT, ⟨st, hs1⟩, fun b o e => Heap.get?_push_of_some _ e, nn, fp, rfl, fun acc x => by
        have hz : (picked w a ep es).size = es.size := by rw [← Array.length_toList, (pick_perm _ es).length_eq, Array.length_toList]
        rw [items_table hz x]
        exact (pick_perm _ es).map _⟩
    | false =>
      rw [hT] at g c
      have hD : drw es t = false := by simpa using c
      exact h _ _ _ _ _ ⟨walk_table (t := t) (ep := ep) hh _ hne hT hD g, ⟨st, hs1⟩, fun b o e => Heap.get?_push_of_some _ e, nn, fp, rfl, fun acc x => by rw [items_table rfl x]⟩
  · have sz : (s.heap.push { cls := .type "tuple", data := .seq (ps.map fun (i : Nat) => rawInt i).toArray }).objs.size = s.heap.objs.size + 1 := Heap.size_push ..
    have n1 : s.heap.get? (s.heap.objs.size + 1) = none := Heap.get?_none_of_le (Nat.le_succ _)
    have n0 : s.heap.get? s.heap.objs.size = none := Heap.get?_none_of_le (Nat.le_refl _)
    have st : IterAt ((s.heap.push { cls := .type "tuple", data := .seq (ps.map fun (i : Nat) => rawInt i).toArray }).push { cls := .type "set_iterator", data := .fields #[.ref s.heap.objs.size, .int 0 0, .ref a, .int es.size 0, .int ep 0] }) (s.heap.objs.size + 1) a (.ref s.heap.objs.size) 0 es.size ep :=
      ⟨{ cls := .type "set_iterator", data := .fields #[.ref s.heap.objs.size, .int 0 0, .ref a, .int es.size 0, .int ep 0] }, by rw [← sz]; exact Heap.get?_push_size _ rfl, rfl, rfl⟩
    refine h _ _ _ _ _ ⟨walk_drawn (t := t) (ep := ep) (f := s.heap.objs.size) hh (s.heap.objs.size + 1) (Nat.ne_of_lt (Nat.lt_succ_of_lt la)) (Nat.ne_of_lt (Nat.lt_succ_self _)) hp, ⟨st, hs.keeps fun o e => Heap.get?_push_of_some _ (Heap.get?_push_of_some _ e), _, Heap.get?_push_of_some _ (Heap.get?_push_size _ rfl), rfl, _, rfl⟩, fun b o e => Heap.get?_push_of_some _ (Heap.get?_push_of_some _ e), n1, fun b hb => ?_, rfl, fun acc x => items_drawn hp x⟩
    rcases List.mem_cons.mp hb with rfl | hb
    · exact .inr n1
    · rcases List.mem_cons.mp hb with rfl | hb
      · exact .inl rfl
      · rw [List.mem_singleton.mp hb]
        exact .inr n0
end
end SetM

namespace SetM
open PySem PyProof.Rows PySem.W
section
variable {prog : Program} {w : World} {A : Around} {E : Value → Shared → Prop} {s : Shared} {a : Addr} {es : Array (Int × Value)} {ep : Nat} {t : SetTable}
theorem hint_set {Q : Bool → Shared → Prop} (hT : s.TypeIs (.ref a) "set") (h : Q false s) : wpAny (model prog w) A (Builtin.List.listLengthHint (.ref a)) Q E s := by
  unfold Builtin.List.listLengthHint
  refine wpAny_bind (wpAny_specialOf hT PySem.F.slot_set_len.lookup ?_)
  generalize hid : ("set.__len__" : String) = id0
  wp_delta
  rw [show splitId id0 = some ("set", "__len__") from by subst hid; decide +kernel]
  subst hid
  refine wpAny_bind (wpAny_isInstance (T := "set") (b := true) hT (by rw [isSubtype_type]; kernel_rfl) ?_)
  refine wpAny_ite_split (fun hab => absurd hab (by decide)) (fun _ => ?_)
  refine wpAny_ite_split (fun _ => ?_) (fun hab => absurd (by decide +kernel) hab)
  refine wpAny_bind (wpAny_typeOf hT ?_)
  exact wpAny_pure h
theorem extendG {R : Result → Shared → Prop} (hh : A.handled = none) (hs : SetAt s.heap a es ep t) (hz : es.size ≤ sizeLine) (g : Good (!byT w) t) (S : Addr) (hSa : S ≠ a) (res : Value) (c₀ : Nat) (hS : s.heap.get? S = some { cls := .type "list", data := .seq #[] c₀ })
    (hR : ∀ h' tk d acc' c', (∀ b o, b ≠ S → s.heap.get? b = some o → h'.get? b = some o) → h'.get? S = some { cls := .type "list", dict := none, data := .seq acc' c', slots := #[] } → acc'.toList.Perm (es.toList.map (·.2)) → R (.ok (.ret res)) { s with heap := h', toks := tk, drawn := d }) :
    wpAny (model prog w) A.in1 (Builtin.List.listExtendWith (.ref S) (.ref a) res)
      (fun fin s' => match fin with | .done f => R (.ok f) s' | .again c' => c'.quiet = true ∧ codeAny (model prog w) A c' R s') (fun e s' => R (.error e) s') s := by
  obtain ⟨o, ho, hex, hd, hf⟩ := id hs
  have hT : s.TypeIs (.ref a) "set" := ⟨o, ho, hex.1⟩
  unfold Builtin.List.listExtendWith
  refine wpAny_bind (wpAny_typeOf (T := "set") hT ?_)
  have h1 : Builtin.List.listSameRef (.ref S) (.ref a) = false := by simp [Builtin.List.listSameRef, hSa]
  have h2 : (Value.type "set" == Value.type "list") = false := by decide
  have h3 : (Value.type "set" == Value.type "tuple") = false := by decide
  simp only [h1, h2, h3, Bool.or_false, Bool.false_eq_true, if_false]
  refine wpAny_bind (iterG (A := A.in1) hh hs hz g fun I s1 fp P St pk => ?_)
  have e1 := pk.same
  have hSf : S ∉ fp := fun z => by
    rcases pk.fps S z with y | y
    · exact hSa y
    · rw [hS] at y; cases y
  have hSI : S ≠ I := fun z => by
    have := pk.new
    rw [← z, hS] at this
    cases this
  have hS1 := pk.old _ _ hS
  have key : ∀ (h : Heap) (c₁ tk : Nat), St 0 h → (∀ b o, b ≠ S → s.heap.get? b = some o → h.get? b = some o) → h.get? S = some { cls := .type "list", data := .seq #[] c₁ } →
      codeAny (model prog w) A (.builtin "list.extend.loop" ⟨[.ref S, .ref I, res], []⟩) R { s1 with heap := h, toks := tk } := by
    intro h c₁ tk hst hk hS₁
    refine codeAny_extend_loopS pk.walk.toS hz S hSf res es.size 0 _ #[] c₁ rfl (Nat.zero_le _) hst hS₁ (ItemsOf.nil _) fun s' acc' c' hm hS' hacc => ?_
    rw [Moved.eq_with hm, e1]
    refine hR s'.heap s'.toks s1.drawn acc' c' (fun b o hb e => hm.heap b o (fun hmem => ?_) (hk b o hb e)) hS' (pk.perm _ hacc)
    rcases List.mem_cons.mp hmem with z | z
    · exact hb z
    · have := pk.new
      rw [← List.mem_singleton.mp z, e] at this
      cases this
  have hT1 : s1.TypeIs (.ref a) "set" := ⟨o, pk.old _ _ ho, hex.1⟩
  refine wpAny_bind (wpAny_holding (hint_set hT1 ?_))
  refine wpAny_ite_split (fun _ => ?_) (fun _ => wpAny_pure ⟨plainId_quiet PySem.F.plain_extend_loop _, key _ c₀ _ pk.at0 (fun b o _ e => pk.old _ _ e) hS1⟩)
  refine wpAny_bind (wpAny_rule ?_)
  refine wpAny_bind ?_
  show wpAny _ _ (updateSeq S (·.push .none) >>= fun _ => updateSeq S (·.pop)) _ _ _
  refine wpAny_bind (wpAny_updateSeq hS1 rfl ?_)
  have hS₂ := Heap.get?_update_self (Obj.mapSeq (·.push Value.none)) hS1 rfl
  refine wpAny_updateSeq (hz := by seq_fits) hS₂ rfl ?_
  have hS₃ := Heap.get?_update_self (Obj.mapSeq (·.pop)) hS₂ rfl
  refine wpAny_pure ⟨plainId_quiet PySem.F.plain_extend_loop _, key _ _ _ ?_ (fun b o hb e => ?_) hS₃⟩
  · refine pk.walk.frame 0 _ _ pk.at0 fun b hb o e => ?_
    have hbS : b ≠ S := fun h => hSf (h ▸ hb)
    exact (Heap.get?_update_other _ _ (Ne.symm hbS)).trans ((Heap.get?_update_other _ _ (Ne.symm hbS)).trans e)
  · exact (Heap.get?_update_other _ _ (Ne.symm hb)).trans ((Heap.get?_update_other _ _ (Ne.symm hb)).trans (pk.old _ _ e))
theorem collectG {R : List Value → Shared → Prop} (hh : A.handled = none) (hs : SetAt s.heap a es ep t) (hz : es.size ≤ sizeLine) (g : Good (!byT w) t)
    (h : ∀ (h' : Heap) (tk : Nat) d (acc : Array Value), (∀ b o, s.heap.get? b = some o → h'.get? b = some o) → acc.toList.Perm (es.toList.map (·.2)) → R acc.toList { s with heap := h', toks := tk, drawn := d }) :
    wpAny (model prog w) A (collect (.ref a)) R E s := by
  have la : a < s.heap.objs.size := let ⟨o, p, _⟩ := hs; Heap.lt_size p
  unfold collect
  refine wpAny_bind (wpAny_runValue (codeAny_builtin entry_proto_collect' ?_))
  rw [Around.under_plainId PySem.F.plain_proto_collect _]
  show wpAny _ A.in1 (newList [] >>= fun l => again (.builtin "list.__iadd__" ⟨[l, .ref a], []⟩)) _ _ s
  refine wpAny_bind (wpAny_newObj_type ?_)
  refine wpAny_pure ⟨plainId_quiet PySem.F.plain_list_iadd _, codeAny_builtin entry_list_iadd' ?_⟩
  rw [Around.under_plainId PySem.F.plain_list_iadd _]
  have hS₁ : (s.heap.push { cls := .type "list", data := .seq ([] : List Value).toArray }).get? s.heap.objs.size = some { cls := .type "list", data := .seq #[] } := Heap.get?_push_size _ rfl
  show wpAny _ A.in1 (Builtin.List.listExtendWith (.ref s.heap.objs.size) (.ref a) (.ref s.heap.objs.size)) _ _ _
  have key := extendG (A := A) (prog := prog) (w := w) (s := { s with heap := s.heap.push { cls := .type "list", data := .seq ([] : List Value).toArray } })
    (R := fun (q : Result) (s' : Shared) => ∃ (h' : Heap) (tk : Nat) (d : Drawn) (acc' : Array Value) (c' : Nat), q = .ok (.ret (.ref s.heap.objs.size)) ∧ s' = { s with heap := h', toks := tk, drawn := d } ∧
      (∀ b o, s.heap.get? b = some o → h'.get? b = some o) ∧ h'.get? s.heap.objs.size = some { cls := .type "list", dict := none, data := .seq acc' c', slots := #[] } ∧ acc'.toList.Perm (es.toList.map (·.2)))
    hh (hs.keeps fun o e => Heap.get?_push_of_some _ e) hz g s.heap.objs.size (Nat.ne_of_gt la) (.ref s.heap.objs.size) 0 hS₁
    (fun h' tk d acc' c' hk hS' hacc => ⟨h', tk, d, acc', c', rfl, rfl, fun b o e => hk b o (Nat.ne_of_lt (Heap.lt_size e)) (Heap.get?_push_of_some _ e), hS', hacc⟩)
  refine wpAny_mono key (fun fin s' x => ?_) fun e s' x => ?_
  · cases fin with
    | done f =>
      obtain ⟨h', tk, d, acc', c', e, rfl, hk, hS', hacc⟩ := x
      cases e
      show wpAny _ A (load s.heap.objs.size >>= _) _ _ _
      exact wpAny_bind (wpAny_load hS' (wpAny_pure (h h' tk d acc' hk hacc)))
    | again c₁ =>
      refine ⟨x.1, codeAny_mono x.2 fun q s₂ y => ?_⟩
      obtain ⟨h', tk, d, acc', c', rfl, rfl, hk, hS', hacc⟩ := y
      show wpAny _ A (load s.heap.objs.size >>= _) _ _ _
      exact wpAny_bind (wpAny_load hS' (wpAny_pure (h h' tk d acc' hk hacc)))
  · obtain ⟨_, _, _, _, _, e', _⟩ := x
    cases e'
end
end SetM

namespace L2
open PySem PySem.Spec PyProof.Rows PySem.W SetM
def SetE (P : Program) (w : World) (p : Addr) (ns : List Int) (h : Heap) : Prop := ∃ D : List Int, D.Nodup ∧ (∀ k, k ∈ D ↔ k ∈ ns) ∧ SetG P w (!byT w) h p (fun k => D.any (· == k)) D.length
end L2

namespace SetM
open PySem PyProof.Rows
section
variable {prog : Program} {w : World} {A : Around} {E : Value → Shared → Prop} {s : Shared}
theorem loopJ {R : Result → Shared → Prop} {I : Addr} {fp wr : List Addr} {G : Array GenState → Array GenState → Prop} {n : Nat} {P : Nat → Value → Prop} {St : Nat → Shared → Prop}
    (W : WalksS prog w A.in1 I fp wr G n P St) (S : Addr) (hSf : S ∉ fp) (J : Nat → Heap → Prop) (Jk : ∀ i h h', J i h → (∀ b o, b ∉ wr → h.get? b = some o → h'.get? b = some o) → J i h')
    (add : ∀ i v s (Q : Bool → Shared → Prop) (E : Value → Shared → Prop), i < n → P i v → J i s.heap → (∀ (r : Bool) h' tk, s.toks ≤ tk → Heap.SameBut S s.heap h' → J (i + 1) h' → Q r { s with heap := h', toks := tk }) → wpAny (model prog w) A.in1 (setAdd S v) Q E s) : ∀ (k i : Nat) (s : Shared), n - i = k → i ≤ n → St i s →
      J i s.heap → (∀ s', Moved (S :: wr) G s s' → J n s'.heap → R (.ok (.ret .none)) s') →
      codeAny (model prog w) A (.builtin "set.update.loop" ⟨[.ref S, .ref I], []⟩) R s
  | 0, i, s, hk, hi, st, hJ, hR => by
    obtain rfl : i = n := by omega
    refine codeAny_builtin F.entry_set_update_loop ?_
    rw [Around.under_plainId F.plain_set_update_loop _]
    show wpAny _ A.in1 (pyNext (.ref I) >>= _) _ _ s
    refine wpAny_bind (W.done s _ _ st fun s' hm => ?_)
    show wpAny _ A.in1 (ret Value.none) _ _ s'
    exact wpAny_pure (hR s' (hm.mono fun b hb => List.mem_cons_of_mem _ hb) (Jk _ _ _ hJ fun b o hb e => hm.heap b o hb e))
  | k + 1, i, s, hk, hi, st, hJ, hR => by
    have lt : i < n := by omega
    refine codeAny_builtin F.entry_set_update_loop ?_
    rw [Around.under_plainId F.plain_set_update_loop _]
    show wpAny _ A.in1 (pyNext (.ref I) >>= _) _ _ s
    refine wpAny_bind (W.item i s _ _ lt st fun v s' hP st' hm => ?_)
    have hJ' := Jk _ _ _ hJ fun b o hb e => hm.heap b o hb e
    show wpAny _ A.in1 (holding [v] (setAdd S v) >>= _) _ _ s'
    refine wpAny_bind (wpAny_holding (add i v s' _ _ lt hP hJ' fun r h' tk hle sb hJ2 => ?_))
    refine wpAny_pure ⟨plainId_quiet F.plain_set_update_loop _, loopJ W S hSf J Jk add k (i + 1) _ (by omega) lt (W.frame _ s' _ _ st' hle fun b hb o e => ?_) hJ2 fun s'' hm'' hS'' => ?_⟩
    · rw [sb.2 b fun z => hSf (by rw [← z]; exact hb)]
      exact e
    · refine hR s'' (Moved.trans W.gtrans ((hm.mono fun b hb => List.mem_cons_of_mem _ hb).then_heap hle fun b o hb e => ?_) hm'') hS''
      rw [sb.2 b fun z => hb (by rw [z]; exact List.mem_cons_self)]
      exact e
theorem call_setJ {l : Addr} {items : Array Value} {J : Nat → Heap → Prop} {Q : Value → Shared → Prop} (hh : A.handled = none) (hl : s.heap.IsList l items)
    (J0 : ∀ h', (∀ b o, s.heap.get? b = some o → h'.get? b = some o) → h'.get? s.heap.objs.size = some (newO w) → J 0 h')
    (Jk : ∀ i h h', J i h → (∀ b o, b ≠ s.heap.objs.size + 1 → h.get? b = some o → h'.get? b = some o) → J i h')
    (add : ∀ i v s' (Q : Bool → Shared → Prop) (E : Value → Shared → Prop), items[i]? = some v → J i s'.heap → (∀ (r : Bool) h' tk, s'.toks ≤ tk → Heap.SameBut s.heap.objs.size s'.heap h' → J (i + 1) h' → Q r { s' with heap := h', toks := tk }) →
      wpAny (model prog w) A.in1.in1.in1 (setAdd s.heap.objs.size v) Q E s')
    (h : ∀ (h' : Heap) (tk : Nat), J items.size h' → (∀ b o, b < s.heap.objs.size → s.heap.get? b = some o → h'.get? b = some o) → Q (.ref s.heap.objs.size) { s with heap := h', toks := tk }) :
    wpAny (model prog w) A (call (.type "set") [.ref l]) Q E s := by
  obtain ⟨c, tl, hmro⟩ := PySem.F.called_set.mro
  have hmade := PySem.F.called_set.made
  have hsub := PySem.F.called_set.sub
  refine wpAny_call (codeAny_of_tree ?_)
  show wpAny _ _ (callAny (.type "set") _) _ _ _
  refine wpAny_pure ⟨Code.quiet_builtin _ (by decide +kernel), codeAny_builtin PySem.F.entry_type_call ?_⟩
  rw [Around.under_plain (weight_type_call_type "set" [.ref l] []) rfl]
  have h1 := PySem.F.called_set.notType
  have h2 := PySem.F.called_set.canCreate
  have hct := PySem.F.typeCall_set_1 (.ref l)
  repeat (any_goals (first | assumption | wp_step))
  refine codeAny_mono (newG (.ref l) (E := E) (Q₁ := fun obj s₁ => obj = .ref s.heap.objs.size ∧ s₁ = { s with heap := s.heap.push (newO w) }) ⟨rfl, rfl⟩) fun r s₁ hr => ?_
  cases r with
  | error e => exact hr
  | ok fl =>
    cases fl with
    | ret obj =>
      obtain ⟨rfl, rfl⟩ := hr
      have hS : (s.heap.push (newO w)).get? s.heap.objs.size = some (newO w) := Heap.get?_push_size _ rfl
      have hT : Shared.TypeIs { s with heap := s.heap.push (newO w) } (.ref s.heap.objs.size) "set" := ⟨_, hS, rfl⟩
      have hli := PySem.F.called_set.init.lookup
      have hbi := PySem.F.called_set.init.bind (.ref s.heap.objs.size)
      repeat (any_goals (first | assumption | wp_step))
      refine codeAny_mono (codeAny_call_builtin (R := wants (fun r s₂ => r = .none ∧ ∃ h' tk, s₂ = { s with heap := h', toks := tk } ∧ J items.size h' ∧
          (∀ b o, b < s.heap.objs.size → s.heap.get? b = some o → h'.get? b = some o)) E) PySem.F.called_set.init.plain PySem.F.entry_set_init (check_set_init_1 hT ?_)) fun r₂ s₂ hr₂ => ?_
      · obtain ⟨ol, hol, hcl, nl, hdl⟩ := hl
        obtain ⟨ocls, odict, odata, oslots⟩ := ol
        simp only at hcl hdl
        subst hcl hdl
        have hol' : (s.heap.push (newO w)).get? l = some { cls := .type "list", dict := odict, data := .seq items nl, slots := oslots } := Heap.get?_push_of_some _ hol
        have hsls := PySem.F.sub_list_set
        have hslf := PySem.F.sub_list_frozenset
        have hne : (Value.type "list" == Value.type "dict") = false := by decide
        have hl1 : (s.heap.push (newO w)).IsList l items := ⟨_, hol', rfl, nl, rfl⟩
        unfold Builtin.«set.__init__» noKeywords Builtin.Frozenset.updateFrom
        generalize hPI : pyIter = PI
        wp_walk
        subst hPI
        refine wpAny_pyIter_list hl1 (wpAny_bind (wpAny_runValue ?_))
        have lS : l < s.heap.objs.size := Heap.lt_size hol
        have hh3 : A.in1.in1.in1.handled = none := by simp [hh]
        have neI : l ≠ (s.heap.push (newO w)).objs.size := by rw [Heap.size_push]; exact Nat.ne_of_lt (Nat.lt_succ_of_lt lS)
        have hSf : s.heap.objs.size ∉ [(s.heap.push (newO w)).objs.size, l] := by
          rw [Heap.size_push]
          simp only [List.mem_cons, List.not_mem_nil, or_false, not_or]
          exact ⟨Nat.ne_of_lt (Nat.lt_succ_self _), Nat.ne_of_gt lS⟩
        refine loopJ ((Walks.list hh3 _ l neI items).toS) s.heap.objs.size hSf J (fun i h h' hJ k => Jk i h h' hJ fun b o hb e => k b o (by rw [Heap.size_push]; simpa using hb) e) (fun i v s' Q' E' _ hv hJ hq => add i v s' Q' E' hv hJ hq) (items.size - 0) 0 _ (by omega) (Nat.zero_le _) ⟨⟨_, Heap.get?_push_size _ rfl, rfl, rfl⟩, (hl1.push _)⟩ ?hS0 ?hR
        case hS0 => exact J0 _ (fun b o e => Heap.get?_push_of_some _ (Heap.get?_push_of_some _ e)) (Heap.get?_push_of_some _ hS)
        case hR =>
          intro s' hm hS'
          obtain ⟨h', g', d', tk', os'⟩ := s'
          have eg : g' = s.gens := hm.gens
          have ed : d' = s.drawn := hm.drawn
          have eo : os' = s.os := hm.os
          subst eg ed eo
          show wpAny _ _ _ _ _ _
          refine wpAny_pure ?_
          show wpAny _ _ (ret Value.none) _ _ _
          refine wpAny_pure ⟨rfl, h', tk', rfl, hS', fun b o hb e => ?_⟩
          exact hm.heap b o (by
            rw [Heap.size_push]
            simp only [List.mem_cons, List.not_mem_nil, or_false, not_or]
            exact ⟨Nat.ne_of_lt hb, Nat.ne_of_lt (Nat.lt_succ_of_lt hb)⟩) (Heap.get?_push_of_some _ (Heap.get?_push_of_some _ e))
      · cases r₂ with
        | error e => exact hr₂
        | ok fl₂ =>
          cases fl₂ with
          | ret r =>
            obtain ⟨rfl, h', tk, rfl, hS', hk'⟩ := hr₂
            repeat (any_goals (first | assumption | wp_step))
            exact h _ _ hS' hk'
          | _ => exact hr₂.elim
    | _ => exact hr.elim
end
end SetM

namespace SetM
open PySem PyProof.Rows PySem.W
section
variable {prog : Program} {w : World} {A : Around} {E : Value → Shared → Prop} {s : Shared}
theorem isInt_shape {k : Int} {v : Value} (h : (intKind prog w).is k v = true) : ∃ t, v = .int k t := by
  have h' : Value.isInt k v = true := h
  cases v with
  | int i t =>
    have e : i = k := by simpa [Value.isInt] using h'
    exact ⟨t, by rw [e]⟩
  | _ => simp [Value.isInt] at h'
theorem katlex {b : Bool} {Q : Bool → Shared → Prop} : ∀ {xs ys : List Value} {ns ms : List Int} (i : Nat), ItemsAre (intKind prog w) ns xs → ItemsAre (intKind prog w) ms ys → ns.length = ms.length → Q (HT.lexLt ns ms) s → KatLex prog w A b false Q (xs.zip ys) i s
  | _, _, _, _, i, .nil, .nil, _, h => kat_nil h
  | _, _, _, _, i, .nil, .cons _ _, hl, h => by simp at hl
  | _, _, _, _, i, .cons _ _, .nil, hl, h => by simp at hl
  | _, _, n :: ns, m :: ms, i, .cons h1 h2, .cons h3 h4, hl, h => by
    obtain ⟨t, rfl⟩ := isInt_shape h1
    obtain ⟨u, rfl⟩ := isInt_shape h3
    rw [List.zip_cons_cons]
    refine kat_cons (wpAny_eqBool_int ?_)
    rw [HT.lexLt_cons] at h
    by_cases c : n = m
    · subst c
      rw [if_pos rfl] at h
      rw [show (n == n) = true by simp]
      exact kat_yes (katlex (i + 1) h2 h4 (by simpa using hl) h)
    · rw [if_neg c] at h
      rw [show (n == m) = false by simpa using c]
      refine kat_no ?_
      cases hb : (b && i == 0) with
      | true => exact oneLt_int h
      | false => exact kat_one _ _ (lt_int h)
theorem kas2 {cmp : Nat → Nat → (Bool → Shared → Prop) → Shared → Prop} {G : Array Nat → Shared → Prop} (b : Bool) (hc : ∀ C, C b s → cmp 1 0 C s) (h : G (if b then #[1, 0] else #[0, 1]) s) : (kas_sort 2).kasWp cmp G s := by
  cases b with
  | false => exact hc _ h
  | true =>
    refine hc _ ?_
    have e : kas_rev (List.range 2).toArray 0 2 = #[1, 0] := by decide
    show G (kas_rev (List.range 2).toArray 0 2) s
    rw [e]
    exact h
theorem TK.first {h : Heap} {k : Int} {ks : List Int} {x : Addr} (hx : TK prog w h (k :: ks) x) : ∃ o xs n t, h.get? x = some o ∧ o.cls = .type "tuple" ∧ o.data = .seq xs n ∧ xs[0]? = some (.int k t) ∧ ItemsAre (intKind prog w) (k :: ks) xs.toList := by
  obtain ⟨o, its, n, ho, hc, hd, hi⟩ := hx
  obtain ⟨l⟩ := its
  cases hi with
  | cons h1 h2 =>
    obtain ⟨t, rfl⟩ := isInt_shape h1
    exact ⟨o, _, n, t, ho, hc, hd, rfl, .cons h1 h2⟩
theorem TK.ne {h : Heap} {ks : List Int} {x a : Addr} {xs : Array Value} {n : Nat} (hx : TK prog w h ks x) (ho : h.get? a = some (seqObj "list" xs n)) : x ≠ a := by
  rintro rfl
  obtain ⟨o, its, n', ho', hc, _⟩ := hx
  rw [ho] at ho'
  cases ho'
  exact absurd (show Value.type "list" = Value.type "tuple" from hc) (by decide)
theorem sort_two {a x y : Addr} {k m : Int} {ks ms : List Int} {n : Nat} {P : PySem.Fin → Shared → Prop} (ho : s.heap.get? a = some (seqObj "list" [.ref x, .ref y].toArray n)) (hx : TK prog w s.heap (k :: ks) x) (hy : TK prog w s.heap (m :: ms) y) (hl : ks.length = ms.length)
    (h : P (.done (.ret .none)) { s with heap := sortedHeap s.heap a [.ref x, .ref y] (if HT.lexLt (m :: ms) (k :: ks) then #[.ref y, .ref x] else #[.ref x, .ref y]) }) :
    wpAny (model prog w) A (Builtin.«list.sort» ⟨[.ref a], []⟩) P E s := by
  rw [list_sort_plain]
  have ha : a < s.heap.objs.size := Heap.lt_size ho
  have nx := hx.ne ho
  have ny := hy.ne ho
  refine wpAny_bind (listItems_at ho rfl ?_)
  refine wpAny_bind (listUpdate_at ho rfl ?_ (by rw [List.size_toArray, sizeLine_eq]; show 2 ≤ _; omega) (Nat.zero_le _))
  obtain ⟨e1, ho1⟩ : ∃ e1, (s.heap.update a (Obj.mapSeq fun _ => #[])).get? a = some (seqObj "list" #[] e1) := ⟨_, get?_update_seq ho (fun _ => #[])⟩
  refine wpAny_bind (seqEpoch_at ho1 rfl ?_)
  refine wpAny_bind (wpAny_newTuple ?_ (by show 2 ≤ _; rw [sizeLine_eq]; omega))
  refine wpAny_bind (wpAny_newList ?_ (Nat.zero_le _))
  refine wpAny_holding ?_
  have ho6 : (((s.heap.update a (Obj.mapSeq fun _ => #[])).push (seqObj "tuple" [Value.ref x, .ref y].toArray 0)).push (seqObj "list" #[] 0)).get? a = some (seqObj "list" #[] e1) := Heap.get?_push_of_some _ (Heap.get?_push_of_some _ ho1)
  have keep : ∀ b o, b ≠ a → s.heap.get? b = some o → (((s.heap.update a (Obj.mapSeq fun _ => #[])).push (seqObj "tuple" [Value.ref x, .ref y].toArray 0)).push (seqObj "list" #[] 0)).get? b = some o := fun b o hb e =>
    Heap.get?_push_of_some _ (Heap.get?_push_of_some _ ((Heap.get?_update_ne _ _ _ _ hb).trans e))
  have hx' := hx.keep (fun o e => keep x o nx e)
  have hy' := hy.keep (fun o e => keep y o ny e)
  show wpAny (model prog w) A _ P E { s with heap := ((s.heap.update a (Obj.mapSeq fun _ => #[])).push (seqObj "tuple" [Value.ref x, .ref y].toArray 0)).push (seqObj "list" #[] 0) }
  dsimp only
  rw [if_neg (show ¬ ([Value.ref x, .ref y].toArray.size < 2) from (show ¬ (2 < 2) by decide)), if_neg (show ¬ ([Value.ref x, .ref y].toArray.size < 2) from (show ¬ (2 < 2) by decide))]
  obtain ⟨ox, xs, nx', tx, hox, hcx, hdx, h0x, hix⟩ := hx'.first
  obtain ⟨oy, ys, ny', ty, hoy, hcy, hdy, h0y, hiy⟩ := hy'.first
  refine wpAny_bind (kat_kind (T := .type "int") (KatTups.cons hox hcx hdx h0x (KatTups.cons hoy hcy hdy h0y KatTups.nil)) (show 0 < 2 by decide) (fun v hv => ?_) (by decide) ?_)
  · rcases List.mem_cons.mp hv with rfl | hv
    · exact .now
    · rw [List.mem_singleton.mp hv]
      exact .now
  have lx : xs.size = ks.length + 1 := by rw [← Array.length_toList, ← hix.length]; rfl
  have ly : ys.size = ms.length + 1 := by rw [← Array.length_toList, ← hiy.length]; rfl
  refine wpAny_bind (wpAny_mono (kat_run (vs := [Value.ref x, .ref y]) (ks := [Value.ref x, .ref y]) (G := fun p s' => p = (if HT.lexLt (m :: ms) (k :: ks) then #[1, 0] else #[0, 1]) ∧ s' = { s with heap := ((s.heap.update a (Obj.mapSeq fun _ => #[])).push (seqObj "tuple" [Value.ref x, .ref y].toArray 0)).push (seqObj "list" #[] 0) })
    (Q := fun st' s' => ∃ p : Array Nat, p = (if HT.lexLt (m :: ms) (k :: ks) then #[1, 0] else #[0, 1]) ∧ arrOf st' = p.map (kas_item ([Value.ref x, .ref y].toArray.zip [Value.ref x, .ref y].toArray)) ∧ failedOf st' = none ∧ s' = { s with heap := ((s.heap.update a (Obj.mapSeq fun _ => #[])).push (seqObj "tuple" [Value.ref x, .ref y].toArray 0)).push (seqObj "list" #[] 0) })
    rfl (show 2 ≤ 2 by decide) (show 2 < 64 by decide) (fun p' st' s' a1 a2 a3 a4 => ⟨p', a4.1, a2, a3, a4.2⟩) (kas2 (HT.lexLt (m :: ms) (k :: ks)) (fun C hC => ?_) ⟨rfl, rfl⟩)) ?_ fun _ _ e => e)
  · show wpAny _ _ (keyLt' _ (.ref y) (.ref x)) _ _ _
    refine kat_lt hoy hdy hox hdx ?_
    rw [show decide (ys.size < xs.size) = false by rw [lx, ly, hl]; simp]
    exact katlex 0 hiy hix (by simp [hl]) hC
  · rintro ⟨⟨⟩, st'⟩ s' ⟨p, rfl, har, hf, rfl⟩
    dsimp only
    have hout := kat_snds (ks := [Value.ref x, .ref y]) (vs := [Value.ref x, .ref y]) rfl har
    have e2 : List.toArray ((if HT.lexLt (m :: ms) (k :: ks) then #[1, 0] else #[0, 1] : Array Nat).toList.map fun i => [Value.ref x, .ref y].getD i Value.none) = if HT.lexLt (m :: ms) (k :: ks) then #[.ref y, .ref x] else #[.ref x, .ref y] := by
      split <;> rfl
    rw [e2] at hout
    refine wpAny_bind (seqEpoch_at ho6 rfl ?_)
    rw [hout]
    refine wpAny_bind (listUpdate_at ho6 rfl ?_ (Nat.zero_le _) (by split <;> (show 2 ≤ _; rw [sizeLine_eq]; omega)))
    rw [hf]
    simp only [bne_self_eq_false, Bool.false_eq_true, if_false]
    exact wpAny_pure h
theorem sort_one {a : Addr} {v : Value} {n : Nat} {P : PySem.Fin → Shared → Prop} (ho : s.heap.get? a = some (seqObj "list" [v].toArray n))
    (h : P (.done (.ret .none)) { s with heap := sortedHeap s.heap a [v] #[v] }) :
    wpAny (model prog w) A (Builtin.«list.sort» ⟨[.ref a], []⟩) P E s := by
  rw [list_sort_plain]
  refine wpAny_bind (listItems_at ho rfl ?_)
  refine wpAny_bind (listUpdate_at ho rfl ?_ (by rw [List.size_toArray, sizeLine_eq]; show 1 ≤ _; omega) (Nat.zero_le _))
  obtain ⟨e1, ho1⟩ : ∃ e1, (s.heap.update a (Obj.mapSeq fun _ => #[])).get? a = some (seqObj "list" #[] e1) := ⟨_, get?_update_seq ho (fun _ => #[])⟩
  refine wpAny_bind (seqEpoch_at ho1 rfl ?_)
  refine wpAny_bind (wpAny_newTuple ?_ (by show 1 ≤ _; rw [sizeLine_eq]; omega))
  refine wpAny_bind (wpAny_newList ?_ (Nat.zero_le _))
  refine wpAny_holding ?_
  have ho6 : (((s.heap.update a (Obj.mapSeq fun _ => #[])).push (seqObj "tuple" [v].toArray 0)).push (seqObj "list" #[] 0)).get? a = some (seqObj "list" #[] e1) := Heap.get?_push_of_some _ (Heap.get?_push_of_some _ ho1)
  show wpAny (model prog w) A _ P E { s with heap := ((s.heap.update a (Obj.mapSeq fun _ => #[])).push (seqObj "tuple" [v].toArray 0)).push (seqObj "list" #[] 0) }
  dsimp only
  rw [if_pos (show [v].toArray.size < 2 from (show 1 < 2 by decide)), if_pos (show [v].toArray.size < 2 from (show 1 < 2 by decide))]
  refine wpAny_bind (wpAny_pure ?_)
  rw [StateT.run_pure]
  refine wpAny_bind (wpAny_pure ?_)
  dsimp only
  refine wpAny_bind (seqEpoch_at ho6 rfl ?_)
  rw [show Array.map (fun x => x.snd) (arrOf (SortSt.mk' general' ([v].toArray.zip [v].toArray) #[] 7 none)) = #[v] by show Array.map (fun x => x.snd) ([v].toArray.zip [v].toArray) = #[v]; simp]
  refine wpAny_bind (listUpdate_at ho6 rfl ?_ (Nat.zero_le _) (by show 1 ≤ _; rw [sizeLine_eq]; omega))
  simp only [bne_self_eq_false, Bool.false_eq_true, if_false]
  exact wpAny_pure h
end
end SetM

namespace L2
open PySem PySem.Spec PyProof.Rows PySem.W SetM
theorem items_ofV {P : Program} {w : World} : ∀ {ns : List Int} {us : List Value}, Vals (ns.map V.int) us → ItemsAre (intKind P w) ns us
  | [], _, r => by cases r; exact .nil
  | n :: ns, _, r => by
    cases r with
    | cons r1 r2 =>
      obtain ⟨t, rfl⟩ := r1
      exact .cons (intKind_is _ _ _ _) (items_ofV r2)
theorem Inv.tk {X : Cx} {pins : List (Addr × Obj)} {σ : St} {H : Hp} {s : Shared} {p : Addr} {ns : List Int} (I : Inv X pins σ H s) (h : SqT X.K H p (ns.map V.int)) : TK X.prog X.w s.heap ns p := by
  obtain ⟨its, r, ⟨o, e1, e2, n, e3⟩, _⟩ := I.tuple h
  exact ⟨o, _, n, e1, e2, e3, by simpa using items_ofV r⟩
def TwoE (w : World) (z p q : Addr) (ks ms : List Int) (h : Heap) : Prop := Two (!byT w) h z p q ks ms
theorem lex_flip : ∀ {a b : List Int}, a.length = b.length → a ≠ b → HT.lexLt a b = !HT.lexLt b a
  | [], [], _, h => absurd rfl h
  | [], _ :: _, h, _ => by simp at h
  | _ :: _, [], h, _ => by simp at h
  | x :: a, y :: b, hl, h => by
    rw [HT.lexLt_cons, HT.lexLt_cons]
    by_cases c : x = y
    · subst c
      rw [if_pos rfl, if_pos rfl]
      exact lex_flip (by simpa using hl) (fun z => h (by rw [z]))
    · rw [if_neg c, if_neg (fun z => c z.symm), ← decide_not]
      exact decide_eq_decide.mpr (by omega)
theorem call_setT {X : Cx} (hc : X.calm = true) (hu : X.A.units + 64 < cLine) : CallR X (.type "set") (fun xs H Q => ∃ (l p q : Addr) (ks ms : List Int), xs = [.ref l] ∧ SqL X.K H l [.ref p, .ref q] ∧ SqT X.K H p (ks.map V.int) ∧ SqT X.K H q (ms.map V.int) ∧
    ∀ z, H z = none → Q (.ref z) (upd H z (.ext (TwoE X.w z p q ks ms)))) := by
  intro pins s σ H xs us Q I rv h
  obtain ⟨l, p, q, ks, ms, rfl, hl, hp, hq, hQ⟩ := h
  obtain ⟨u, rfl, ru⟩ := rv.one
  cases ru
  obtain ⟨its, r', pl, _⟩ := I.list hl
  obtain ⟨u1, u2, rfl, r1, r2⟩ : ∃ u1 u2, its = [u1, u2] ∧ RelV (.ref p) u1 ∧ RelV (.ref q) u2 := by
    cases r' with
    | cons a b => cases b with
      | cons c d => cases d; exact ⟨_, _, rfl, a, c⟩
  cases r1
  cases r2
  have tp := I.tk hp
  have tq := I.tk hq
  have lp : p < s.heap.objs.size := let ⟨_, _, _, e, _⟩ := tp; Heap.lt_size e
  have lq : q < s.heap.objs.size := let ⟨_, _, _, e, _⟩ := tq; Heap.lt_size e
  have p0 : p ≠ s.heap.objs.size := Nat.ne_of_lt lp
  have q0 : q ≠ s.heap.objs.size := Nat.ne_of_lt lq
  have p1 : p ≠ s.heap.objs.size + 1 := Nat.ne_of_lt (Nat.lt_succ_of_lt lp)
  have q1 : q ≠ s.heap.objs.size + 1 := Nat.ne_of_lt (Nat.lt_succ_of_lt lq)
  refine call_setJ (J := fun i h => TK X.prog X.w h ks p ∧ TK X.prog X.w h ms q ∧ (i = 0 → SetAt h s.heap.objs.size #[] 0 (.fresh 0 0 (!byT X.w))) ∧ (i = 1 → One X.prog X.w (!byT X.w) h s.heap.objs.size p ks) ∧ (i = 2 → Two (!byT X.w) h s.heap.objs.size p q ks ms))
    (show X.A.handled = none from I.ok.hd hc) pl.isList ?_ ?_ ?_ fun h' tk hJ kp => ?_
  · intro h' hk hS
    exact ⟨tp.keep (fun o e => hk p o e), tq.keep (fun o e => hk q o e), fun _ => ⟨_, hS, ⟨rfl, rfl, rfl⟩, rfl, rfl⟩, fun z => by omega, fun z => by omega⟩
  · rintro i h h' ⟨a1, a2, a3, a4, a5⟩ k
    have kS : ∀ o, h.get? s.heap.objs.size = some o → h'.get? s.heap.objs.size = some o := fun o e => k _ o (by omega) e
    exact ⟨a1.keep (fun o e => k p o p1 e), a2.keep (fun o e => k q o q1 e), fun z => (a3 z).keeps kS, fun z => let ⟨ep, y⟩ := a4 z; ⟨ep, y.keeps kS⟩, fun z => let ⟨es, ep, t, y, r⟩ := a5 z; ⟨es, ep, t, y.keeps kS, r⟩⟩
  · rintro i v s' Q' E' hv ⟨a1, a2, a3, a4, a5⟩ hq'
    have hu' : X.A.in1.in1.in1.units < cLine := by show X.A.units + 1 + 1 + 1 < _; omega
    match i, hv with
    | 0, hv =>
      cases hv
      exact add_first hu' (a3 rfl) a1 fun h' tk ht sb o => hq' _ h' tk ht sb ⟨a1.keep fun o e => (sb.2 p p0).trans e, a2.keep fun o e => (sb.2 q q0).trans e, fun z => by omega, fun _ => o, fun z => by omega⟩
    | 1, hv =>
      cases hv
      exact add_second hu' (a4 rfl) a1 a2 fun r h' tk ht sb o => hq' _ h' tk ht sb ⟨a1.keep fun o e => (sb.2 p p0).trans e, a2.keep fun o e => (sb.2 q q0).trans e, fun z => by omega, fun z => by omega, fun _ => o⟩
    | i + 2, hv => simp at hv
  · obtain ⟨_, _, _, _, a5⟩ := hJ
    have e : TwoE X.w s.heap.objs.size p q ks ms h' := a5 rfl
    have I2 := I.laid (a := s.heap.objs.size) (o := .ext (TwoE X.w s.heap.objs.size p q ks ms)) (h' := h') (t' := tk) (fun b o z => kp b o (Heap.lt_size z) z) (Nat.le_refl _) ⟨e, let ⟨_, _, _, ⟨o, p, _⟩, _⟩ := e; ⟨o, p⟩, fun _ _ ⟨es, ep, t, y, r⟩ k => ⟨es, ep, t, y.keeps fun o z => k _ z, r⟩⟩
    exact ⟨.ref s.heap.objs.size, _, I2, rfl, hQ _ (I.hok.fresh (Nat.le_refl _))⟩
def Srt (p q : Addr) (ks ms : List Int) (Q : V → Hp → Prop) (H : Hp) (r : Addr) : Prop :=
  (ks = ms → Q (.ref r) (upd H r (.lst [.ref p]))) ∧ (HT.lexLt ks ms = true → Q (.ref r) (upd H r (.lst [.ref p, .ref q]))) ∧ (HT.lexLt ms ks = true → Q (.ref r) (upd H r (.lst [.ref q, .ref p])))
theorem sorted_laid {X : Cx} {pins : List (Addr × Obj)} {σ : St} {H : Hp} {s : Shared} {vs : List Value} {out : Array Value} {xs : List V} (I : Inv X pins σ H s) (r : Vals xs out.toList) (hz : xs.length ≤ sizeLine) :
    Inv X pins σ (upd H s.heap.objs.size (.lst xs)) { s with heap := sortedHeap (s.heap.push (seqObj "list" vs.toArray 0)) s.heap.objs.size vs out } := by
  have hoL : (s.heap.push (seqObj "list" vs.toArray 0)).get? s.heap.objs.size = some (seqObj "list" vs.toArray 0) := Heap.get?_push_size _ rfl
  obtain ⟨e, he⟩ := sortedHeap_at (out := out) hoL
  refine I.laid (t' := s.toks) (fun b o e => ?_) (Nat.le_refl _) ⟨hz, out.toList, e, r, ?_⟩
  · have hlt : b < s.heap.objs.size := Heap.lt_size e
    rw [sortedHeap_old (Nat.ne_of_lt hlt) (by rw [size_push']; exact Nat.lt_succ_of_lt hlt)]
    exact Heap.get?_push_of_some _ e
  · rw [Array.toArray_toList]; exact he
theorem sorted_fin {X : Cx} {pins : List (Addr × Obj)} {σ : St} {H : Hp} {s : Shared} {p q : Addr} {k m : Int} {ks ms : List Int} {acc : List Value} {Q : Value → Shared → Prop} {Q' : V → Hp → Prop} {E : Value → Shared → Prop} {A : Around} (I : Inv X pins σ H s)
    (hp : SqT X.K H p ((k :: ks).map V.int)) (hq : SqT X.K H q ((m :: ms).map V.int)) (hl : ks.length = ms.length) (hacc : acc.Perm (if k :: ks = m :: ms then [.ref p] else [.ref p, .ref q])) (hQ : Srt p q (k :: ks) (m :: ms) Q' H s.heap.objs.size)
    (fin : ∀ H' s', Inv X pins σ H' s' → Q' (.ref s.heap.objs.size) H' → Q (.ref s.heap.objs.size) s') :
    wpAny (model X.prog X.w) A (call (.builtin "list.sort") [.ref s.heap.objs.size]) (fun _ s' => Q (.ref s.heap.objs.size) s') E { s with heap := s.heap.push (seqObj "list" acc.toArray 0) } := by
  have hoL : (s.heap.push (seqObj "list" acc.toArray 0)).get? s.heap.objs.size = some (seqObj "list" acc.toArray 0) := Heap.get?_push_size _ rfl
  have tp := (I.tk hp).keep (h' := s.heap.push (seqObj "list" acc.toArray 0)) fun o e => Heap.get?_push_of_some _ e
  have tq := (I.tk hq).keep (h' := s.heap.push (seqObj "list" acc.toArray 0)) fun o e => Heap.get?_push_of_some _ e
  have s2 : 2 ≤ sizeLine := by rw [sizeLine_eq]; omega
  have s1 : 1 ≤ sizeLine := by rw [sizeLine_eq]; omega
  refine wpAny_call_entry slot_list_sort ⟨_, hoL, rfl⟩ entry_list_sort ?_ (args_list_sort _)
  by_cases c : k :: ks = m :: ms
  · rw [if_pos c] at hacc
    have : acc = [.ref p] := List.perm_singleton.mp hacc
    subst this
    exact sort_one (s := { s with heap := s.heap.push (seqObj "list" [Value.ref p].toArray 0) }) hoL ⟨_, rfl, fin _ _ (sorted_laid (xs := [.ref p]) I (.cons rfl .nil) s1) (hQ.1 c)⟩
  · rw [if_neg c] at hacc
    have hf := lex_flip (by simp [hl]) c
    have : acc = [.ref p, .ref q] ∨ acc = [.ref q, .ref p] := by
      match acc, hacc.length_eq with
      | [u, v], _ =>
        have h1 := hacc.mem_iff (a := u)
        have h2 := hacc.mem_iff (a := v)
        have h3 := hacc.mem_iff (a := Value.ref p)
        have h4 := hacc.mem_iff (a := Value.ref q)
        simp only [List.mem_cons, List.not_mem_nil, or_false, true_or, or_true, true_iff, iff_true] at h1 h2 h3 h4
        rcases h1 with rfl | rfl <;> rcases h2 with rfl | rfl <;> simp_all
    rcases this with rfl | rfl
    · refine sort_two (s := { s with heap := s.heap.push (seqObj "list" [Value.ref p, .ref q].toArray 0) }) hoL tp tq hl ⟨_, rfl, ?_⟩
      cases d : HT.lexLt (m :: ms) (k :: ks) with
      | true => exact fin _ _ (sorted_laid (xs := [.ref q, .ref p]) I (.cons rfl (.cons rfl .nil)) s2) (hQ.2.2 d)
      | false =>
        rw [d] at hf
        exact fin _ _ (sorted_laid (xs := [.ref p, .ref q]) I (.cons rfl (.cons rfl .nil)) s2) (hQ.2.1 hf)
    · refine sort_two (s := { s with heap := s.heap.push (seqObj "list" [Value.ref q, .ref p].toArray 0) }) hoL tq tp hl.symm ⟨_, rfl, ?_⟩
      cases d : HT.lexLt (k :: ks) (m :: ms) with
      | true => exact fin _ _ (sorted_laid (xs := [.ref p, .ref q]) I (.cons rfl (.cons rfl .nil)) s2) (hQ.2.1 d)
      | false =>
        rw [d] at hf
        exact fin _ _ (sorted_laid (xs := [.ref q, .ref p]) I (.cons rfl (.cons rfl .nil)) s2) (hQ.2.2 (by simpa using hf.symm))
theorem call_sortedT {X : Cx} (hc : X.calm = true) : CallR X (.builtin "sorted") (fun xs H Q => ∃ (z p q : Addr) (k m : Int) (ks ms : List Int), xs = [.ref z] ∧ H z = some (.ext (TwoE X.w z p q (k :: ks) (m :: ms))) ∧ SqT X.K H p ((k :: ks).map V.int) ∧ SqT X.K H q ((m :: ms).map V.int) ∧ ks.length = ms.length ∧
    ∀ r, H r = none → Srt p q (k :: ks) (m :: ms) Q H r) := by
  intro pins s σ H xs us Q I rv h
  obtain ⟨z, p, q, k, m, ks, ms, rfl, hH, hp, hq, hl, hQ⟩ := h
  obtain ⟨u, rfl, ru⟩ := rv.one
  cases ru
  obtain ⟨⟨es, ep, t, hs, g, pm⟩, _, _⟩ := (show ObjOk X.prog X.w H s.heap z (.ext (TwoE X.w z p q (k :: ks) (m :: ms))) from I.hok z _ hH)
  have hz : es.size ≤ 2 := by
    have := pm.length_eq
    rw [List.length_map, Array.length_toList] at this
    rw [this]
    split
    · exact (show 1 ≤ 2 by decide)
    · exact (show 2 ≤ 2 by decide)
  have sl : 2 ≤ sizeLine := by rw [sizeLine_eq]; omega
  refine Calls.call_function_entry kind_sorted plain_sorted entry_sorted (args_sorted1 _) ?_
  unfold Builtin.«sorted»
  refine wpAny_bind (m := checkCount "sorted" 1 1 _) (wpAny_pure ?_)
  refine wpAny_bind (collectG (A := X.A.in1) (show X.A.in1.handled = none from I.ok.hd hc) hs (Nat.le_trans hz sl) g fun h' tk d acc hk hacc => ?_)
  have I2 : Inv X pins σ H { s with heap := h', toks := tk, drawn := d } := I.call' (s' := { s with heap := h', toks := tk, drawn := d }) (ch := []) rfl (Un.kept hk) (I.hok.kept hk) I.bare fun b z => absurd z (by simp)
  have lacc : acc.toList.length ≤ 2 := by rw [hacc.length_eq, List.length_map, Array.length_toList]; exact hz
  refine wpAny_bind (wpAny_newList ?_ (Nat.le_trans lacc sl))
  refine wpAny_bind (wpAny_holding (wpAny_mono (sorted_fin (Q' := Q) (Q := fun v s' => ∃ H', Inv X pins σ H' s' ∧ Q (.ref h'.objs.size) H') I2 hp hq hl (hacc.trans pm) (hQ _ (I2.hok.fresh (Nat.le_refl _))) fun H' s' I' q' => ⟨H', I', q'⟩) (fun _ s' x => ?_) fun _ _ x => x))
  obtain ⟨H', I', q'⟩ := x
  exact wpAny_pure ⟨_, rfl, .ref h'.objs.size, H', I', rfl, q'⟩
theorem call_sortedTL {X : Cx} : CallR X (.builtin "sorted") (fun xs H Q => ∃ (l p q : Addr) (k m : Int) (ks ms : List Int), xs = [.ref l] ∧ SqL X.K H l [.ref p, .ref q] ∧ SqT X.K H p ((k :: ks).map V.int) ∧ SqT X.K H q ((m :: ms).map V.int) ∧ ks.length = ms.length ∧
    ∀ r, H r = none → Q (.ref r) (upd H r (.lst (if HT.lexLt (m :: ms) (k :: ks) = true then [.ref q, .ref p] else [.ref p, .ref q])))) := by
  intro pins s σ H xs us Q I rv h
  obtain ⟨l, p, q, k, m, ks, ms, rfl, hH, hp, hq, hl, hQ⟩ := h
  obtain ⟨u, rfl, ru⟩ := rv.one
  cases ru
  obtain ⟨its, r', pl, _⟩ := I.list hH
  obtain ⟨u1, u2, rfl, r1, r2⟩ : ∃ u1 u2, its = [u1, u2] ∧ RelV (.ref p) u1 ∧ RelV (.ref q) u2 := by
    cases r' with
    | cons a b => cases b with
      | cons c d => cases d; exact ⟨_, _, rfl, a, c⟩
  cases r1
  cases r2
  have sl : 2 ≤ sizeLine := by rw [sizeLine_eq]; omega
  refine Calls.call_function_entry kind_sorted plain_sorted entry_sorted (args_sorted1 _) ?_
  unfold Builtin.«sorted»
  refine wpAny_bind (m := checkCount "sorted" 1 1 _) (wpAny_pure ?_)
  refine wpAny_bind (collect_list pl.isList ?_ sl)
  have hsz : ((s.heap.push (seqObj "list" #[] 0)).update s.heap.objs.size (Obj.mapSeq (· ++ [Value.ref p, .ref q].toArray))).objs.size = s.heap.objs.size + 1 := by
    rw [Heap.size_update, size_push']
  have keep : ∀ b o, s.heap.get? b = some o → ((s.heap.push (seqObj "list" #[] 0)).update s.heap.objs.size (Obj.mapSeq (· ++ [Value.ref p, .ref q].toArray))).get? b = some o := fun b o e => by
    have hlt : b < s.heap.objs.size := Heap.lt_size e
    rw [Heap.get?_update_ne _ _ _ _ (Nat.ne_of_lt hlt), Heap.get?_push_ne _ _ _ (Nat.ne_of_lt hlt)]
    exact e
  have I2 : Inv X pins σ H { s with heap := (s.heap.push (seqObj "list" #[] 0)).update s.heap.objs.size (Obj.mapSeq (· ++ [Value.ref p, .ref q].toArray)) } := I.kept (t' := s.toks) keep
  refine wpAny_bind (wpAny_newList ?_ sl)
  generalize hg : (s.heap.push (seqObj "list" #[] 0)).update s.heap.objs.size (Obj.mapSeq (· ++ [Value.ref p, .ref q].toArray)) = h' at I2 ⊢
  have hoL : (h'.push (seqObj "list" [Value.ref p, .ref q].toArray 0)).get? h'.objs.size = some (seqObj "list" [Value.ref p, .ref q].toArray 0) := Heap.get?_push_size _ rfl
  have tp := (I2.tk hp).keep (h' := h'.push (seqObj "list" [Value.ref p, .ref q].toArray 0)) fun o e => Heap.get?_push_of_some _ e
  have tq := (I2.tk hq).keep (h' := h'.push (seqObj "list" [Value.ref p, .ref q].toArray 0)) fun o e => Heap.get?_push_of_some _ e
  refine wpAny_bind (wpAny_holding (wpAny_call_entry slot_list_sort ⟨_, hoL, rfl⟩ entry_list_sort (sort_two (s := { s with heap := h'.push (seqObj "list" [Value.ref p, .ref q].toArray 0) }) hoL tp tq hl ⟨_, rfl, ?_⟩) (args_list_sort _)))
  have I3 := sorted_laid (vs := [Value.ref p, .ref q]) (out := if HT.lexLt (m :: ms) (k :: ks) then #[.ref q, .ref p] else #[.ref p, .ref q]) (xs := if HT.lexLt (m :: ms) (k :: ks) = true then [.ref q, .ref p] else [.ref p, .ref q]) I2 (by split <;> exact .cons rfl (.cons rfl .nil)) (by split <;> exact sl)
  exact wpAny_pure ⟨_, rfl, .ref h'.objs.size, _, I3, rfl, hQ _ (I2.hok.fresh (Nat.le_refl _))⟩
end L2

namespace L2
open PySem PySem.Spec PyProof.Rows
inductive PairsE : List Expr → List (Int × Int) → Prop where
  | nil : PairsE [] []
  | cons {a b : Int} {j1 j2 : Nat} {p1 p2 pos : Pos} {c : Nat} {es : List Expr} {ns : List (Int × Int)} (h : PairsE es ns) : PairsE (.Tuple [.Constant (.int a) j1 p1, .Constant (.int b) j2 p2] c pos :: es) ((a, b) :: ns)
def tPrsE (ns : List (Int × Int)) : TA := fun _ H Q => ∀ (rs : List Addr) (H' : Hp), Same H H' → Paired (fun (r : Addr) (x : Int × Int) => H' r = some (.tup [.int x.1, .int x.2])) rs ns → Q (rs.map V.ref) H'
theorem pa_pairs {X : Cx} {es : List Expr} {ns : List (Int × Int)} (h : PairsE es ns) : PA X es (tPrsE ns) := by
  induction h with
  | nil => exact fun pos pins s σ H Q I h => pa_nil pos pins s σ H Q I (h [] H (Same.refl _) .nil)
  | cons h ih =>
    intro pos pins s σ H Q I h
    refine pa_cons (pe_tup (pa_cons pe_int (pa_cons pe_int pa_nil))) ih rfl pos pins s σ H Q I ⟨?_, fun p np rs H' g hp => h (p :: rs) H' ((same_new np _).trans g) (.cons (g p _ upd_same) hp)⟩
    show 2 ≤ sizeLine
    decide
def fTg : Stmt → Expr
  | .For t _ _ _ _ => t
  | _ => .Constant .none 0 ⟨0, 0, 0, 0⟩
def fBd : Stmt → List Stmt
  | .For _ _ b _ _ => b
  | _ => []
def fOe : Stmt → List Stmt
  | .For _ _ _ o _ => o
  | _ => []
end L2

namespace K55
open PySem L2
def top (i : Nat) : Stmt := PySem.Challenge.pw_conicplaces_k55_lines_met.main.body.getD i (.Pass ⟨0, 0, 0, 0⟩)
abbrev s_shares_of : Stmt := top 7
abbrev s_row_less : Stmt := top 8
abbrev s_root_of : Stmt := top 9
abbrev s_above_root : Stmt := top 10
abbrev s_worth_of : Stmt := top 13
abbrev s_size_of : Stmt := top 14
abbrev s_lowest_point : Stmt := top 15
abbrev s_vertex_of : Stmt := top 16
abbrev s_refuse_flat : Stmt := top 17
abbrev s_slopes_of : Stmt := top 18
abbrev s_turned_by : Stmt := top 19
abbrev s_added : Stmt := top 20
abbrev s_stretched : Stmt := top 21
abbrev s_row_product : Stmt := top 22
abbrev s_crossing_of : Stmt := top 23
abbrev s_crossings_of : Stmt := top 24
abbrev s_corners_on : Stmt := top 26
abbrev s_off_curve : Stmt := top 27
abbrev s_line_met : Stmt := top 29
abbrev s_cell_at : Stmt := top 31
abbrev s_shared : Stmt := top 32
abbrev s_lowest : Stmt := top 33
abbrev s_beside : Stmt := top 34
abbrev s_dot : Stmt := top 35
abbrev s_rows : Stmt := top 36
abbrev s_form : Stmt := top 37
abbrev s_spot : Stmt := top 38
abbrev s_worth : Stmt := top 39
abbrev s_cross : Stmt := top 40
abbrev s_is_spot : Stmt := top 41
abbrev s_times : Stmt := top 42
abbrev s_pair : Stmt := top 43
abbrev s_root : Stmt := top 44
abbrev s_many : Stmt := top 45
abbrev s_right : Stmt := top 46
abbrev s_squares : Stmt := top 47
abbrev s_slope : Stmt := top 48
abbrev s_law : Stmt := top 49
structure Adr where
  (gAXES gAXES_0 gAXES_1 gAXES_2 : Addr)
structure Txt (K : PySem.W.Frag) (mg : Str → Option Value) (t : Adr) : Prop where
  m_AXES : mg "AXES" = some (.ref t.gAXES)
  k_AXES : TupK K t.gAXES [.ref t.gAXES_0, .ref t.gAXES_1, .ref t.gAXES_2]
  k_AXES_0 : TupK K t.gAXES_0 [.int 1, .int 0, .int 0]
  k_AXES_1 : TupK K t.gAXES_1 [.int 0, .int 1, .int 0]
  k_AXES_2 : TupK K t.gAXES_2 [.int 0, .int 0, .int 1]
  i_ib : PySem.W.kitOne K (.type "int") (.type "bool") = some false
  z_isinstance : mg "isinstance" = none
  z_int : mg "int" = none
  z_bool : mg "bool" = none
  z_len : mg "len" = none
  z_range : mg "range" = none
  z_tuple : mg "tuple" = none
  z_all : mg "all" = none
  z_abs : mg "abs" = none
  z_any : mg "any" = none
  z_sum : mg "sum" = none
  z_zip : mg "zip" = none
  z_list : mg "list" = none
  z_set : mg "set" = none
  z_sorted : mg "sorted" = none
theorem b_isi : bootBuiltins "isinstance" = some (.builtin "isinstance") := by decide +kernel
theorem b_int : bootBuiltins "int" = some (.type "int") := by decide +kernel
theorem b_bool : bootBuiltins "bool" = some (.type "bool") := by decide +kernel
theorem b_tuple : bootBuiltins "tuple" = some (.type "tuple") := by decide +kernel
theorem b_all : bootBuiltins "all" = some (.builtin "all") := by decide +kernel
theorem b_abs : bootBuiltins "abs" = some (.builtin "abs") := by decide +kernel
theorem b_any : bootBuiltins "any" = some (.builtin "any") := by decide +kernel
theorem b_sum : bootBuiltins "sum" = some (.builtin "sum") := by decide +kernel
theorem b_list : bootBuiltins "list" = some (.type "list") := by decide +kernel
theorem b_set : bootBuiltins "set" = some (.type "set") := by decide +kernel
theorem b_sorted : bootBuiltins "sorted" = some (.builtin "sorted") := by decide +kernel
theorem byL1 {P : List Value → Prop} (h : ∀ a0 : Value, P [a0]) : ∀ us : List Value, us.length = 1 → P us := fun us hl => match us, hl with | [a0], _ => h a0
theorem byL2 {P : List Value → Prop} (h : ∀ a0 a1 : Value, P [a0, a1]) : ∀ us : List Value, us.length = 2 → P us := fun us hl => match us, hl with | [a0, a1], _ => h a0 a1
theorem byL3 {P : List Value → Prop} (h : ∀ a0 a1 a2 : Value, P [a0, a1, a2]) : ∀ us : List Value, us.length = 3 → P us := fun us hl => match us, hl with | [a0, a1, a2], _ => h a0 a1 a2
theorem byL4 {P : List Value → Prop} (h : ∀ a0 a1 a2 a3 : Value, P [a0, a1, a2, a3]) : ∀ us : List Value, us.length = 4 → P us := fun us hl => match us, hl with | [a0, a1, a2, a3], _ => h a0 a1 a2 a3
theorem iteDF {c A B : Prop} [Decidable c] (hc : ¬ c) (h : B) : if decide c = true then A else B := by
  rw [decide_eq_false hc]
  exact iteF h
theorem neT {c : Prop} [Decidable c] (h : (!decide c) = true) : ¬ c := by
  intro z
  rw [decide_eq_true z] at h
  cases h
theorem neF {c : Prop} [Decidable c] (h : ¬ (!decide c) = true) : c := by
  by_cases z : c
  · exact z
  · exact absurd (by rw [decide_eq_false z]; rfl) h
@[irreducible] def Rt : Nat := 2 ^ 500
@[irreducible] def Lm : Nat := 2 ^ 1000
theorem Lm_eq : Lm = 2 ^ 1000 := by unfold Lm; rfl
theorem Lm_pos : 1 ≤ Lm := by rw [Lm_eq]; decide +kernel
theorem Lm_bits {x : Int} (h : x.natAbs ≤ 8 * Lm) : Builtin.Int.intBits x ≤ 1004 := intBits_le_iff.mpr (Nat.lt_of_le_of_lt h (by rw [Lm_eq]; decide +kernel))
theorem Lm_log {x : Int} (h : x.natAbs ≤ 8 * Lm) : x.natAbs.log2 < 9000 := Nat.lt_of_lt_of_le (log2_lt_of (k := 1004) (Nat.lt_of_le_of_lt h (by rw [Lm_eq]; decide +kernel)) (by decide)) (by decide)
theorem mulL {a b : Int} (ha : a.natAbs ≤ 8 * Lm) (hb : b.natAbs ≤ 8 * Lm) : IntMulOk a b := IntMulOk.of_le (Lm_bits ha) (Lm_bits hb) (by decide)
theorem fdiv_rest (a b : Int) : a - a.fdiv b * b = a.fmod b := by rw [Int.fmod_def, Int.mul_comm]
def spRow : Sp := fun vs H Q _ => ∃ (pa pb : Addr) (x s t y u v k : Int), vs = [.ref pa, .ref pb, .int k] ∧ H pa = some (.tup [.int x, .int s, .int t]) ∧ H pb = some (.tup [.int y, .int u, .int v]) ∧ IntMulOk k y ∧ IntMulOk k u ∧ IntMulOk k v ∧
  ∀ (p : Addr) (H' : Hp), Same H H' → H' p = some (.tup [.int (x - k * y), .int (s - k * u), .int (t - k * v)]) → Q (.ref p) H'
def spShares : Sp := fun vs H Q _ => ∃ (x y : Int), vs = [.int x, .int y] ∧ x.natAbs ≤ Lm ∧ y.natAbs ≤ Lm ∧
  ∀ (p : Addr) (H' : Hp) (g s t : Int), Same H H' → H' p = some (.tup [.int g, .int s, .int t]) → 0 ≤ g → g = s * x + t * y → (∃ k, x = k * g) → (∃ k, y = k * g) → s.natAbs ≤ 8 * Lm → t.natAbs ≤ 8 * Lm → Q (.ref p) H'
theorem hu64_of {A : Around} {k : Nat} (hr : Room k A) : A.units + 64 < cLine := by
  have := hr.un
  omega
open Sm Lw Pn
theorem okB {x y : Int} (hx : Bd 4000 x) (hy : Bd 4000 y) : IntMulOk x y :=
  IntMulOk.of_le (m := 4001) (n := 4001) (intBits_le_iff.mpr (Nat.lt_of_le_of_lt hx (Nat.pow_lt_pow_right (by decide) (by decide)))) (intBits_le_iff.mpr (Nat.lt_of_le_of_lt hy (Nat.pow_lt_pow_right (by decide) (by decide)))) (by decide)
theorem okM {j k : Nat} {x y : Int} (hx : Bd j x) (hy : Bd k y) (h1 : j ≤ 4000 := by omega) (h2 : k ≤ 4000 := by omega) : IntMulOk x y := okB (hx.mono h1) (hy.mono h2)
theorem ok2 {y : Int} : IntMulOk 2 y := IntMulOk.of_left (intBits_le_64 (by decide) (by decide))
abbrev v3 (P : P3) : List V := [.int P.x, .int P.y, .int P.z]
abbrev t3 (P : P3) : HO := .tup (v3 P)
abbrev l3 (P : P3) : HO := .lst (v3 P)
def S3 (H : Hp) (p : Addr) (P : P3) : Prop := H p = some (t3 P)
def S6 (H : Hp) (p : Addr) (Q : F6) : Prop := H p = some (.tup [.int Q.a, .int Q.b, .int Q.c, .int Q.d, .int Q.e, .int Q.f])
def ST (H : Hp) (p : Addr) (t : T3) : Prop := ∃ r0 r1 r2 : Addr, H p = some (.tup [.ref r0, .ref r1, .ref r2]) ∧ S3 H r0 t.r0 ∧ S3 H r1 t.r1 ∧ S3 H r2 t.r2
def LT (H : Hp) (p : Addr) (t : T3) : Prop := ∃ r0 r1 r2 : Addr, H p = some (.lst [.ref r0, .ref r1, .ref r2]) ∧ S3 H r0 t.r0 ∧ S3 H r1 t.r1 ∧ S3 H r2 t.r2
theorem LT.mono {H H' : Hp} {p : Addr} {t : T3} (g : Same H H') (h : LT H p t) : LT H' p t := by
  obtain ⟨r0, r1, r2, h0, h1, h2, h3⟩ := h
  exact ⟨r0, r1, r2, g _ _ h0, g _ _ h1, g _ _ h2, g _ _ h3⟩
def vmul : V → V → V
  | .int a, .int b => .int (a * b)
  | _, _ => .non
def Sq3 (H : Hp) (p : Addr) (x y z : Int) : Prop := H p = some (.tup [.int x, .int y, .int z])
def In3 (M : Int) (x y z : Int) : Prop := (-M ≤ x ∧ x ≤ M) ∧ (-M ≤ y ∧ y ≤ M) ∧ (-M ≤ z ∧ z ≤ M)
def NZ (x y z : Int) : Prop := x ≠ 0 ∨ y ≠ 0 ∨ z ≠ 0
@[irreducible] def Top : Int := 2 ^ 900
theorem Top_eq : Top = 2 ^ 900 := by unfold Top; rfl
theorem Top_Lm : Top ≤ Lm := by rw [Top_eq, Lm_eq]; decide +kernel
theorem bd_top {x : Int} (h : Bd 900 x) : -Top ≤ x ∧ x ≤ Top := by
  have e : Top = ((2 ^ 900 : Nat) : Int) := by rw [Top_eq]; decide +kernel
  unfold Bd at h
  rw [e]
  generalize (2 : Nat) ^ 900 = N at h
  omega
theorem in3_of {P : P3} (h : BP 900 P) : In3 Top P.x P.y P.z := ⟨bd_top h.x, bd_top h.y, bd_top h.z⟩
theorem in3_abs {x y z : Int} (h : In3 Top x y z) : x.natAbs ≤ Lm ∧ y.natAbs ≤ Lm ∧ z.natAbs ≤ Lm := by
  have := Top_Lm
  unfold In3 at h
  omega
theorem bd_div {k : Nat} {x d : Int} (hd : d ≠ 0) (h : Bd k (d * x)) : Bd k x := by
  unfold Bd at *
  rw [Int.natAbs_mul] at h
  exact Nat.le_trans (Nat.le_mul_of_pos_left _ (by omega)) h
theorem bp_div {k : Nat} {P : P3} {d : Int} (hd : d ≠ 0) (h : BP k (tm d P)) : BP k P := ⟨bd_div hd h.x, bd_div hd h.y, bd_div hd h.z⟩
theorem bp_tm {j k : Nat} {P : P3} {d : Int} (h : Bd j d) (hP : BP k P) : BP (j + k) (tm d P) := ⟨h.mul hP.x, h.mul hP.y, h.mul hP.z⟩
theorem bd_neg {k : Nat} {x : Int} (h : Bd k x) : Bd k (-x) := by
  unfold Bd at *
  rw [Int.natAbs_neg]
  exact h
theorem bp_ad {k : Nat} {P R : P3} (h : BP k P) (h2 : BP k R) : BP (k + 1) (ad P R) := ⟨h.x.add h2.x, h.y.add h2.y, h.z.add h2.z⟩
def st (P : P3) (m : Int) : P3 := ⟨P.x * m, P.y * m, P.z * m⟩
theorem st_eq (P : P3) (m : Int) : st P m = tm m P := by
  simp only [st, tm, P3.mk.injEq]
  exact ⟨Int.mul_comm _ _, Int.mul_comm _ _, Int.mul_comm _ _⟩
theorem b4 : Bd 2 4 := by unfold Bd; decide
theorem bd0 {k : Nat} : Bd k 0 := by
  unfold Bd
  exact Nat.zero_le _
theorem bd1 {k : Nat} : Bd k 1 := by
  unfold Bd
  exact Nat.one_le_two_pow
def lst (P : P3) : Int := if P.z ≠ 0 then 2 else if P.y ≠ 0 then 1 else 0
def cmp (P : P3) : Nat → Int
  | 0 => P.x
  | 1 => P.y
  | _ => P.z
theorem at3 {P : P3} {k : Nat} (hk : k < 3) : atI (v3 P) (0 + (k : Int)) = some (.int (cmp P k)) := by
  obtain rfl | rfl | rfl : k = 0 ∨ k = 1 ∨ k = 2 := by omega
  · rfl
  · rfl
  · rfl
def nzAt (P : P3) : V → Bool
  | .int k => !decide (V.int (cmp P k.toNat) = V.int 0)
  | _ => false
def lasts (P : P3) : List Int := ((if P.x ≠ 0 then [0] else []) ++ if P.y ≠ 0 then [1] else []) ++ if P.z ≠ 0 then [2] else []
theorem lasts_eq (P : P3) : (((List.range 3).map fun (i : Nat) => V.int (0 + (i : Int))).filter (nzAt P)).map id = (lasts P).map V.int := by
  have e : ((List.range 3).map fun (i : Nat) => V.int (0 + (i : Int))) = [.int 0, .int 1, .int 2] := rfl
  rw [e]
  have k : ∀ n : Int, (!decide (V.int n = V.int 0)) = decide (n ≠ 0) := fun n => by
    by_cases h : n = 0
    · subst h
      simp
    · simp [h, decide_eq_false (fun z : V.int n = V.int 0 => h (V.int.inj z))]
  have n0 : nzAt P (.int 0) = decide (P.x ≠ 0) := k P.x
  have n1 : nzAt P (.int 1) = decide (P.y ≠ 0) := k P.y
  have n2 : nzAt P (.int 2) = decide (P.z ≠ 0) := k P.z
  rw [List.filter_cons, List.filter_cons, List.filter_cons, List.filter_nil, n0, n1, n2]
  unfold lasts
  by_cases h1 : P.x = 0 <;> by_cases h2 : P.y = 0 <;> by_cases h3 : P.z = 0 <;> simp [h1, h2, h3]
inductive Gen (ns : List Int) : Int → Prop where
  | zero : Gen ns 0
  | mem {n : Int} : n ∈ ns → Gen ns n
  | sub {a b : Int} : Gen ns a → Gen ns b → Gen ns (a - b)
  | mul (k : Int) {a : Int} : Gen ns a → Gen ns (k * a)
theorem Gen.rest {ns : List Int} {f o : Int} (h : Gen ns f) (h2 : Gen ns o) : Gen ns (f % o) := by
  have h3 := Int.emod_add_mul_ediv f o
  have h4 : f % o = f - f / o * o := by rw [Int.mul_comm (f / o) o]; omega
  rw [h4]
  exact h.sub (h2.mul _)
theorem Gen.neg {ns : List Int} {f : Int} (h : Gen ns f) : Gen ns (-f) := by
  have := h.mul (-1)
  rw [show (-1) * f = -f by omega] at this
  exact this
theorem Gen.three {x y z g : Int} (h : Gen [x, y, z] g) : ∃ u v w : Int, u * x + v * y + w * z = g := by
  induction h with
  | zero => exact ⟨0, 0, 0, by omega⟩
  | mem hn =>
    simp only [List.mem_cons, List.not_mem_nil, or_false] at hn
    rcases hn with rfl | rfl | rfl
    · exact ⟨1, 0, 0, by omega⟩
    · exact ⟨0, 1, 0, by omega⟩
    · exact ⟨0, 0, 1, by omega⟩
  | sub _ _ h1 h2 =>
    obtain ⟨u, v, w, e⟩ := h1
    obtain ⟨u', v', w', e'⟩ := h2
    exact ⟨u - u', v - v', w - w', by rw [← e, ← e']; grind⟩
  | mul k _ h1 =>
    obtain ⟨u, v, w, e⟩ := h1
    exact ⟨k * u, k * v, k * w, by rw [← e]; grind⟩
def fstL : List Int → Int
  | [] => 0
  | n :: ns => if n ≠ 0 then n else fstL ns
theorem fstL_mem : ∀ {ns : List Int}, fstL ns ≠ 0 → fstL ns ∈ ns
  | [], h => absurd rfl h
  | n :: ns, h => by
    unfold fstL at *
    by_cases c : n = 0
    · rw [if_neg (by omega)] at *
      exact List.mem_cons_of_mem _ (fstL_mem h)
    · rw [if_pos c]
      exact List.mem_cons_self ..
theorem get3 {x y z : Int} {i : Nat} {v : V} (h : [V.int x, .int y, .int z][i]? = some v) : ∃ n, v = .int n ∧ [x, y, z][i]? = some n := by
  match i, h with
  | 0, h => exact ⟨x, (Option.some.inj h).symm, rfl⟩
  | 1, h => exact ⟨y, (Option.some.inj h).symm, rfl⟩
  | 2, h => exact ⟨z, (Option.some.inj h).symm, rfl⟩
theorem step_dvd {f o d : Int} (h1 : d ∣ o) (h2 : d ∣ f % o) : d ∣ f ∧ d ∣ o := ⟨by
  rw [← Int.emod_add_mul_ediv f o]
  exact Int.dvd_add h2 (Int.dvd_trans h1 (Int.dvd_mul_right _ _)), h1⟩
def d3 (P : P3) : PyData := .tuple [.int P.x, .int P.y, .int P.z]
theorem DA3 {H : Hp} {p : Addr} {P : P3} (h : S3 H p P) : DA H (.ref p) (d3 P) := .tup h (.cons .int (.cons .int (.cons .int .nil)))
theorem eqv3 (P R : P3) : PyData.eqv (d3 P) (d3 R) = decide (P = R) := by
  have e : PyData.eqv (d3 P) (d3 R) = ((P.x == R.x) && ((P.y == R.y) && ((P.z == R.z) && true))) := rfl
  rw [e]
  by_cases h : P = R
  · subst h
    simp
  · rw [decide_eq_false h]
    by_cases h1 : P.x = R.x
    · by_cases h2 : P.y = R.y
      · by_cases h3 : P.z = R.z
        · exact absurd (P3.ext' ⟨h1, h2, h3⟩) h
        · simp [h3]
      · simp [h2]
    · simp [h1]
def spRp : Sp := fun vs H Q _ => ∃ (p q : Addr) (r s : P3), vs = [.ref p, .ref q] ∧ S3 H p r ∧ S3 H q s ∧ BP 2000 r ∧ BP 2000 s ∧ Q (.int (rp r s)) H
def spTb : Sp := fun vs H Q _ => ∃ (p q : Addr) (t : T3) (P : P3), vs = [.ref p, .ref q] ∧ ST H p t ∧ S3 H q P ∧ BT 2000 t ∧ BP 2000 P ∧ ∀ (r : Addr) (H' : Hp), Same H H' → H r = none → S3 H' r (tb t P) → Q (.ref r) H'
def spSl : Sp := fun vs H Q _ => ∃ (p : Addr) (F : F6), vs = [.ref p] ∧ S6 H p F ∧ ∀ (r : Addr) (H' : Hp), Same H H' → ST H' r (sl F) → Q (.ref r) H'
def spWo : Sp := fun vs H Q _ => ∃ (p q : Addr) (F : F6) (P : P3), vs = [.ref p, .ref q] ∧ S6 H p F ∧ S3 H q P ∧ BF 600 F ∧ BP 600 P ∧ ∀ H', Same H H' → Q (.int (wo F P)) H'
def spCr : Sp := fun vs H Q _ => ∃ (p q : Addr) (r s : P3), vs = [.ref p, .ref q] ∧ S3 H p r ∧ S3 H q s ∧ BP 900 r ∧ BP 900 s ∧ ∀ (z : Addr) (H' : Hp), Same H H' → S3 H' z (cr r s) → Q (.ref z) H'
def spSize : Sp := fun vs H Q _ => ∃ (p : Addr) (F : F6), vs = [.ref p] ∧ S6 H p F ∧ BF 600 F ∧ Q (.int (sz F)) H
def spFlat : Sp := fun vs H Q _ => ∃ (p : Addr) (F : F6), vs = [.ref p] ∧ S6 H p F ∧ BF 600 F ∧ sz F ≠ 0 ∧ Q .non H
def spAdd : Sp := fun vs H Q _ => ∃ (p q : Addr) (P R : P3), vs = [.ref p, .ref q] ∧ S3 H p P ∧ S3 H q R ∧ ∀ (z : Addr) (H' : Hp), Same H H' → S3 H' z (ad P R) → Q (.ref z) H'
def spStr (K : PySem.W.Frag) : Sp := fun vs H Q _ => ∃ (p : Addr) (P : P3) (m : Int), vs = [.ref p, .int m] ∧ SqT K H p (v3 P) ∧ BP 900 P ∧ Bd 900 m ∧ ∀ (z : Addr) (H' : Hp), Same H H' → S3 H' z (st P m) → Q (.ref z) H'
def spLast : Sp := fun vs H Q _ => ∃ (p : Addr) (P : P3), vs = [.ref p] ∧ S3 H p P ∧ N3 P ∧ ∀ H', Same H H' → Q (.int (lst P)) H'
def spLowest : Sp := fun vs H Q _ => ∃ (p : Addr) (x y z : Int), vs = [.ref p] ∧ Sq3 H p x y z ∧ In3 Top x y z ∧ NZ x y z ∧
  ∀ (r : Addr) (H' : Hp) (a b c d : Int), Same H H' → Sq3 H' r a b c → One3 a b c → Pos3 a b c → d ≠ 0 → x = d * a → y = d * b → z = d * c → Q (.ref r) H'
def spOn : Sp := fun vs H Q _ => ∃ (q p : Addr) (F : F6) (P R : P3) (d : Int), vs = [.ref q, .ref p] ∧ S6 H q F ∧ S3 H p P ∧ P = tm d R ∧ d ≠ 0 ∧ L3 R ∧ wo F R = 0 ∧ BF 600 F ∧ BP 600 P ∧ ∀ (r : Addr) (H' : Hp), Same H H' → S3 H' r R → Q (.ref r) H'
def spLed : Sp := fun vs H Q _ => ∃ (q p : Addr) (F : F6) (P : P3) (m n : Int), vs = [.ref q, .ref p, .int m, .int n] ∧ S6 H q F ∧ S3 H p P ∧ L3 P ∧ BF 100 F ∧ BP 130 P ∧ Bd 262 m ∧ Bd 262 n ∧ ∀ (r : Addr) (H' : Hp), Same H H' → S3 H' r (mk F P (dr P m n)) → Q (.ref r) H'
def spBy : Sp := fun vs H Q _ => ∃ (q p : Addr) (F : F6) (P' P : P3) (d m n : Int), vs = [.ref q, .ref p, .int m, .int n] ∧ S6 H q F ∧ S3 H p P' ∧ P' = tm d P ∧ d ≠ 0 ∧ L3 P ∧ wo F P = 0 ∧ sz F ≠ 0 ∧ (m ≠ 0 ∨ n ≠ 0) ∧ BF 100 F ∧ BP 130 P' ∧ Bd 262 m ∧ Bd 262 n ∧
  ∀ (r : Addr) (H' : Hp) (R : P3), Same H H' → S3 H' r R → (Bd 20 m → Bd 20 n → BP 600 R) → Rgt F P (dr P m n) R → Q (.ref r) H'
def spNums (K : PySem.W.Frag) : Sp := fun vs H Q _ => ∃ (q p o : Addr) (F : F6) (P' P R' R : P3) (d e : Int), vs = [.ref q, .ref p, .ref o] ∧ S6 H q F ∧ S3 H p P' ∧ S3 H o R' ∧ P' = tm d P ∧ d ≠ 0 ∧ L3 P ∧ wo F P = 0 ∧ R' = tm e R ∧ e ≠ 0 ∧ L3 R ∧ wo F R = 0 ∧ sz F ≠ 0 ∧ BF 100 F ∧ BP 130 P' ∧ BP 600 R' ∧
  ∀ (r : Addr) (H' : Hp) (D : P3) (d' : Int), Same H H' → H' r = some (.tup [.int (nm1 P D), .int (nm2 P D)]) → L3 D → d' ≠ 0 → cr (ln F P R) (ax P) = tm d' D → (BP 130 R → BP 262 D) → Q (.ref r) H'
def spCrK (K : PySem.W.Frag) : Sp := fun vs H Q _ => ∃ (p q : Addr) (r s : P3), vs = [.ref p, .ref q] ∧ SqT K H p (v3 r) ∧ SqT K H q (v3 s) ∧ BP 900 r ∧ BP 900 s ∧ ∀ (z : Addr) (H' : Hp), Same H H' → S3 H' z (cr r s) → Q (.ref z) H'
theorem bd_cr2 {j k : Nat} {r s : P3} (h : BP j r) (p : BP k s) : BP (j + k + 1) (cr r s) := ⟨(h.y.mul p.z).sub (h.z.mul p.y), (h.z.mul p.x).sub (h.x.mul p.z), (h.x.mul p.y).sub (h.y.mul p.x)⟩
def spShared : Sp := fun vs H Q _ => ∃ (p : Addr) (b : Bool) (ns : List Int), vs = [.ref p] ∧ H p = some (Ho b (ns.map V.int)) ∧ ∀ g : Int, 0 ≤ g → (∀ n ∈ ns, g ∣ n) → Gen ns g → Q (.int g) H
def fdv (e : Int) : V → V
  | .int n => .int (n.fdiv e)
  | v => v
def spLow : Sp := fun vs H Q _ => ∃ (p : Addr) (b : Bool) (ns : List Int), vs = [.ref p] ∧ H p = some (Ho b (ns.map V.int)) ∧ ns.length ≤ 9 ∧ (∀ n ∈ ns, Bd 900 n) ∧ fstL ns ≠ 0 ∧ ∀ (r : Addr) (H' : Hp) (e : Int), Same H H' → H' r = some (.tup ((ns.map V.int).map (fdv e))) → e ≠ 0 → (∀ n ∈ ns, e ∣ n) → Gen ns e → (0 < e ↔ 0 < fstL ns) → Q (.ref r) H'
def spRows (K : PySem.W.Frag) : Sp := fun vs H Q _ => ∃ (a : Addr) (ns : List Int) (w G : Int), vs = [.ref a, .int 1, .int w, .int G] ∧ SqL K H a (ns.map V.int) ∧ 0 ≤ G ∧ G ≤ 10000 ∧ ∀ (p : Addr) (H' : Hp) (t : T3), Same H H' → LT H' p t → BT 14 t → me t ≠ 0 → Q (.ref p) H'
def spForm : Sp := fun vs H Q _ => ∃ (p : Addr) (t : T3) (c : Int), vs = [.ref p, .int c] ∧ LT H p t ∧ BT 14 t ∧ Bd 20 c ∧ ∀ (r : Addr) (H' : Hp), Same H H' → S6 H' r (fm t c) → Q (.ref r) H'
def spSpot : Sp := fun vs H Q _ => ∃ (p : Addr) (t : T3) (s u : Int), vs = [.ref p, .int s, .int u] ∧ LT H p t ∧ BT 14 t ∧ me t ≠ 0 ∧ Bd 21 s ∧ Bd 21 u ∧ ∀ (r : Addr) (H' : Hp) (R : P3), Same H H' → S3 H' r R → L3 R → BP 73 R → (∀ c, wo (fm t c) R = 0) → Q (.ref r) H'
def spLw : Sp := fun vs H Q _ => ∃ (p q : Addr) (F : F6) (P : P3), vs = [.ref p, .ref q] ∧ S6 H p F ∧ S3 H q P ∧ BF 600 F ∧ BP 900 P ∧ Q (.int (lw F P)) H
def spCross : Sp := fun vs H Q _ => ∃ (p q r : Addr) (F : F6) (P R : P3), vs = [.ref p, .ref q, .ref r] ∧ S6 H p F ∧ S3 H q P ∧ S3 H r R ∧ BF 600 F ∧ BP 600 P ∧ BP 600 R ∧ ∀ H', Same H H' → Q (.int (bl F P R)) H'
def spIsSpot : Sp := fun vs H Q _ => ∃ (p : Addr) (P : P3), vs = [.ref p] ∧ S3 H p P ∧ L3 P ∧ BP 900 P ∧ ∀ H', Same H H' → Q (.bl true) H'
def tv (c : Int) : Int := [1, 1, 1, -1, 2, -3, 6, 1000003].getD (c % 8).toNat 0
theorem tv_at (c : Int) : atI [V.int 1, .int 1, .int 1, .int (0 - 1), .int 2, .int (0 - 3), .int 6, .int (10 ^ Int.toNat 6 + 3)] (c % 8) = some (.int (tv c)) ∧ tv c ≠ 0 ∧ Bd 20 (tv c) := by
  unfold tv
  have h : c % 8 = 0 ∨ c % 8 = 1 ∨ c % 8 = 2 ∨ c % 8 = 3 ∨ c % 8 = 4 ∨ c % 8 = 5 ∨ c % 8 = 6 ∨ c % 8 = 7 := by omega
  rcases h with e | e | e | e | e | e | e | e <;> rw [e]
  all_goals exact ⟨rfl, by decide, by unfold Bd; decide⟩
def spTimes : Sp := fun vs H Q _ => ∃ c : Int, vs = [.int c] ∧ ∀ H', Same H H' → Q (.int (tv c)) H'
theorem at4 (a b c d k : Int) (h0 : 0 ≤ k) (h1 : k < 4) : ∃ m, atI [V.int a, .int b, .int c, .int d] k = some (.int m) ∧ (m = a ∨ m = b ∨ m = c ∨ m = d) := by
  have h : k = 0 ∨ k = 1 ∨ k = 2 ∨ k = 3 := by omega
  rcases h with e | e | e | e <;> subst e
  · exact ⟨a, rfl, .inl rfl⟩
  · exact ⟨b, rfl, .inr (.inl rfl)⟩
  · exact ⟨c, rfl, .inr (.inr (.inl rfl))⟩
  · exact ⟨d, rfl, .inr (.inr (.inr rfl))⟩
theorem mod_in {n M : Int} (h : 0 ≤ M) : -M ≤ n % (2 * M + 1) - M ∧ n % (2 * M + 1) - M ≤ M := by
  have := Int.emod_nonneg n (show 2 * M + 1 ≠ 0 by omega)
  have := Int.emod_lt_of_pos n (show 0 < 2 * M + 1 by omega)
  omega
theorem bd20 {x : Int} (h : -1000000 ≤ x ∧ x ≤ 1000000) : Bd 20 x := by
  unfold Bd
  have : (2 : Nat) ^ 20 = 1048576 := by decide
  omega
def spPair : Sp := fun vs H Q _ => ∃ x y w : Int, vs = [.int x, .int y, .int w] ∧ ∀ (p : Addr) (H' : Hp) (s u : Int), Same H H' → H' p = some (.tup [.int s, .int u]) → Bd 20 s → Bd 20 u → Q (.ref p) H'
def spWay : Sp := fun vs H Q _ => ∃ (p : Addr) (P : P3) (m n : Int), vs = [.ref p, .int m, .int n] ∧ S3 H p P ∧ ∀ (r : Addr) (H' : Hp), Same H H' → S3 H' r (dr P m n) → Q (.ref r) H'
def spRight0 : Sp := fun vs H Q _ => ∃ (f q p : Addr) (F : F6) (P R : P3) (m n : Int), vs = [.ref f, .ref q, .ref p, .int m, .int n] ∧ S3 H f R ∧ S6 H q F ∧ S3 H p P ∧ BF 100 F ∧ BP 130 P ∧ BP 600 R ∧ Bd 20 m ∧ Bd 20 n ∧ Rgt F P (dr P m n) R ∧ ∀ H', Same H H' → Q (.bl true) H'
theorem bf_fm {t : T3} {c : Int} (h : BT 14 t) (hc : Bd 20 c) : BF 50 (fm t c) := by
  have d : ∀ {x y z w : Int}, Bd 14 x → Bd 14 y → Bd 14 z → Bd 14 w → Bd 50 (c * (x * y - z * w)) := fun a b e f => (hc.mul ((a.mul b).sub (e.mul f))).mono (by decide)
  have e : ∀ {x y z w u v : Int}, Bd 14 x → Bd 14 y → Bd 14 z → Bd 14 w → Bd 14 u → Bd 14 v → Bd 50 (c * (x * y + z * w - 2 * u * v)) := fun a b e f g i => (hc.mul (((a.mul b).add (e.mul f)).sub ((bd_two g).mul i))).mono (by decide)
  exact ⟨d h.r0.x h.r2.x h.r1.x h.r1.x, d h.r0.y h.r2.y h.r1.y h.r1.y, d h.r0.z h.r2.z h.r1.z h.r1.z, e h.r0.y h.r2.z h.r0.z h.r2.y h.r1.y h.r1.z, e h.r0.x h.r2.z h.r0.z h.r2.x h.r1.x h.r1.z, e h.r0.x h.r2.y h.r0.y h.r2.x h.r1.x h.r1.y⟩
theorem bp_sp {t : T3} {s u : Int} (h : BT 14 t) (hs : Bd 21 s) (hu : Bd 21 u) : BP 73 (sp t s u) := by
  have c12 := bd_cr h.r1 h.r2
  have c20 := bd_cr h.r2 h.r0
  have c01 := bd_cr h.r0 h.r1
  have k : ∀ {p q r : Int}, Bd (14 + 14 + 1) p → Bd (14 + 14 + 1) q → Bd (14 + 14 + 1) r → Bd 73 (sp1 s u p q r) := fun a b c =>
    (((((hs.mul hs).mul a).add ((hs.mul hu).mul b)).add (((hu.mul hu).mul c).mono (by decide))).mono (by decide))
  exact ⟨k c12.x c20.x c01.x, k c12.y c20.y c01.y, k c12.z c20.z c01.z⟩
def nz : V → Bool
  | .int n => !decide (V.int n = V.int 0)
  | _ => false
def fst3 (x y z : Int) : Int := if x ≠ 0 then x else if y ≠ 0 then y else z
theorem nz_t {n : Int} (h : n ≠ 0) : nz (.int n) = true := by
  show (!decide (V.int n = V.int 0)) = true
  rw [decide_eq_false (fun z => h (V.int.inj z))]
  rfl
theorem nz_f {n : Int} (h : n = 0) : nz (.int n) = false := by
  subst h
  show (!decide (V.int 0 = V.int 0)) = false
  rw [decide_eq_true rfl]
  rfl
theorem at0 {α : Type} {v : α} {l : List α} : atI (v :: l) (0 : Int) = some v := by
  have : atI (v :: l) ((0 : Nat) : Int) = some v := atI_nat rfl
  exact this
theorem fst_ok {x y z : Int} (h : NZ x y z) : atI (([V.int x, .int y, .int z].filter nz).map id) (0 : Int) = some (.int (fst3 x y z)) := by
  unfold fst3
  by_cases h1 : x ≠ 0
  · rw [if_pos h1, List.filter_cons, nz_t h1, if_pos rfl]
    exact at0
  · rw [if_neg h1, List.filter_cons, nz_f (Decidable.not_not.mp h1), if_neg Bool.false_ne_true]
    by_cases h2 : y ≠ 0
    · rw [if_pos h2, List.filter_cons, nz_t h2, if_pos rfl]
      exact at0
    · rw [if_neg h2, List.filter_cons, nz_f (Decidable.not_not.mp h2), if_neg Bool.false_ne_true, List.filter_cons, nz_t (show z ≠ 0 by unfold NZ at h; omega), if_pos rfl]
      exact at0
theorem pos_of {x y z a b c d : Int} (hd : d ≠ 0) (hx : x = d * a) (hy : y = d * b) (hz : z = d * c) (n : NZ x y z) (h : (0 < d ∧ 0 < fst3 x y z) ∨ (d < 0 ∧ fst3 x y z < 0)) : Pos3 a b c := by
  have key : ∀ {x a : Int}, x = d * a → ((x = 0 ↔ a = 0) ∧ ((0 < d ∧ 0 < x) ∨ (d < 0 ∧ x < 0) → 0 < a)) := by
    intro x a e
    subst e
    refine ⟨⟨fun z => ?_, fun z => by rw [z, Int.mul_zero]⟩, fun z => ?_⟩
    · rcases Int.mul_eq_zero.mp z with w | w
      · exact absurd w hd
      · exact w
    · rcases z with ⟨h1, h2⟩ | ⟨h1, h2⟩
      · exact Int.pos_of_mul_pos_left (by rw [Int.mul_comm]; exact h2) h1
      · have h3 : 0 < (-d) * a := by rw [Int.neg_mul]; omega
        exact Int.pos_of_mul_pos_left (by rw [Int.mul_comm]; exact h3) (show 0 < -d by omega)
  obtain ⟨x1, x2⟩ := key hx
  obtain ⟨y1, y2⟩ := key hy
  obtain ⟨z1, z2⟩ := key hz
  unfold fst3 at h
  unfold Pos3
  unfold NZ at n
  by_cases c1 : x = 0
  · rw [if_neg (by omega)] at h
    by_cases c2 : y = 0
    · rw [if_neg (by omega)] at h
      exact .inr (.inr ⟨x1.mp c1, y1.mp c2, z2 h⟩)
    · rw [if_pos c2] at h
      exact .inr (.inl ⟨x1.mp c1, y2 h⟩)
  · rw [if_pos c1] at h
    exact .inl (x2 h)
theorem fst_nz {x y z : Int} (h : NZ x y z) : fst3 x y z ≠ 0 := by
  unfold fst3
  unfold NZ at h
  split
  · assumption
  · split
    · assumption
    · omega
theorem gcd_le {g s t x y k1 k2 : Int} (hx : x.natAbs ≤ Lm) (hy : y.natAbs ≤ Lm) (eg : g = s * x + t * y) (e1 : x = k1 * g) (e2 : y = k2 * g) : g.natAbs ≤ Lm := by
  by_cases h1 : x = 0
  · by_cases h2 : y = 0
    · subst h1 h2
      rw [Int.mul_zero, Int.mul_zero] at eg
      subst eg
      exact Nat.zero_le _
    · refine Nat.le_trans (Nat.le_of_dvd (by omega) (Int.natAbs_dvd_natAbs.mpr ⟨k2, ?_⟩)) hy
      rw [Int.mul_comm]
      exact e2
  · refine Nat.le_trans (Nat.le_of_dvd (by omega) (Int.natAbs_dvd_natAbs.mpr ⟨k1, ?_⟩)) hx
    rw [Int.mul_comm]
    exact e1
theorem iteFE {b : Bool} {A B : Prop} (h : b = false) (hB : B) : if b = true then A else B := by
  subst h
  exact iteF hB
theorem bd_cmp {k : Nat} {P : P3} (h : BP k P) (j : Nat) : Bd k (cmp P j) := match j with
  | 0 => h.x
  | 1 => h.y
  | n + 2 => h.z
theorem bd_get {k : Nat} {P : P3} {i : Nat} {n : Int} (hP : BP k P) (h : [P.x, P.y, P.z][i]? = some n) : Bd k n := by
  match i, h with
  | 0, h => cases h; exact hP.x
  | 1, h => cases h; exact hP.y
  | 2, h => cases h; exact hP.z
  | n + 3, h => cases h
theorem okc {c n : Int} (h : Bd 20 c) : IntMulOk c n := by
  unfold Bd at h
  have e : (2 : Nat) ^ 20 = 1048576 := by decide
  exact IntMulOk.of_left (intBits_le_64 (by omega) (by omega))
def vtm (c : Int) : V → V
  | .int n => .int (c * n)
  | v => v
def vmt (c : Int) : V → V
  | .int n => .int (n * c)
  | v => v
theorem me_stairs (a b c : Int) : me ⟨⟨1, a, b⟩, ⟨0, 1, c⟩, ⟨0, 0, 1⟩⟩ ≠ 0 := by
  simp only [me, rp, cr]
  omega
theorem tm_one (P : P3) : P = tm 1 P := P3.ext' ⟨(Int.one_mul _).symm, (Int.one_mul _).symm, (Int.one_mul _).symm⟩
theorem first_ok : ∀ {ns : List Int}, fstL ns ≠ 0 → ∃ ms : List Int, ((ns.map V.int).filter nz).map id = (fstL ns :: ms).map V.int
  | [], h => absurd rfl h
  | n :: ns, h => by
    unfold fstL at *
    by_cases c : n = 0
    · rw [if_neg (by omega)] at *
      rw [List.map_cons, List.filter_cons, nz_f c, if_neg Bool.false_ne_true]
      exact first_ok h
    · rw [if_pos c] at *
      rw [List.map_cons, List.filter_cons, nz_t c, if_pos rfl]
      refine ⟨ns.filter fun n => nz (.int n), ?_⟩
      rw [List.map_id, List.map_cons, List.filter_map]
      rfl
theorem fst3_eq (x y z : Int) : fstL [x, y, z] = fst3 x y z := by
  unfold fst3
  simp only [fstL]
  split
  · rfl
  · split
    · rfl
    · split
      · rfl
      · omega
theorem n3_fst {P : P3} (h : N3 P) : fstL [P.x, P.y, P.z] ≠ 0 := by
  rw [fst3_eq]
  exact fst_nz h
theorem low3 {P : P3} {e : Int} (n3 : N3 P) (e0 : e ≠ 0) (hd : ∀ n ∈ [P.x, P.y, P.z], e ∣ n) (hg : Gen [P.x, P.y, P.z] e) (hs : 0 < e ↔ 0 < fstL [P.x, P.y, P.z]) : L3 ⟨P.x.fdiv e, P.y.fdiv e, P.z.fdiv e⟩ ∧ P = tm e ⟨P.x.fdiv e, P.y.fdiv e, P.z.fdiv e⟩ := by
  obtain ⟨o, qx, qy, qz⟩ := low_ok e0 (hd _ (by simp)) (hd _ (by simp)) (hd _ (by simp)) hg.three
  have fz := fst_nz n3
  rw [fst3_eq] at hs
  exact ⟨⟨o, pos_of e0 qx qy qz n3 (by omega)⟩, P3.ext' ⟨qx, qy, qz⟩⟩
theorem bp_mem {k : Nat} {P : P3} (h : BP k P) : ∀ n ∈ [P.x, P.y, P.z], Bd k n := by
  intro n hn
  simp only [List.mem_cons, List.not_mem_nil, or_false] at hn
  rcases hn with rfl | rfl | rfl
  · exact h.x
  · exact h.y
  · exact h.z
theorem getI {ns : List Int} {i : Nat} {v : V} (h : (ns.map V.int)[i]? = some v) : ∃ n, v = .int n ∧ ns[i]? = some n ∧ n ∈ ns := by
  rw [List.getElem?_map] at h
  cases e : ns[i]? with
  | none => rw [e] at h; cases h
  | some n => rw [e] at h; exact ⟨n, (Option.some.inj h).symm, rfl, List.mem_of_getElem? e⟩
theorem _root_.L2.SqT.up {K : PySem.W.Frag} {H H' : Hp} {a : Addr} {xs : List V} (e : Same H H') (h : SqT K H a xs) : SqT K H' a xs := by
  rcases h with (h | ⟨o, h⟩) | h
  · exact .inl (.inl (e _ _ h))
  · exact .inl (.inr ⟨o, e _ _ h⟩)
  · exact .inr h
theorem putS {H H' : Hp} {p : Addr} {o : HO} (g : Same H H') (n : H p = none) : Same H (upd H' p o) := fun b u z => by
  rw [upd_ne (ne_of_none z n)]
  exact g b u z
theorem le_sq {g : Int} (h : 1 ≤ g) : g ≤ g * g := by
  have := Int.mul_le_mul_of_nonneg_right h (show 0 ≤ g by omega)
  omega
theorem _root_.L2.SqT.put {K : PySem.W.Frag} {H : Hp} {a l : Addr} {xs zs : List V} {o : HO} (h : SqT K H a xs) (hl : H l = some (.lst zs)) : SqT K (upd H l o) a xs := by
  rcases h with (h | ⟨c, h⟩) | h
  · have ne : a ≠ l := fun w => by subst w; rw [hl] at h; cases h
    exact .inl (.inl (by rw [upd_ne ne]; exact h))
  · have ne : a ≠ l := fun w => by subst w; rw [hl] at h; cases h
    exact .inl (.inr ⟨c, by rw [upd_ne ne]; exact h⟩)
  · exact .inr h
theorem _root_.L2.SqL.up {K : PySem.W.Frag} {H H' : Hp} {a : Addr} {xs : List V} (e : Same H H') (h : SqL K H a xs) : SqL K H' a xs := by
  rcases h with (h | ⟨o, h⟩) | h
  · exact .inl (.inl (e _ _ h))
  · exact .inl (.inr ⟨o, e _ _ h⟩)
  · exact .inr h
theorem _root_.L2.Sq.up {K : PySem.W.Frag} {H H' : Hp} {b : Bool} {a : Addr} {xs : List V} (e : Same H H') (h : Sq K H b a xs) : Sq K H' b a xs := by
  cases b
  · exact SqT.up e h
  · exact SqL.up e h
theorem ixb {K : PySem.W.Frag} {H : Hp} {b : Bool} {p : Addr} {xs : List V} {i : Int} {v : V} {Q : VK} (h : Sq K H b p xs) (e : atI xs i = some v) (q : Q v H) : rIx K (.ref p) (.int i) H Q := by
  cases b
  · exact .inr (.inl ⟨p, xs, i, v, rfl, rfl, h, e, q⟩)
  · exact .inl ⟨p, xs, i, v, rfl, rfl, h, e, q⟩
inductive TuK (K : PySem.W.Frag) (H : Hp) : List V → List P3 → Prop where
  | nil : TuK K H [] []
  | cons {r : Addr} {P : P3} {vs : List V} {Ps : List P3} : SqT K H r (v3 P) → TuK K H vs Ps → TuK K H (.ref r :: vs) (P :: Ps)
theorem TuK.mono {K : PySem.W.Frag} {H H' : Hp} {vs : List V} {Ps : List P3} (g : Same H H') (h : TuK K H vs Ps) : TuK K H' vs Ps := by
  induction h with
  | nil => exact .nil
  | cons h _ ih => exact .cons (h.up g) ih
theorem TuK.put {K : PySem.W.Frag} {H : Hp} {vs : List V} {Ps : List P3} {l : Addr} {zs : List V} {o : HO} (h : TuK K H vs Ps) (hl : H l = some (.lst zs)) : TuK K (upd H l o) vs Ps := by
  induction h with
  | nil => exact .nil
  | cons h _ ih => exact .cons (h.put hl) ih
theorem TuK.app {K : PySem.W.Frag} {H : Hp} {vs ws : List V} {Ps Rs : List P3} (h : TuK K H vs Ps) (k : TuK K H ws Rs) : TuK K H (vs ++ ws) (Ps ++ Rs) := by
  induction h with
  | nil => exact k
  | cons h _ ih => exact .cons h ih
theorem TuK.len {K : PySem.W.Frag} {H : Hp} {vs : List V} {Ps : List P3} (h : TuK K H vs Ps) : vs.length = Ps.length := by
  induction h with
  | nil => rfl
  | cons _ _ ih => rw [List.length_cons, List.length_cons, ih]
theorem TuK.get {K : PySem.W.Frag} {H : Hp} {vs : List V} {Ps : List P3} (h : TuK K H vs Ps) : ∀ {i : Nat} {v : V}, vs[i]? = some v → ∃ r P, v = .ref r ∧ Ps[i]? = some P ∧ SqT K H r (v3 P) := by
  induction h with
  | nil => intro i v e; cases e
  | @cons r P vs Ps h _ ih =>
    intro i v e
    match i, e with
    | 0, e => exact ⟨r, P, (Option.some.inj e).symm, rfl, h⟩
    | i + 1, e => exact ih (i := i) (by simpa using e)
theorem comp_seqR {K : PySem.W.Frag} {b : Bool} {a : Addr} {xs : List V} {te : TE} {σ : V → St} {H : Hp} {Q : VK} (hn : xs.length < sizeLine) (hK : ∀ H', Same H H' → Sq K H' b a xs) (R : Nat → List V → Hp → Prop) (R0 : ∀ p, H p = none → R 0 [] (upd H p (.lst [])))
    (he : ∀ (i : Nat) (x : V) (vs : List V) (H' : Hp) (acc : Addr) (Q' : VK), xs[i]? = some x → Same H H' → H acc = none → H' acc = some (.lst vs) → R i vs H' → vs.length = i → (∀ y H2, Same H' H2 → R (i + 1) (vs ++ [y]) (upd H2 acc (.lst (vs ++ [y]))) → Q' y H2) → te (σ x) H' Q')
    (q : ∀ p H' vs, Same H H' → H p = none → H' p = some (.lst vs) → vs.length = xs.length → R xs.length vs H' → Q (.ref p) H') : CompEnd (Itb K b a) Q H te σ := by
  cases b with
  | true => exact comp_listR hn hK R R0 he q
  | false => exact comp_tupR hn hK R R0 he q
theorem compIf_listI {K : PySem.W.Frag} {a : Addr} {xs : List V} {tc : TT} {te : TE} {σ : V → St} {H : Hp} {Q : VK} (hn : xs.length < sizeLine) (b : Nat → Bool) (hK : ∀ H', Same H H' → SqL K H' a xs) (R : Nat → List V → Prop) (R0 : R 0 [])
    (Rt : ∀ i x vs, xs[i]? = some x → b i = true → R i vs → R (i + 1) (vs ++ [x])) (Rf : ∀ i x vs, xs[i]? = some x → b i = false → R i vs → R (i + 1) vs)
    (ht : ∀ (i : Nat) (x : V) (H' : Hp) (Q' : Bool → Hp → Prop), xs[i]? = some x → Same H H' → (∀ H2, Same H' H2 → Q' (b i) H2) → tc (σ x) H' Q')
    (he : ∀ (i : Nat) (x : V) (H' : Hp) (Q' : VK), xs[i]? = some x → Same H H' → (∀ H2, Same H' H2 → Q' x H2) → te (σ x) H' Q')
    (q : ∀ a H' vs, Same H H' → H a = none → H' a = some (.lst vs) → R xs.length vs → Q (.ref a) H') : CompIfEnd (Itl K a) Q H tc te σ := by
  intro acc hacc
  refine ⟨fun i m H' vs => i ≤ xs.length ∧ m = xs.length - i ∧ Same H H' ∧ H' acc = some (.lst vs) ∧ vs.length ≤ i ∧ R i vs, ⟨xs.length, Nat.zero_le _, by simp, same_new hacc _, upd_same, Nat.le_refl _, R0⟩, ?_⟩
  rintro i m H' vs ⟨hi, rfl, g, ha, hv, r⟩
  refine ⟨ha, ?_⟩
  by_cases h : i = xs.length
  · subst h
    exact .inl ⟨⟨xs, hK _ g, Nat.le_refl _⟩, q acc H' vs g hacc ha r⟩
  · have hlt : i < xs.length := by omega
    refine .inr ⟨⟨xs, xs[i], hK _ g, by simp [hlt]⟩, by omega, ?_⟩
    rintro x H2 ⟨rfl, hx⟩
    have ex := hx xs (hK _ g)
    refine ht i x _ _ ex g fun H3 g3 => ?_
    cases e : b i with
    | true => exact iteT (he i x _ _ ex (g.trans g3) fun H4 g4 => ⟨g4 _ _ (g3 _ _ ha), xs.length - (i + 1), by omega, by omega, rfl, same_upd (g.trans (g3.trans g4)) hacc, upd_same, by simp; omega, Rt i x vs ex e r⟩)
    | false => exact iteF ⟨xs.length - (i + 1), by omega, by omega, rfl, g.trans g3, g3 _ _ ha, by omega, Rf i x vs ex e r⟩
def spRpK (K : PySem.W.Frag) : Sp := fun vs H Q _ => ∃ (p q : Addr) (r s : P3), vs = [.ref p, .ref q] ∧ S3 H p r ∧ SqT K H q (v3 s) ∧ BP 2000 r ∧ BP 2000 s ∧ Q (.int (rp r s)) H
def spTbK (K : PySem.W.Frag) : Sp := fun vs H Q _ => ∃ (p q : Addr) (t : T3) (P : P3), vs = [.ref p, .ref q] ∧ ST H p t ∧ SqT K H q (v3 P) ∧ BT 2000 t ∧ BP 2000 P ∧ ∀ (r : Addr) (H' : Hp), Same H H' → H r = none → S3 H' r (tb t P) → Q (.ref r) H'
def spWoK (K : PySem.W.Frag) : Sp := fun vs H Q _ => ∃ (p q : Addr) (F : F6) (P : P3), vs = [.ref p, .ref q] ∧ S6 H p F ∧ SqT K H q (v3 P) ∧ BF 600 F ∧ BP 600 P ∧ ∀ H', Same H H' → Q (.int (wo F P)) H'
def spAddK (K : PySem.W.Frag) : Sp := fun vs H Q _ => ∃ (p q : Addr) (P R : P3), vs = [.ref p, .ref q] ∧ SqT K H p (v3 P) ∧ SqT K H q (v3 R) ∧ ∀ (z : Addr) (H' : Hp), Same H H' → S3 H' z (ad P R) → Q (.ref z) H'
def spLowS (K : PySem.W.Frag) : Sp := fun vs H Q _ => ∃ (b : Bool) (p : Addr) (x y z : Int), vs = [.ref p] ∧ Sq K H b p [.int x, .int y, .int z] ∧ In3 Top x y z ∧ NZ x y z ∧
  ∀ (r : Addr) (H' : Hp) (a b c d : Int), Same H H' → Sq3 H' r a b c → One3 a b c → Pos3 a b c → d ≠ 0 → x = d * a → y = d * b → z = d * c → Q (.ref r) H'
theorem newton_step {n g : Int} (n0 : 0 ≤ n) (g0 : 0 ≤ g) (hg : n < g * g) : 0 < g ∧ 0 ≤ (g + n.fdiv g) / 2 ∧ (g + n.fdiv g) / 2 < g ∧ n < ((g + n.fdiv g) / 2 + 1) * ((g + n.fdiv g) / 2 + 1) := by
  have gp : 0 < g := by
    rcases (show g = 0 ∨ 0 < g by omega) with h | h
    · subst h; omega
    · exact h
  have e : n = g * n.fdiv g + n.fmod g := by rw [Int.fmod_def]; omega
  have r0 := Int.fmod_nonneg_of_pos n gp
  have r1 := Int.fmod_lt_of_pos n gp
  generalize n.fdiv g = q at e ⊢
  generalize n.fmod g = r at e r0 r1
  have q0 : 0 ≤ q := by
    rcases Int.lt_or_le q 0 with h | h
    · have := Int.mul_le_mul_of_nonneg_left (show q ≤ -1 by omega) (Int.le_of_lt gp)
      omega
    · exact h
  have q1 : q < g := by
    rcases Int.lt_or_le q g with h | h
    · exact h
    · have := Int.mul_le_mul_of_nonneg_left h (Int.le_of_lt gp)
      omega
  have sqn : ∀ a : Int, 0 ≤ a * a := fun a => by
    rcases Int.le_total 0 a with h | h
    · exact Int.mul_nonneg h h
    · exact Int.mul_nonneg_of_nonpos_of_nonpos h h
  refine ⟨gp, by omega, by omega, ?_⟩
  have hn : n < g * (q + 1) := by
    have : g * (q + 1) = g * q + g := by rw [Int.mul_add, Int.mul_one]
    omega
  have h2 : g + q + 1 ≤ 2 * ((g + q) / 2 + 1) := by omega
  generalize (g + q) / 2 + 1 = c at h2 ⊢
  have k := sqn (g - (q + 1))
  have h3 : (g + q + 1) * (g + q + 1) ≤ (2 * c) * (2 * c) := Int.mul_le_mul h2 h2 (by omega) (by omega)
  grind
theorem root_uniq {g r : Int} (h0 : 0 ≤ g) (h1 : g * g ≤ r * r) (h2 : r * r < (g + 1) * (g + 1)) (r0 : 0 ≤ r) : g = r := by
  rcases Int.lt_trichotomy g r with h | h | h
  · have := Int.mul_le_mul (show g + 1 ≤ r by omega) (show g + 1 ≤ r by omega) (by omega) (by omega)
    omega
  · exact h
  · have := Int.mul_le_mul (show r + 1 ≤ g by omega) (show r + 1 ≤ g by omega) (by omega) (by omega)
    grind
def spOff (K : PySem.W.Frag) : Sp := fun vs H Q _ => ∃ (b : Bool) (q p : Addr) (F : F6) (us : List V) (Ps : List P3), vs = [.ref q, .ref p] ∧ S6 H q F ∧ Sq K H b p us ∧ TuK K H us Ps ∧ Ps.length ≤ 3 ∧ BF 300 F ∧ (∀ P ∈ Ps, BP 300 P) ∧ (∃ v, offF F Ps = some v) ∧
  ∀ (r : Addr) (H' : Hp) (v : P3), Same H H' → SqT K H' r (v3 v) → offF F Ps = some v → Q (.ref r) H'
theorem bp_offs {k : Nat} {Ps : List P3} (h : ∀ P ∈ Ps, BP k P) {v : P3} (hv : v ∈ offs Ps) : BP (k + 1) v := by
  rcases List.mem_append.mp hv with m | m
  · exact (h v m).mono'
  · obtain ⟨a, ha, m⟩ := List.mem_flatMap.mp m
    obtain ⟨b, hb, rfl⟩ := List.mem_map.mp m
    exact bp_ad (h a ha) (h b hb)
def OffR (K : PySem.W.Frag) (H : Hp) (F : F6) (Vs : List P3) (i : Nat) (vs : List V) : Prop := match (Vs.take i).find? fun v => wo F v != 0 with
  | none => vs = []
  | some v => ∃ r rest, vs = .ref r :: rest ∧ SqT K H r (v3 v)
def offB (F : F6) (Vs : List P3) (i : Nat) : Bool := match Vs[i]? with
  | none => false
  | some v => wo F v != 0
theorem offB_at {F : F6} {Vs : List P3} {i : Nat} {v : P3} (h : Vs[i]? = some v) : offB F Vs i = (wo F v != 0) := by
  unfold offB
  rw [h]
theorem OffR.zero {K : PySem.W.Frag} {H : Hp} {F : F6} {Vs : List P3} : OffR K H F Vs 0 [] := by
  unfold OffR
  simp
theorem OffR.step {K : PySem.W.Frag} {H : Hp} {F : F6} {Vs : List P3} {i : Nat} {vs : List V} {r : Addr} {P : P3} (hP : Vs[i]? = some P) (hr : SqT K H r (v3 P)) (h : OffR K H F Vs i vs) : (offB F Vs i = true → OffR K H F Vs (i + 1) (vs ++ [.ref r])) ∧ (offB F Vs i = false → OffR K H F Vs (i + 1) vs) := by
  rw [offB_at hP]
  unfold OffR at *
  rw [List.take_succ, hP, List.find?_append]
  cases e : (Vs.take i).find? fun v => wo F v != 0 with
  | some v =>
    rw [e] at h
    obtain ⟨r', rest, rfl, h'⟩ := h
    exact ⟨fun _ => ⟨r', rest ++ [.ref r], rfl, h'⟩, fun _ => ⟨r', rest, rfl, h'⟩⟩
  | none =>
    rw [e] at h
    subst h
    refine ⟨fun c => ?_, fun c => ?_⟩
    · simp only [Option.none_or, Option.toList, List.find?_cons, c]
      exact ⟨r, [], rfl, hr⟩
    · simp only [Option.none_or, Option.toList, List.find?_cons, c, List.find?_nil]
theorem axs_bp {k : Nat} : ∀ P ∈ axs, BP k P := by
  intro P h
  simp only [axs, List.mem_cons, List.not_mem_nil, or_false] at h
  rcases h with rfl | rfl | rfl
  · exact ⟨bd1, bd0, bd0⟩
  · exact ⟨bd0, bd1, bd0⟩
  · exact ⟨bd0, bd0, bd1⟩
theorem wo_n3 {F : F6} {v : P3} (h : wo F v ≠ 0) : N3 v := by
  apply Classical.byContradiction
  intro c
  rw [n3_not c] at h
  simp [wo] at h
theorem n3_nz {v : P3} (h : N3 v) : NZ v.x v.y v.z := h
@[irreducible] def TopR : Int := 2 ^ 1500
theorem TopR_eq : TopR = 2 ^ 1500 := by unfold TopR; rfl
theorem bd_topR {x : Int} (h : Bd 1500 x) : x ≤ TopR := by
  have e : TopR = ((2 ^ 1500 : Nat) : Int) := by rw [TopR_eq]; decide +kernel
  unfold Bd at h
  rw [e]
  generalize (2 : Nat) ^ 1500 = N at h
  omega
theorem bits_top {g : Int} (h0 : 0 ≤ g) (h : g ≤ 2 * TopR + 1) : g.natAbs < 2 ^ 1600 := by
  have e : TopR = ((2 ^ 1500 : Nat) : Int) := by rw [TopR_eq]; decide +kernel
  have k : 2 * 2 ^ 1500 + 1 < 2 ^ 1600 := by decide +kernel
  rw [e] at h
  generalize (2 : Nat) ^ 1500 = N at h k
  generalize (2 : Nat) ^ 1600 = M at k
  omega
def spAbove : Sp := fun vs H Q _ => ∃ n, vs = [.int n] ∧ 0 ≤ n ∧ n ≤ TopR ∧ ∀ g : Int, 0 ≤ g → g ≤ 2 * n + 1 → n < g * g → Q (.int g) H
def spRootF : Sp := fun vs H Q _ => ∃ n : Int, vs = [.int n] ∧ 0 ≤ n ∧ n ≤ TopR ∧ ∀ g : Int, 0 ≤ g → g * g ≤ n → n < (g + 1) * (g + 1) → Q (.int g) H
theorem bd_rt2 {k : Nat} {n g : Int} (h0 : 0 ≤ g) (h : g * g ≤ n) (hn : Bd (k + k) n) : Bd k g := by
  unfold Bd at *
  have h1 : g.natAbs * g.natAbs ≤ 2 ^ k * 2 ^ k := by
    rw [← Nat.pow_add]
    have : (g * g).natAbs = g.natAbs * g.natAbs := Int.natAbs_mul ..
    have := Int.mul_nonneg h0 h0
    omega
  rcases Nat.lt_or_ge (2 ^ k) g.natAbs with c | c
  · have := Nat.mul_lt_mul'' c c
    omega
  · exact c
inductive Tu (H : Hp) : List V → List P3 → Prop where
  | nil : Tu H [] []
  | cons {r : Addr} {P : P3} {vs : List V} {Ps : List P3} : S3 H r P → Tu H vs Ps → Tu H (.ref r :: vs) (P :: Ps)
theorem Tu.mono {H H' : Hp} {vs : List V} {Ps : List P3} (g : Same H H') (h : Tu H vs Ps) : Tu H' vs Ps := by
  induction h with
  | nil => exact .nil
  | cons h _ ih => exact .cons (g _ _ h) ih
theorem Tu.len {H : Hp} {vs : List V} {Ps : List P3} (h : Tu H vs Ps) : vs.length = Ps.length := by
  induction h with
  | nil => rfl
  | cons _ _ ih => simp [ih]
theorem Tu.put {H : Hp} {vs : List V} {Ps : List P3} {l : Addr} {zs : List V} {o : HO} (h : Tu H vs Ps) (hl : H l = some (.lst zs)) : Tu (upd H l o) vs Ps := by
  induction h with
  | nil => exact .nil
  | @cons r P vs Ps h _ ih =>
    have ne : r ≠ l := fun w => by
      subst w
      unfold S3 at h
      rw [hl] at h
      cases h
    refine .cons ?_ ih
    unfold S3
    rw [upd_ne ne]
    exact h
theorem Tu.DAs {H : Hp} {vs : List V} {Ps : List P3} (h : Tu H vs Ps) : DAs H vs (Ps.map d3) := by
  induction h with
  | nil => exact .nil
  | cons h _ ih => exact .cons (DA3 h) ih
theorem Tu.get {H : Hp} {vs : List V} {Ps : List P3} (h : Tu H vs Ps) : ∀ {i : Nat} {v : V}, vs[i]? = some v → ∃ r P, v = .ref r ∧ Ps[i]? = some P ∧ S3 H r P := by
  induction h with
  | nil => intro i v e; simp at e
  | @cons r P vs Ps h _ ih =>
    intro i v e
    cases i with
    | zero => exact ⟨r, P, (Option.some.inj e).symm, rfl, h⟩
    | succ i => exact ih (by simpa using e)
theorem lex3 (P R : P3) : HT.lexLt [P.x, P.y, P.z] [R.x, R.y, R.z] = true ↔ lt3 P R := by
  unfold lt3
  simp only [HT.lexLt]
  by_cases h1 : P.x = R.x
  · rw [if_pos h1]
    by_cases h2 : P.y = R.y
    · rw [if_pos h2]
      by_cases h3 : P.z = R.z
      · rw [if_pos h3]
        simp
        omega
      · rw [if_neg h3]
        simp
        omega
    · rw [if_neg h2]
      simp
      omega
  · rw [if_neg h1]
    simp
    omega
def spCorL : Sp := fun vs H Q _ => ∃ (q lr : Addr) (F : F6) (l : P3), vs = [.ref q, .ref lr] ∧ S6 H q F ∧ S3 H lr l ∧ BF 100 F ∧ BP 170 l ∧ N3 l ∧ sz F ≠ 0 ∧
  ∀ (r r1 r2 : Addr) (H' : Hp) (R S : P3), Same H H' → H' r = some (.tup [.ref r1, .ref r2]) → S3 H' r1 R → S3 H' r2 S → Bas F l R S → BP 172 R → BP 446 S → Q (.ref r) H'
def spMet : Sp := fun vs H Q _ => ∃ (q lr : Addr) (F : F6) (l : P3), vs = [.ref q, .ref lr] ∧ S6 H q F ∧ S3 H lr l ∧ BF 100 F ∧ BP 170 l ∧ N3 l ∧ sz F ≠ 0 ∧
  ∀ (r : Addr) (H' : Hp) (vs : List V) (Ps : List P3), Same H H' → H r = none → H' r = some (.lst vs) → Tu H' vs Ps → Met F l Ps → (∀ P ∈ Ps, BP 900 P) → Q (.ref r) H'
def EndAt (F : F6) (R S : P3) (r : Int) (P : P3) : Prop := L3 P ∧ BP 900 P ∧ ∃ e, e ≠ 0 ∧ ad (tm r R) (tm (wo F R) S) = tm e P
def TwoEnds (F : F6) (R S : P3) (r : Int) (i : Nat) (ws : List V) (H : Hp) : Prop :=
  (i = 0 → ws = []) ∧ (i = 1 → ∃ z P, ws = [.ref z] ∧ S3 H z P ∧ EndAt F R S r P) ∧ (i = 2 → ∃ z z' P P', ws = [.ref z, .ref z'] ∧ S3 H z P ∧ S3 H z' P' ∧ EndAt F R S r P ∧ EndAt F R S (-r) P')
theorem S3.put {H : Hp} {r l : Addr} {P : P3} {zs : List V} {o : HO} (h : S3 H r P) (hl : H l = some (.lst zs)) : S3 (upd H l o) r P := by
  have ne : r ≠ l := fun w => by
    subst w
    unfold S3 at h
    rw [hl] at h
    cases h
  unfold S3
  rw [upd_ne ne]
  exact h
theorem met_one {F : F6} {l R S P P' : P3} {r : Int} (B : Bas F l R S) (hr : r * r = sqr F R S) (h : EndAt F R S r P) (h' : EndAt F R S (-r) P') (e : P = P') : Met F l [P] := by
  obtain ⟨lP, bP, d, hd, q⟩ := h
  obtain ⟨lP', bP', d', hd', q'⟩ := h'
  have r0 := (B.same hd hd' lP lP' q q').mp e
  refine .one ((B.sq hr).2.mpr r0) fun X => ?_
  rw [B.two hr lP lP' hd hd' q q' X, ← e]
  simp
theorem met_two {F : F6} {l R S P P' : P3} {r : Int} (B : Bas F l R S) (hr : r * r = sqr F R S) (h : EndAt F R S r P) (h' : EndAt F R S (-r) P') (lt : lt3 P P' ∨ lt3 P' P) : (lt3 P P' → Met F l [P, P']) ∧ (lt3 P' P → Met F l [P', P]) := by
  obtain ⟨lP, bP, d, hd, q⟩ := h
  obtain ⟨lP', bP', d', hd', q'⟩ := h'
  have ne : gq F l ≠ 0 := fun z => by
    have e := (B.same hd hd' lP lP' q q').mpr ((B.sq hr).2.mp z)
    subst e
    rcases lt with lt | lt <;> exact lt3_irr _ lt
  have two := B.two hr lP lP' hd hd' q q'
  refine ⟨fun lt => .two (B.sq hr).1 ne lt two, fun lt => .two (B.sq hr).1 ne lt fun X => ?_⟩
  rw [two X, or_comm]
theorem new_none {H H' : Hp} {r : Addr} (g : Same H H') (n : H' r = none) : H r = none := by
  cases e : H r with
  | none => rfl
  | some o => have := g _ _ e; rw [n] at this; cases this
theorem bd14 {x : Int} (h : -10000 ≤ x ∧ x ≤ 10000) : Bd 14 x := by
  unfold Bd
  have : (2 : Nat) ^ 14 = 16384 := by decide
  omega
theorem bits_top4 {g : Int} (h0 : 0 ≤ g) (h : g ≤ 4 * TopR + 4) : g.natAbs < 2 ^ 1600 := by
  have e : TopR = ((2 ^ 1500 : Nat) : Int) := by rw [TopR_eq]; decide +kernel
  have k : 4 * 2 ^ 1500 + 4 < 2 ^ 1600 := by decide +kernel
  rw [e] at h
  generalize (2 : Nat) ^ 1500 = N at h k
  generalize (2 : Nat) ^ 1600 = M at k
  omega
def spLRoot : Sp := fun vs H Q _ => ∃ n : Int, vs = [.int n] ∧ 1 ≤ n ∧ n ≤ TopR ∧ ∀ g : Int, 0 ≤ g → g * g ≤ n → n < (g + 1) * (g + 1) → Q (.int g) H
def Stp (n f s : Int) : Prop := (s = 0 ∧ n < (f + 1) * (f + 1)) ∨ (∃ j : Nat, s = 2 ^ j ∧ n < (f + 2 * s) * (f + 2 * s))
theorem Stp.half {n f s : Int} (s0 : 0 < s) (h : ∃ j : Nat, s = 2 ^ j) (lt : n < (f + s) * (f + s)) : Stp n f (s / 2) := by
  obtain ⟨j, rfl⟩ := h
  cases j with
  | zero => exact .inl ⟨rfl, lt⟩
  | succ j =>
    have e : (2 : Int) ^ (j + 1) / 2 = 2 ^ j := by rw [Int.pow_succ]; omega
    rw [e]
    refine .inr ⟨j, rfl, ?_⟩
    rw [show f + 2 * (2 : Int) ^ j = f + 2 ^ (j + 1) by rw [Int.pow_succ]; omega]
    exact lt
def spSlope : Sp := fun vs H Q _ => ∃ (p q : Addr) (F : F6) (P : P3), vs = [.ref p, .ref q] ∧ S6 H p F ∧ S3 H q P ∧ BF 600 F ∧ BP 600 P ∧ ∀ (r : Addr) (H' : Hp), Same H H' → S3 H' r (tb (sl F) P) → Q (.ref r) H'
theorem compIf_rangeR {tc : TT} {te : TE} {σ : V → St} {H : Hp} {Q : VK} {lo : Int} (n : Nat) (hn : n < sizeLine) (b : Nat → Bool) (R : Nat → List V → Hp → Prop) (R0 : ∀ p, H p = none → R 0 [] (upd H p (.lst [])))
    (ht : ∀ i H' (Q' : Bool → Hp → Prop), i < n → Same H H' → Q' (b i) H' → tc (σ (.int (lo + i))) H' Q') (hf : ∀ i vs H', b i = false → R i vs H' → R (i + 1) vs H')
    (he : ∀ i vs H' acc (Q' : VK), i < n → b i = true → Same H H' → H acc = none → H' acc = some (.lst vs) → R i vs H' → (∀ y H2, Same H' H2 → R (i + 1) (vs ++ [y]) (upd H2 acc (.lst (vs ++ [y]))) → Q' y H2) → te (σ (.int (lo + i))) H' Q')
    (q : ∀ p H' vs, Same H H' → H p = none → H' p = some (.lst vs) → R n vs H' → Q (.ref p) H') : CompIfEnd (Itr lo n) Q H tc te σ := by
  intro acc hacc
  refine ⟨fun i m H' vs => i ≤ n ∧ m = n - i ∧ Same H H' ∧ H' acc = some (.lst vs) ∧ vs.length ≤ i ∧ R i vs H', ⟨n, Nat.zero_le _, by simp, same_new hacc _, upd_same, Nat.le_refl _, R0 _ hacc⟩, ?_⟩
  rintro i m H' vs ⟨hi, rfl, g, ha, hl, r⟩
  refine ⟨ha, ?_⟩
  by_cases h : i = n
  · subst h
    exact .inl ⟨Nat.le_refl _, q acc H' vs g hacc ha r⟩
  · refine .inr ⟨by (show i < n; omega), by omega, ?_⟩
    rintro z H2 ⟨rfl, rfl⟩
    refine ht i H2 _ (by omega) g ?_
    cases e : b i with
    | true => exact iteT (he i vs H2 acc _ (by omega) e g hacc ha r fun y H3 g3 r3 => ⟨g3 _ _ ha, n - (i + 1), by omega, by omega, rfl, same_upd (g.trans g3) hacc, upd_same, by simp; omega, r3⟩)
    | false => exact iteF ⟨n - (i + 1), by omega, by omega, rfl, g, ha, by omega, hf i vs H2 e r⟩
def axOf (i : Nat) : P3 := match i with
  | 0 => ⟨1, 0, 0⟩
  | 1 => ⟨0, 1, 0⟩
  | _ => ⟨0, 0, 1⟩
def sd (l : P3) (j i : Nat) : List P3 := ((List.range i).filter fun k => k != j).map fun k => cr l (axOf k)
theorem sd_t {l : P3} {j i : Nat} (h : i ≠ j) : sd l j (i + 1) = sd l j i ++ [cr l (axOf i)] := by
  unfold sd
  rw [List.range_succ, List.filter_append, List.map_append]
  congr 1
  simp [h]
theorem sd_f {l : P3} {j i : Nat} (h : i = j) : sd l j (i + 1) = sd l j i := by
  unfold sd
  rw [List.range_succ, List.filter_append, List.map_append]
  simp [h]
theorem Tu.app {H : Hp} {vs ws : List V} {Ps Rs : List P3} (h : Tu H vs Ps) (k : Tu H ws Rs) : Tu H (vs ++ ws) (Ps ++ Rs) := by
  induction h with
  | nil => exact k
  | cons h _ ih => exact .cons h ih
theorem axOf_bp {k : Nat} (i : Nat) : BP k (axOf i) := match i with
  | 0 => ⟨bd1, bd0, bd0⟩
  | 1 => ⟨bd0, bd1, bd0⟩
  | _ + 2 => ⟨bd0, bd0, bd1⟩
theorem sd_end {l : P3} {j : Nat} (hj : j < 3) (nz : cmp l j ≠ 0) : ∃ (u v : P3) (k : Int), sd l j 3 = [u, v] ∧ k ≠ 0 ∧ cr u v = tm k l ∧ (∀ b, BP b l → BP (b + 1) u ∧ BP (b + 1) v) := by
  have bb : ∀ {b : Nat} (i : Nat), BP b l → BP (b + 1) (cr l (axOf i)) := fun i h => (bd_cr2 h (axOf_bp (k := 0) i)).mono'
  obtain rfl | rfl | rfl : j = 0 ∨ j = 1 ∨ j = 2 := by omega
  · refine ⟨cr l (axOf 1), cr l (axOf 2), l.x, rfl, nz, ?_, fun b h => ⟨bb 1 h, bb 2 h⟩⟩
    rw [cr_cr]
    congr 1
    simp [rp, cr, axOf]
  · refine ⟨cr l (axOf 0), cr l (axOf 2), -l.y, rfl, fun z => nz (by show l.y = 0; omega), ?_, fun b h => ⟨bb 0 h, bb 2 h⟩⟩
    rw [cr_cr]
    congr 1
    simp [rp, cr, axOf]
  · refine ⟨cr l (axOf 0), cr l (axOf 1), l.z, rfl, nz, ?_, fun b h => ⟨bb 0 h, bb 1 h⟩⟩
    rw [cr_cr]
    congr 1
    simp [rp, cr, axOf]
theorem lasts_hd {l : P3} (h : N3 l) : ∃ (j : Nat) (ms : List Int), lasts l = (j : Int) :: ms ∧ j < 3 ∧ cmp l j ≠ 0 := by
  unfold lasts
  unfold N3 at h
  by_cases c1 : l.x = 0
  · by_cases c2 : l.y = 0
    · have c3 : l.z ≠ 0 := by omega
      exact ⟨2, [], by simp [c1, c2, c3], by omega, c3⟩
    · exact ⟨1, if l.z ≠ 0 then [2] else [], by simp [c1, c2], by omega, c2⟩
  · exact ⟨0, (if l.y ≠ 0 then [1] else []) ++ if l.z ≠ 0 then [2] else [], by simp [c1], by omega, c1⟩
def spMany : Sp := fun vs H Q _ => ∃ (q lr : Addr) (F : F6) (l : P3) (Ps : List P3), vs = [.ref q, .ref lr] ∧ S6 H q F ∧ S3 H lr l ∧ BF 100 F ∧ BP 170 l ∧ N3 l ∧ Met F l Ps ∧ ∀ H', Same H H' → Q (.int Ps.length) H'
def spRight : Sp := fun vs H Q _ => ∃ (f q lr : Addr) (F : F6) (l : P3) (ws : List V) (Ps : List P3), vs = [.ref f, .ref q, .ref lr] ∧ S6 H q F ∧ S3 H lr l ∧ BF 100 F ∧ BP 170 l ∧ N3 l ∧ Met F l Ps ∧ H f = some (.lst ws) ∧ Tu H ws Ps ∧ (∀ P ∈ Ps, BP 900 P) ∧ ∀ H', Same H H' → Q (.bl true) H'
def sqf (t : T3) (c1 c2 : Int) : F6 :=
  let s (a b c d e f : Int) : Int := a * b + c1 * c * d + c2 * e * f
  ⟨s t.r0.x t.r0.x t.r1.x t.r1.x t.r2.x t.r2.x, s t.r0.y t.r0.y t.r1.y t.r1.y t.r2.y t.r2.y, s t.r0.z t.r0.z t.r1.z t.r1.z t.r2.z t.r2.z, s t.r0.y t.r0.z t.r1.y t.r1.z t.r2.y t.r2.z * 2, s t.r0.x t.r0.z t.r1.x t.r1.z t.r2.x t.r2.z * 2, s t.r0.x t.r0.y t.r1.x t.r1.y t.r2.x t.r2.y * 2⟩
theorem sz_sqf (t : T3) (c1 c2 : Int) : sz (sqf t c1 c2) = 4 * c1 * c2 * (me t * me t) := by
  simp only [sz, sqf, me, rp, cr]
  grind
def spSqs : Sp := fun vs H Q _ => ∃ (p : Addr) (t : T3) (n : Int), vs = [.ref p, .int n] ∧ LT H p t ∧ BT 14 t ∧ ∀ (r : Addr) (H' : Hp) (c1 c2 : Int), Same H H' → S6 H' r (sqf t c1 c2) → BF 50 (sqf t c1 c2) → c1 ≠ 0 → c2 ≠ 0 → Q (.ref r) H'
def rw3 (t : T3) (i : Nat) : P3 := match i with
  | 0 => t.r0
  | 1 => t.r1
  | _ => t.r2
def kj (i : Nat) : Nat × Nat := match i with
  | 0 => (0, 0)
  | 1 => (1, 1)
  | 2 => (2, 2)
  | 3 => (1, 2)
  | 4 => (0, 2)
  | _ => (0, 1)
def sm3 (c1 c2 : Int) (i : Nat) : Int := match i with
  | 0 => 1
  | 1 => c1
  | _ => c2
def cfP (t : T3) (c1 c2 : Int) (i m : Nat) : Int := sm3 c1 c2 m * cmp (rw3 t m) (kj i).1 * cmp (rw3 t m) (kj i).2
def cf (t : T3) (c1 c2 : Int) (i : Nat) : Int := [cfP t c1 c2 i 0, cfP t c1 c2 i 1, cfP t c1 c2 i 2].sum * (1 + if (!decide (V.int (kj i).1 = V.int (kj i).2)) = true then 1 else 0)
theorem cf_all (t : T3) (c1 c2 : Int) : cf t c1 c2 0 = (sqf t c1 c2).a ∧ cf t c1 c2 1 = (sqf t c1 c2).b ∧ cf t c1 c2 2 = (sqf t c1 c2).c ∧ cf t c1 c2 3 = (sqf t c1 c2).d ∧ cf t c1 c2 4 = (sqf t c1 c2).e ∧ cf t c1 c2 5 = (sqf t c1 c2).f := by
  have e0 : ∀ a b c : Int, [a, b, c].sum = a + b + c := fun a b c => by
    show a + (b + (c + 0)) = _
    omega
  have k : ∀ i, cf t c1 c2 i = (cfP t c1 c2 i 0 + cfP t c1 c2 i 1 + cfP t c1 c2 i 2) * (1 + if (!decide (V.int (kj i).1 = V.int (kj i).2)) = true then 1 else 0) := fun i => by
    unfold cf
    rw [e0]
  have ne : ∀ a b : Int, a ≠ b → (!decide (V.int a = V.int b)) = true := fun a b h => by
    rw [decide_eq_false (fun z => h (V.int.inj z))]
    rfl
  refine ⟨?_, ?_, ?_, ?_, ?_, ?_⟩ <;> rw [k]
  · show (1 * t.r0.x * t.r0.x + c1 * t.r1.x * t.r1.x + c2 * t.r2.x * t.r2.x) * (1 + 0) = t.r0.x * t.r0.x + c1 * t.r1.x * t.r1.x + c2 * t.r2.x * t.r2.x
    grind
  · show (1 * t.r0.y * t.r0.y + c1 * t.r1.y * t.r1.y + c2 * t.r2.y * t.r2.y) * (1 + 0) = t.r0.y * t.r0.y + c1 * t.r1.y * t.r1.y + c2 * t.r2.y * t.r2.y
    grind
  · show (1 * t.r0.z * t.r0.z + c1 * t.r1.z * t.r1.z + c2 * t.r2.z * t.r2.z) * (1 + 0) = t.r0.z * t.r0.z + c1 * t.r1.z * t.r1.z + c2 * t.r2.z * t.r2.z
    grind
  · rw [if_pos (ne _ _ (show ((kj 3).1 : Int) ≠ ((kj 3).2 : Int) by decide))]
    show (1 * t.r0.y * t.r0.z + c1 * t.r1.y * t.r1.z + c2 * t.r2.y * t.r2.z) * (1 + 1) = (t.r0.y * t.r0.z + c1 * t.r1.y * t.r1.z + c2 * t.r2.y * t.r2.z) * 2
    grind
  · rw [if_pos (ne _ _ (show ((kj 4).1 : Int) ≠ ((kj 4).2 : Int) by decide))]
    show (1 * t.r0.x * t.r0.z + c1 * t.r1.x * t.r1.z + c2 * t.r2.x * t.r2.z) * (1 + 1) = (t.r0.x * t.r0.z + c1 * t.r1.x * t.r1.z + c2 * t.r2.x * t.r2.z) * 2
    grind
  · rw [if_pos (ne _ _ (show ((kj 5).1 : Int) ≠ ((kj 5).2 : Int) by decide))]
    show (1 * t.r0.x * t.r0.y + c1 * t.r1.x * t.r1.y + c2 * t.r2.x * t.r2.y) * (1 + 1) = (t.r0.x * t.r0.y + c1 * t.r1.x * t.r1.y + c2 * t.r2.x * t.r2.y) * 2
    grind
theorem bf_sqf {t : T3} {c1 c2 : Int} (h : BT 14 t) (h1 : Bd 4 c1) (h2 : Bd 4 c2) : BF 50 (sqf t c1 c2) := by
  have s : ∀ {a b c d e f : Int}, Bd 14 a → Bd 14 b → Bd 14 c → Bd 14 d → Bd 14 e → Bd 14 f → Bd 48 (a * b + c1 * c * d + c2 * e * f) := fun ha hb hc hd he hf =>
    ((((ha.mul hb).mono (by omega : 14 + 14 ≤ 46)).add (((h1.mul hc).mul hd).mono (by omega))).add (((h2.mul he).mul hf).mono (by omega))).mono (by omega)
  have d : ∀ {x : Int}, Bd 48 x → Bd 50 (x * 2) := fun {x} hx => by
    rw [Int.mul_comm]
    exact (bd_two hx).mono (by omega)
  exact ⟨(s h.r0.x h.r0.x h.r1.x h.r1.x h.r2.x h.r2.x).mono (by omega), (s h.r0.y h.r0.y h.r1.y h.r1.y h.r2.y h.r2.y).mono (by omega), (s h.r0.z h.r0.z h.r1.z h.r1.z h.r2.z h.r2.z).mono (by omega), d (s h.r0.y h.r0.z h.r1.y h.r1.z h.r2.y h.r2.z), d (s h.r0.x h.r0.z h.r1.x h.r1.z h.r2.x h.r2.z), d (s h.r0.x h.r0.y h.r1.x h.r1.y h.r2.x h.r2.y)⟩
def Sx (l : Addr) (H H' : Hp) : Prop := ∀ b o, b ≠ l → H b = some o → H' b = some o
theorem _root_.Pn.Met.only {F : F6} {l X : P3} {ps : List P3} (h : Met F l ps) (hX : On F l X) (k : ∀ Z, On F l Z → Z = X) : ps = [X] := by
  have m := (h.on X).mp hX
  cases h with
  | none _ _ => simp at m
  | one _ _ => simp at m; rw [m]
  | @two A B _ _ lt o =>
    have h1 := k A ((o A).mpr (.inl rfl))
    have h2 := k B ((o B).mpr (.inr rfl))
    rw [h1, h2] at lt
    exact absurd lt (lt3_irr _)
theorem tan_on {F : F6} {X : P3} (lX : L3 X) (w : wo F X = 0) : On F (tb (sl F) X) X := by
  refine ⟨lX, ?_, w⟩
  have z := wo_two F X
  unfold bl at z
  omega
theorem tan_only {F : F6} {X Z : P3} (hs : sz F ≠ 0) (lX : L3 X) (w : wo F X = 0) (h : On F (tb (sl F) X) Z) : Z = X := by
  obtain ⟨lZ, r, wz⟩ := h
  apply Classical.byContradiction
  intro c
  refine no_line hs (P := X) (D := Z) ?_ w wz r
  apply Classical.byContradiction
  intro n
  exact c (low_uniq lX lZ (n3_not n)).symm
theorem lt3_tri {X Y : P3} (h : X ≠ Y) (n : ¬ lt3 Y X) : lt3 X Y := by
  have : ¬ (X.x = Y.x ∧ X.y = Y.y ∧ X.z = Y.z) := fun z => h (P3.ext' z)
  unfold lt3 at *
  omega
theorem cr_on {F : F6} {X Y : P3} (lX : L3 X) (lY : L3 Y) (wX : wo F X = 0) (wY : wo F Y = 0) : On F (cr X Y) X ∧ On F (cr X Y) Y := by
  refine ⟨⟨lX, ?_, wX⟩, ⟨lY, ?_, wY⟩⟩ <;> simp only [rp, cr] <;> grind
theorem tan_nz {F : F6} {X : P3} (hs : sz F ≠ 0) (lX : L3 X) : N3 (tb (sl F) X) := by
  have := ln_nz hs lX lX
  unfold ln at this
  rwa [if_pos rfl] at this
def Due (H : Hp) (v : V) (F : F6) (l : P3) : Prop := v = .non ∨ ∃ (du : Addr) (vs : List V) (Ds : List P3), v = .ref du ∧ H du = some (.lst vs) ∧ Tu H vs Ds ∧ N3 l ∧ ∀ Ps, Met F l Ps → Ps = Ds
theorem Due.mono {H H' : Hp} {v : V} {F : F6} {l : P3} (g : Same H H') (h : Due H v F l) : Due H' v F l := by
  rcases h with h | ⟨du, vs, Ds, e, h1, h2, h3, h4⟩
  · exact .inl h
  · exact .inr ⟨du, vs, Ds, e, g _ _ h1, h2.mono g, h3, h4⟩
theorem eqvL {F : F6} {l : P3} {Ps : List P3} (M : Met F l Ps) : PyData.eqv (.list (Ps.map d3)) (.list (Ps.map d3)) = true ∧ SeqAt.shaped (.list (Ps.map d3)) = true := by
  have r : ∀ P : P3, PyData.eqv (d3 P) (d3 P) = true := fun P => by rw [eqv3]; simp
  cases M with
  | none _ _ => exact ⟨rfl, rfl⟩
  | @one P _ _ =>
    refine ⟨?_, rfl⟩
    show (PyData.eqv (d3 P) (d3 P) && true) = true
    rw [r]
    rfl
  | @two P R _ _ _ _ =>
    refine ⟨?_, rfl⟩
    show (PyData.eqv (d3 P) (d3 P) && (PyData.eqv (d3 R) (d3 R) && true)) = true
    rw [r, r]
    rfl
theorem in_bp {M x : Int} (h : 0 ≤ M) (h2 : M ≤ 1000000) : Bd 20 (x % (2 * M + 1) - M) := bd20 (by have := mod_in (n := x) h; omega)

section
variable {P : Program} {w : World} {K : PySem.W.Frag} {mg : Str → Option Value} {base : Heap} {t : Adr}
theorem sc_shares_of : FnScope ["one", "other", "upper", "lower", "below"] ["one", "other"] (defScope s_shares_of) := ⟨rfl, rfl, rfl, by decide +kernel, rfl, by decide +kernel, by decide +kernel⟩
theorem sc_row_less : FnScope ["row", "taken", "times"] ["row", "taken", "times"] (defScope s_row_less) := ⟨rfl, rfl, rfl, by decide +kernel, rfl, by decide +kernel, by decide +kernel⟩
theorem sc_root_of : FnScope ["number", "guess"] ["number"] (defScope s_root_of) := ⟨rfl, rfl, rfl, by decide +kernel, rfl, by decide +kernel, by decide +kernel⟩
theorem sc_above_root : FnScope ["number", "guess"] ["number"] (defScope s_above_root) := ⟨rfl, rfl, rfl, by decide +kernel, rfl, by decide +kernel, by decide +kernel⟩
theorem sc_worth_of : FnScope ["Q", "P", "products"] ["Q", "P"] (defScope s_worth_of) := ⟨rfl, rfl, rfl, by decide +kernel, rfl, by decide +kernel, by decide +kernel⟩
theorem sc_size_of : FnScope ["Q"] ["Q"] (defScope s_size_of) := ⟨rfl, rfl, rfl, by decide +kernel, rfl, by decide +kernel, by decide +kernel⟩
theorem sc_lowest_point : FnScope ["P", "divisor"] ["P"] (defScope s_lowest_point) := ⟨rfl, rfl, rfl, by decide +kernel, rfl, by decide +kernel, by decide +kernel⟩
theorem sc_refuse_flat : FnScope ["Q"] ["Q"] (defScope s_refuse_flat) := ⟨rfl, rfl, rfl, by decide +kernel, rfl, by decide +kernel, by decide +kernel⟩
theorem sc_slopes_of : FnScope ["Q"] ["Q"] (defScope s_slopes_of) := ⟨rfl, rfl, rfl, by decide +kernel, rfl, by decide +kernel, by decide +kernel⟩
theorem sc_turned_by : FnScope ["table", "P"] ["table", "P"] (defScope s_turned_by) := ⟨rfl, rfl, rfl, by decide +kernel, rfl, by decide +kernel, by decide +kernel⟩
theorem sc_added : FnScope ["one", "other"] ["one", "other"] (defScope s_added) := ⟨rfl, rfl, rfl, by decide +kernel, rfl, by decide +kernel, by decide +kernel⟩
theorem sc_stretched : FnScope ["P", "times"] ["P", "times"] (defScope s_stretched) := ⟨rfl, rfl, rfl, by decide +kernel, rfl, by decide +kernel, by decide +kernel⟩
theorem sc_row_product : FnScope ["row", "P"] ["row", "P"] (defScope s_row_product) := ⟨rfl, rfl, rfl, by decide +kernel, rfl, by decide +kernel, by decide +kernel⟩
theorem sc_crossing_of : FnScope ["one", "other"] ["one", "other"] (defScope s_crossing_of) := ⟨rfl, rfl, rfl, by decide +kernel, rfl, by decide +kernel, by decide +kernel⟩
theorem sc_corners_on : FnScope ["Q", "line", "first"] ["Q", "line"] (defScope s_corners_on) := ⟨rfl, rfl, rfl, by decide +kernel, rfl, by decide +kernel, by decide +kernel⟩
theorem sc_off_curve : FnScope ["Q", "points", "tried", "one"] ["Q", "points"] (defScope s_off_curve) := ⟨rfl, rfl, rfl, by decide +kernel, rfl, by decide +kernel, by decide +kernel⟩
theorem sc_line_met : FnScope ["Q", "line", "corners", "worth", "square", "root", "end"] ["Q", "line"] (defScope s_line_met) := ⟨rfl, rfl, rfl, by decide +kernel, rfl, by decide +kernel, by decide +kernel⟩
theorem sc_cell_at : FnScope ["_law_script", "_law_k"] ["_law_script", "_law_k"] (defScope s_cell_at) := ⟨rfl, rfl, rfl, by decide +kernel, rfl, by decide +kernel, by decide +kernel⟩
theorem sc_shared : FnScope ["_law_numbers", "_law_found", "_law_number", "_law_rest"] ["_law_numbers"] (defScope s_shared) := ⟨rfl, rfl, rfl, by decide +kernel, rfl, by decide +kernel, by decide +kernel⟩
theorem sc_lowest : FnScope ["_law_numbers", "_law_share", "_law_first"] ["_law_numbers"] (defScope s_lowest) := ⟨rfl, rfl, rfl, by decide +kernel, rfl, by decide +kernel, by decide +kernel⟩
theorem sc_beside : FnScope ["_law_one", "_law_other", "_law_x", "_law_y"] ["_law_one", "_law_other"] (defScope s_beside) := ⟨rfl, rfl, rfl, by decide +kernel, rfl, by decide +kernel, by decide +kernel⟩
theorem sc_dot : FnScope ["_law_one", "_law_other"] ["_law_one", "_law_other"] (defScope s_dot) := ⟨rfl, rfl, rfl, by decide +kernel, rfl, by decide +kernel, by decide +kernel⟩
theorem sc_rows : FnScope ["_law_script", "_law_start", "_law_way", "_law_great", "_law_most", "_law_cells", "_law_some", "_law_rows_here"] ["_law_script", "_law_start", "_law_way", "_law_great"] (defScope s_rows) := ⟨rfl, rfl, rfl, by decide +kernel, rfl, by decide +kernel, by decide +kernel⟩
theorem sc_form : FnScope ["_law_rows_here", "_law_times_here", "_law_found", "_law_one", "_law_two", "_law_three", "_law_k", "_law_j", "_law_both"] ["_law_rows_here", "_law_times_here"] (defScope s_form) := ⟨rfl, rfl, rfl, by decide +kernel, rfl, by decide +kernel, by decide +kernel⟩
theorem sc_spot : FnScope ["_law_rows_here", "_law_s", "_law_t", "_law_sides", "_law_found", "_law_j", "_law_one", "_law_two", "_law_three", "_law_total"] ["_law_rows_here", "_law_s", "_law_t"] (defScope s_spot) := ⟨rfl, rfl, rfl, by decide +kernel, rfl, by decide +kernel, by decide +kernel⟩
theorem sc_worth : FnScope ["_law_form_here", "_law_spot_here", "_law_total", "_law_a", "_law_b", "_law_c", "_law_d", "_law_e", "_law_f", "_law_x", "_law_y", "_law_z"] ["_law_form_here", "_law_spot_here"] (defScope s_worth) := ⟨rfl, rfl, rfl, by decide +kernel, rfl, by decide +kernel, by decide +kernel⟩
theorem sc_cross : FnScope ["_law_form_here", "_law_one", "_law_other", "_law_both"] ["_law_form_here", "_law_one", "_law_other"] (defScope s_cross) := ⟨rfl, rfl, rfl, by decide +kernel, rfl, by decide +kernel, by decide +kernel⟩
theorem sc_is_spot : FnScope ["_law_found"] ["_law_found"] (defScope s_is_spot) := ⟨rfl, rfl, rfl, by decide +kernel, rfl, by decide +kernel, by decide +kernel⟩
theorem sc_times : FnScope ["_law_cell"] ["_law_cell"] (defScope s_times) := ⟨rfl, rfl, rfl, by decide +kernel, rfl, by decide +kernel, by decide +kernel⟩
theorem sc_pair : FnScope ["_law_one", "_law_other", "_law_way", "_law_most", "_law_s", "_law_t"] ["_law_one", "_law_other", "_law_way"] (defScope s_pair) := ⟨rfl, rfl, rfl, by decide +kernel, rfl, by decide +kernel, by decide +kernel⟩
theorem sc_root : FnScope ["_law_number", "_law_found", "_law_step"] ["_law_number"] (defScope s_root) := ⟨rfl, rfl, rfl, by decide +kernel, rfl, by decide +kernel, by decide +kernel⟩
theorem sc_many : FnScope ["_law_form_here", "_law_line", "_law_at", "_law_sides", "_law_a", "_law_c", "_law_b", "_law_under", "_law_root_here"] ["_law_form_here", "_law_line"] (defScope s_many) := ⟨rfl, rfl, rfl, by decide +kernel, rfl, by decide +kernel, by decide +kernel⟩
theorem sc_right : FnScope ["_law_found", "_law_form_here", "_law_line", "_law_spot_here"] ["_law_found", "_law_form_here", "_law_line"] (defScope s_right) := ⟨rfl, rfl, rfl, by decide +kernel, rfl, by decide +kernel, by decide +kernel⟩
theorem sc_squares : FnScope ["_law_rows_here", "_law_number", "_law_some", "_law_found", "_law_k", "_law_j", "_law_total"] ["_law_rows_here", "_law_number"] (defScope s_squares) := ⟨rfl, rfl, rfl, by decide +kernel, rfl, by decide +kernel, by decide +kernel⟩
theorem sc_slope : FnScope ["_law_form_here", "_law_spot_here", "_law_a", "_law_b", "_law_c", "_law_d", "_law_e", "_law_f", "_law_x", "_law_y", "_law_z"] ["_law_form_here", "_law_spot_here"] (defScope s_slope) := ⟨rfl, rfl, rfl, by decide +kernel, rfl, by decide +kernel, by decide +kernel⟩
theorem sc_law : FnScope ["_law_script", "_law_way", "_law_rows_here", "_law_form_here", "_law_spot_here", "_law_other", "_law_kind", "_law_due", "_law_line", "_law_found", "_law_over", "_law_kept", "_law_s", "_law_t", "_law_u", "_law_v", "_law_most", "_law_some"] ["_law_script"] (defScope s_law) := ⟨rfl, rfl, rfl, by decide +kernel, rfl, by decide +kernel, by decide +kernel⟩
theorem ok_cell_at {f : Addr} {fd : FuncData} (F : Fun K "_law_cell_at" "_law_cell_at" s_cell_at f fd) (T : Txt K mg t)  : FnOk P w K mg base CX0 1 f fd ["_law_script", "_law_k"] (spCell K) := by
  refine F.ok sc_cell_at (fun vs H Q E h => ?_) (fun cdv A outer s H vs Q E hr h => ?_)
  · obtain ⟨a, ns, k, rfl, _⟩ := h
    rfl
  obtain ⟨a, ns, k, rfl, hS, h0, q⟩ := h
  refine ⟨_, pss_cons (ps_if (pt_cmpR op_lt (pv 1) (pe_callB call_len_seq rfl T.z_len PySem.boot_len (pa_cons (pv 0) pa_nil)) (nomark _)) (pss_one (ps_ret (pe_ix ix_list (pv 0) (pv 1) (fun _ _ => rfl)))) pss_nil)
    (pss_one (ps_ret pe_int)), ?_⟩
  refine ⟨_, rfl, _, rfl, a, _, rfl, .inl hS, _, _, rfl, rfl, _, rfl, ?_⟩
  refine ite2 (fun c => ?_) (fun c => ?_)
  · exact ⟨_, rfl, _, rfl, a, _, _, _, rfl, rfl, hS, cell_in h0 (decT c), q⟩
  · have e := cell_out (decF c) h0
    rw [e] at q
    exact q

theorem ok_row_less {f : Addr} {fd : FuncData} (F : Fun K "row_less" "row_less" s_row_less f fd) (T : Txt K mg t)  : FnOk P w K mg base CX0 1 f fd ["row", "taken", "times"] (spRow) := by
  refine F.ok sc_row_less (fun vs H Q E h => ?_) (fun cdv A outer s H vs Q E hr h => ?_)
  · obtain ⟨_, _, _, _, _, _, _, _, _, rfl, _⟩ := h
    rfl
  obtain ⟨pa, pb, x, s', t', y, u, v, k, rfl, ha, hb, m1, m2, m3, q⟩ := h
  refine ⟨_, pss_one (ps_ret (pe_tup (pa_cons (pe_op op_sub (pe_ix ix_tup (pv 0) pe_int (fun _ _ => rfl)) (pe_op op_mulG (pv 2) (pe_ix ix_tup (pv 1) pe_int (fun _ _ => rfl)))) (pa_cons (pe_op op_sub (pe_ix ix_tup (pv 0) pe_int (fun _ _ => rfl)) (pe_op op_mulG (pv 2) (pe_ix ix_tup (pv 1) pe_int (fun _ _ => rfl)))) (pa_cons (pe_op op_sub (pe_ix ix_tup (pv 0) pe_int (fun _ _ => rfl)) (pe_op op_mulG (pv 2) (pe_ix ix_tup (pv 1) pe_int (fun _ _ => rfl)))) pa_nil))))), ?_⟩
  exact ⟨_, rfl, pa, _, _, _, rfl, rfl, SqT.of ha, rfl, _, rfl, _, rfl, pb, _, _, _, rfl, rfl, SqT.of hb, rfl, _, _, rfl, rfl, m1, _, _, rfl, rfl,
    _, rfl, pa, _, _, _, rfl, rfl, SqT.of ha, rfl, _, rfl, _, rfl, pb, _, _, _, rfl, rfl, SqT.of hb, rfl, _, _, rfl, rfl, m2, _, _, rfl, rfl,
    _, rfl, pa, _, _, _, rfl, rfl, SqT.of ha, rfl, _, rfl, _, rfl, pb, _, _, _, rfl, rfl, SqT.of hb, rfl, _, _, rfl, rfl, m3, _, _, rfl, rfl,
    (by show 3 ≤ sizeLine; decide), fun p np => q p _ (same_new np _) upd_same⟩
theorem ok_shares_of {f : Addr} {fd : FuncData} (F : Fun K "shares_of" "shares_of" s_shares_of f fd) (T : Txt K mg t) (H_row_less : Has P w K mg base CX0 1 "row_less" ["row", "taken", "times"] (spRow)) : FnOk P w K mg base CX0 2 f fd ["one", "other"] (spShares) := by
  obtain ⟨f_row_less, d_row_less, G_row_less, b_row_less, k_row_less, m_row_less⟩ := H_row_less
  refine F.ok sc_shares_of (fun vs H Q E h => ?_) (fun cdv A outer s H vs Q E hr h => ?_)
  · obtain ⟨x, y, rfl, _⟩ := h
    rfl
  obtain ⟨x, y, rfl, hx, hy, q⟩ := h
  have hr_row_less := hr.mono (show 1 ≤ 1 by decide)
  refine ⟨_, pss_cons (ps_set (i := 2) sc_shares_of.nd rfl (Or.inl rfl) (pe_tup (pa_cons (pv 0) (pa_cons pe_int (pa_cons pe_int pa_nil)))))
    (pss_cons (ps_set (i := 3) sc_shares_of.nd rfl (Or.inl rfl) (pe_tup (pa_cons (pv 1) (pa_cons pe_int (pa_cons pe_int pa_nil)))))
    (pss_cons (ps_while PassesOwn.never (pt_cmpR op_ne (pe_ix ix_tup (pv 3) pe_int (fun _ _ => rfl)) pe_int (nomark _)) (pss_cons (ps_set (i := 4) sc_shares_of.nd rfl (Or.inl rfl) (pe_call G_row_less hr_row_less rfl m_row_less k_row_less b_row_less .nil pass0 (pa_cons (pv 2) (pa_cons (pv 3) (pa_cons (pe_op op_fdivL (pe_ix ix_tup (pv 2) pe_int (fun _ _ => rfl)) (pe_ix ix_tup (pv 3) pe_int (fun _ _ => rfl))) pa_nil)))))
    (pss_cons (ps_set (i := 2) sc_shares_of.nd rfl (Or.inl rfl) (pv 3))
    (pss_one (ps_set (i := 3) sc_shares_of.nd rfl (Or.inl rfl) (pv 4))))))
    (pss_cons (ps_if (pt_cmpR op_lt (pe_ix ix_tup (pv 2) pe_int (fun _ _ => rfl)) pe_int (nomark _)) (pss_one (ps_ret (pe_tup (pa_cons (pe_un un_neg (pe_ix ix_tup (pv 2) pe_int (fun _ _ => rfl))) (pa_cons (pe_un un_neg (pe_ix ix_tup (pv 2) pe_int (fun _ _ => rfl))) (pa_cons (pe_un un_neg (pe_ix ix_tup (pv 2) pe_int (fun _ _ => rfl))) pa_nil)))))) pss_nil)
    (pss_one (ps_ret (pv 2)))))), ?_⟩
  have B4 : ((x.natAbs : Int) + 2 * y.natAbs + 1).natAbs ≤ 4 * Lm := by
    have := Lm_pos
    omega
  have sz0 := Sh.sz_start (x := x) (y := y)
  generalize ((x.natAbs : Int) + 2 * y.natAbs + 1) = B at B4 sz0
  refine ⟨_, rfl, (by show 3 ≤ sizeLine; decide), fun p1 n1 => ?_⟩
  refine ⟨_, rfl, (by show 3 ≤ sizeLine; decide), fun p2 n2 => ?_⟩
  refine ⟨fun m σ H' => ∃ (pa pb : Addr) (a s t b u v : Int) (be : Option V), σ = [some (.int x), some (.int y), some (.ref pa), some (.ref pb), be] ∧ Same H H' ∧ H' pa = some (.tup [.int a, .int s, .int t]) ∧ H' pb = some (.tup [.int b, .int u, .int v]) ∧
    Sh.Rows x y a s t b u v ∧ Sh.Sz B a s t b u v ∧ m = b.natAbs, ⟨_, p1, p2, _, _, _, _, _, _, none, rfl, (same_new n1 _).trans (same_new n2 _), same_new n2 _ _ _ upd_same, upd_same, Sh.rows_start x y, sz0, rfl⟩, ?_⟩
  clear sz0 n1 n2 p1 p2
  rintro m σ H1 ⟨pa, pb, a, s', t', b, u, v, be, rfl, g, ha, hb, rws, sz, rfl⟩
  refine ⟨_, rfl, pb, _, _, _, rfl, rfl, SqT.of hb, rfl, rfl, _, rfl, ?_⟩
  refine ite2 (fun c => ?_) (fun c => ?_)
  · have b0 : b ≠ 0 := fun z => neT c (congrArg V.int z)
    have sz' := Sh.sz_turn sz b0 (a.fdiv b) (a.fmod b) (Sh.quot a b) rfl
    have rw' := Sh.rows_turn rws (a.fdiv b)
    rw [fdiv_rest] at rw'
    have qs : (a.fdiv b).natAbs ≤ 8 * Lm := by
      have e : a.fdiv b * b = a - a.fmod b := by have := fdiv_rest a b; omega
      have h1 : (a.fdiv b).natAbs ≤ (a.fdiv b * b).natAbs := by
        rw [Int.natAbs_mul]
        exact Nat.le_mul_of_pos_right _ (by omega)
      rw [e] at h1
      have h2 := sz.a0
      have h3 := sz'.b0
      omega
    refine ⟨fun σ' H2 => ∃ pc : Addr, σ' = [some (.int x), some (.int y), some (.ref pb), some (.ref pc), some (.ref pc)] ∧ Same H1 H2 ∧ H2 pc = some (.tup [.int (a - a.fdiv b * b), .int (s' - a.fdiv b * u), .int (t' - a.fdiv b * v)]), ?_, ?_⟩
    · rintro σ' H2 ⟨pc, rfl, g2, hc⟩
      rw [fdiv_rest] at hc
      exact ⟨(a.fmod b).natAbs, Sh.fmod_abs b0, pb, pc, b, u, v, _, _, _, _, rfl, g.trans g2, g2 _ _ hb, hc, rw', sz', rfl⟩
    · have z1 := sz.b0
      have z2 := sz.u0
      have z3 := sz.v0
      refine ⟨_, rfl, _, rfl, _, rfl, pa, _, _, _, rfl, rfl, SqT.of ha, rfl, _, rfl, pb, _, _, _, rfl, rfl, SqT.of hb, rfl, _, _, rfl, rfl, ⟨b0, Lm_log (by omega)⟩,
        pa, pb, a, s', t', b, u, v, _, rfl, ha, hb, mulL qs (by omega), mulL qs (by omega), mulL qs (by omega), fun pc H2 g2 hc => ?_⟩
      exact ⟨_, rfl, _, rfl, pc, rfl, g2, hc⟩
  · have b0 : b = 0 := int_inj (neF c)
    obtain ⟨e1, ⟨k1, e2⟩, ⟨k2, e3⟩⟩ := Sh.rows_end rws b0
    have z2 := sz.s0
    have z3 := sz.t0
    refine ⟨_, rfl, pa, _, _, _, rfl, rfl, SqT.of ha, rfl, _, _, rfl, rfl, _, rfl, ?_⟩
    refine ite2 (fun c => ?_) (fun c => ?_)
    · have a0 : a < 0 := decT c
      refine ⟨_, rfl, pa, _, _, _, rfl, rfl, SqT.of ha, rfl, _, rfl, _, rfl, pa, _, _, _, rfl, rfl, SqT.of ha, rfl, _, rfl, _, rfl, pa, _, _, _, rfl, rfl, SqT.of ha, rfl, _, rfl, (by show 3 ≤ sizeLine; decide), fun p np => ?_⟩
      exact q p _ (-a) (-s') (-t') (g.trans (same_new np _)) upd_same (by omega) (by rw [Int.neg_mul, Int.neg_mul]; omega) ⟨-k1, by rw [Int.neg_mul_neg]; exact e2⟩ ⟨-k2, by rw [Int.neg_mul_neg]; exact e3⟩ (by omega) (by omega)
    · have a0 : ¬ a < 0 := decF c
      exact ⟨_, rfl, q pa H1 a s' t' g ha (by omega) e1 ⟨k1, e2⟩ ⟨k2, e3⟩ (by omega) (by omega)⟩
theorem ok_slopes_of {f : Addr} {fd : FuncData} (F : Fun K "slopes_of" "slopes_of" s_slopes_of f fd) (T : Txt K mg t)  : FnOk P w K mg base CX0 1 f fd ["Q"] (spSl) := by
  refine F.ok sc_slopes_of (fun vs H Q E h => ?_) (fun cdv A outer s H vs Q E hr h => ?_)
  · obtain ⟨_, _, rfl, _⟩ := h
    rfl
  obtain ⟨p, F, rfl, hp, q⟩ := h
  unfold S6 at hp
  refine ⟨_, pss_one (ps_ret (pe_tup (pa_cons (pe_tup (pa_cons (pe_op op_mulG pe_int (pe_ix ix_tup (pv 0) pe_int (fun _ _ => rfl))) (pa_cons (pe_ix ix_tup (pv 0) pe_int (fun _ _ => rfl)) (pa_cons (pe_ix ix_tup (pv 0) pe_int (fun _ _ => rfl)) pa_nil)))) (pa_cons (pe_tup (pa_cons (pe_ix ix_tup (pv 0) pe_int (fun _ _ => rfl)) (pa_cons (pe_op op_mulG pe_int (pe_ix ix_tup (pv 0) pe_int (fun _ _ => rfl))) (pa_cons (pe_ix ix_tup (pv 0) pe_int (fun _ _ => rfl)) pa_nil)))) (pa_cons (pe_tup (pa_cons (pe_ix ix_tup (pv 0) pe_int (fun _ _ => rfl)) (pa_cons (pe_ix ix_tup (pv 0) pe_int (fun _ _ => rfl)) (pa_cons (pe_op op_mulG pe_int (pe_ix ix_tup (pv 0) pe_int (fun _ _ => rfl))) pa_nil)))) pa_nil))))), ?_⟩
  refine ⟨_, rfl, p, _, _, _, rfl, rfl, SqT.of hp, rfl, _, _, rfl, rfl, ok2, _, rfl, p, _, _, _, rfl, rfl, SqT.of hp, rfl, _, rfl, p, _, _, _, rfl, rfl, SqT.of hp, rfl, (by show 3 ≤ sizeLine; decide), fun p1 n1 => ?_⟩
  have h1 := same_new n1 (t3 (sl F).r0) _ _ hp
  refine ⟨_, rfl, p, _, _, _, rfl, rfl, SqT.of h1, rfl, _, rfl, p, _, _, _, rfl, rfl, SqT.of h1, rfl, _, _, rfl, rfl, ok2, _, rfl, p, _, _, _, rfl, rfl, SqT.of h1, rfl, (by show 3 ≤ sizeLine; decide), fun p2 n2 => ?_⟩
  have h2 := same_new n2 (t3 (sl F).r1) _ _ h1
  refine ⟨_, rfl, p, _, _, _, rfl, rfl, SqT.of h2, rfl, _, rfl, p, _, _, _, rfl, rfl, SqT.of h2, rfl, _, rfl, p, _, _, _, rfl, rfl, SqT.of h2, rfl, _, _, rfl, rfl, ok2, (by show 3 ≤ sizeLine; decide), fun p3 n3 => ⟨(by show 3 ≤ sizeLine; decide), fun p4 n4 => ?_⟩⟩
  have g3 := same_new n3 (t3 (sl F).r2)
  have g4 := same_new n4 (.tup [.ref p1, .ref p2, .ref p3])
  exact q p4 _ ((same_new n1 _).trans ((same_new n2 _).trans (g3.trans g4))) ⟨p1, p2, p3, upd_same, g4 _ _ (g3 _ _ (same_new n2 _ _ _ upd_same)), g4 _ _ (g3 _ _ upd_same), g4 _ _ upd_same⟩
theorem ok_size_of {f : Addr} {fd : FuncData} (F : Fun K "size_of" "size_of" s_size_of f fd) (T : Txt K mg t)  : FnOk P w K mg base CX0 1 f fd ["Q"] (spSize) := by
  refine F.ok sc_size_of (fun vs H Q E h => ?_) (fun cdv A outer s H vs Q E hr h => ?_)
  · obtain ⟨_, _, rfl, _⟩ := h
    rfl
  obtain ⟨p, F, rfl, hp, bf, q⟩ := h
  unfold S6 at hp
  refine ⟨_, pss_one (ps_ret (pe_op op_sub (pe_op op_sub (pe_op op_sub (pe_op op_add (pe_op op_mulG (pe_op op_mulG (pe_op op_mulG pe_int (pe_ix ix_tup (pv 0) pe_int (fun _ _ => rfl))) (pe_ix ix_tup (pv 0) pe_int (fun _ _ => rfl))) (pe_ix ix_tup (pv 0) pe_int (fun _ _ => rfl))) (pe_op op_mulG (pe_op op_mulG (pe_ix ix_tup (pv 0) pe_int (fun _ _ => rfl)) (pe_ix ix_tup (pv 0) pe_int (fun _ _ => rfl))) (pe_ix ix_tup (pv 0) pe_int (fun _ _ => rfl)))) (pe_op op_mulG (pe_op op_mulG (pe_ix ix_tup (pv 0) pe_int (fun _ _ => rfl)) (pe_ix ix_tup (pv 0) pe_int (fun _ _ => rfl))) (pe_ix ix_tup (pv 0) pe_int (fun _ _ => rfl)))) (pe_op op_mulG (pe_op op_mulG (pe_ix ix_tup (pv 0) pe_int (fun _ _ => rfl)) (pe_ix ix_tup (pv 0) pe_int (fun _ _ => rfl))) (pe_ix ix_tup (pv 0) pe_int (fun _ _ => rfl)))) (pe_op op_mulG (pe_op op_mulG (pe_ix ix_tup (pv 0) pe_int (fun _ _ => rfl)) (pe_ix ix_tup (pv 0) pe_int (fun _ _ => rfl))) (pe_ix ix_tup (pv 0) pe_int (fun _ _ => rfl))))), ?_⟩
  exact ⟨_, rfl, p, _, _, _, rfl, rfl, SqT.of hp, rfl, _, _, rfl, rfl, okM b4 bf.a, _, rfl, p, _, _, _, rfl, rfl, SqT.of hp, rfl, _, _, rfl, rfl, okM (b4.mul bf.a) bf.b, _, rfl, p, _, _, _, rfl, rfl, SqT.of hp, rfl, _, _, rfl, rfl, okM ((b4.mul bf.a).mul bf.b) bf.c,
    _, rfl, p, _, _, _, rfl, rfl, SqT.of hp, rfl, _, rfl, p, _, _, _, rfl, rfl, SqT.of hp, rfl, _, _, rfl, rfl, okM bf.d bf.e, _, rfl, p, _, _, _, rfl, rfl, SqT.of hp, rfl, _, _, rfl, rfl, okM (bf.d.mul bf.e) bf.f, _, _, rfl, rfl,
    _, rfl, p, _, _, _, rfl, rfl, SqT.of hp, rfl, _, rfl, p, _, _, _, rfl, rfl, SqT.of hp, rfl, _, _, rfl, rfl, okM bf.a bf.d, _, rfl, p, _, _, _, rfl, rfl, SqT.of hp, rfl, _, _, rfl, rfl, okM (bf.a.mul bf.d) bf.d, _, _, rfl, rfl,
    _, rfl, p, _, _, _, rfl, rfl, SqT.of hp, rfl, _, rfl, p, _, _, _, rfl, rfl, SqT.of hp, rfl, _, _, rfl, rfl, okM bf.b bf.e, _, rfl, p, _, _, _, rfl, rfl, SqT.of hp, rfl, _, _, rfl, rfl, okM (bf.b.mul bf.e) bf.e, _, _, rfl, rfl,
    _, rfl, p, _, _, _, rfl, rfl, SqT.of hp, rfl, _, rfl, p, _, _, _, rfl, rfl, SqT.of hp, rfl, _, _, rfl, rfl, okM bf.c bf.f, _, rfl, p, _, _, _, rfl, rfl, SqT.of hp, rfl, _, _, rfl, rfl, okM (bf.c.mul bf.f) bf.f, _, _, rfl, rfl, q⟩
theorem ok_crossing_of {f : Addr} {fd : FuncData} (F : Fun K "crossing_of" "crossing_of" s_crossing_of f fd) (T : Txt K mg t)  : FnOk P w K mg base CX0 1 f fd ["one", "other"] (spCrK K) := by
  refine F.ok sc_crossing_of (fun vs H Q E h => ?_) (fun cdv A outer s H vs Q E hr h => ?_)
  · obtain ⟨_, _, _, _, rfl, _⟩ := h
    rfl
  obtain ⟨p, q', r, s', rfl, hp, hq, br, bs, q⟩ := h
  refine ⟨_, pss_one (ps_ret (pe_tup (pa_cons (pe_op op_sub (pe_op op_mulG (pe_ix ix_tup (pv 0) pe_int (fun _ _ => rfl)) (pe_ix ix_tup (pv 1) pe_int (fun _ _ => rfl))) (pe_op op_mulG (pe_ix ix_tup (pv 0) pe_int (fun _ _ => rfl)) (pe_ix ix_tup (pv 1) pe_int (fun _ _ => rfl)))) (pa_cons (pe_op op_sub (pe_op op_mulG (pe_ix ix_tup (pv 0) pe_int (fun _ _ => rfl)) (pe_ix ix_tup (pv 1) pe_int (fun _ _ => rfl))) (pe_op op_mulG (pe_ix ix_tup (pv 0) pe_int (fun _ _ => rfl)) (pe_ix ix_tup (pv 1) pe_int (fun _ _ => rfl)))) (pa_cons (pe_op op_sub (pe_op op_mulG (pe_ix ix_tup (pv 0) pe_int (fun _ _ => rfl)) (pe_ix ix_tup (pv 1) pe_int (fun _ _ => rfl))) (pe_op op_mulG (pe_ix ix_tup (pv 0) pe_int (fun _ _ => rfl)) (pe_ix ix_tup (pv 1) pe_int (fun _ _ => rfl)))) pa_nil))))), ?_⟩
  exact ⟨_, rfl, p, _, _, _, rfl, rfl, hp, rfl, _, rfl, q', _, _, _, rfl, rfl, hq, rfl, _, _, rfl, rfl, okM br.y bs.z, _, rfl, p, _, _, _, rfl, rfl, hp, rfl, _, rfl, q', _, _, _, rfl, rfl, hq, rfl, _, _, rfl, rfl, okM br.z bs.y, _, _, rfl, rfl, _, rfl, p, _, _, _, rfl, rfl, hp, rfl, _, rfl, q', _, _, _, rfl, rfl, hq, rfl, _, _, rfl, rfl, okM br.z bs.x, _, rfl, p, _, _, _, rfl, rfl, hp, rfl, _, rfl, q', _, _, _, rfl, rfl, hq, rfl, _, _, rfl, rfl, okM br.x bs.z, _, _, rfl, rfl, _, rfl, p, _, _, _, rfl, rfl, hp, rfl, _, rfl, q', _, _, _, rfl, rfl, hq, rfl, _, _, rfl, rfl, okM br.x bs.y, _, rfl, p, _, _, _, rfl, rfl, hp, rfl, _, rfl, q', _, _, _, rfl, rfl, hq, rfl, _, _, rfl, rfl, okM br.y bs.x, _, _, rfl, rfl, (by show 3 ≤ sizeLine; decide), fun z nz => q z _ (same_new nz _) upd_same⟩
theorem ok_stretched {f : Addr} {fd : FuncData} (F : Fun K "stretched" "stretched" s_stretched f fd) (T : Txt K mg t)  : FnOk P w K mg base CX0 1 f fd ["P", "times"] (spStr K) := by
  refine F.ok sc_stretched (fun vs H Q E h => ?_) (fun cdv A outer s H vs Q E hr h => ?_)
  · obtain ⟨_, _, _, rfl, _⟩ := h
    rfl
  obtain ⟨p, P', m, rfl, hp, bp, bm, q⟩ := h
  refine ⟨_, pss_one (ps_ret (pe_tup (pa_cons (pe_op op_mulG (pe_ix ix_tup (pv 0) pe_int (fun _ _ => rfl)) (pv 1)) (pa_cons (pe_op op_mulG (pe_ix ix_tup (pv 0) pe_int (fun _ _ => rfl)) (pv 1)) (pa_cons (pe_op op_mulG (pe_ix ix_tup (pv 0) pe_int (fun _ _ => rfl)) (pv 1)) pa_nil))))), ?_⟩
  exact ⟨_, rfl, p, _, _, _, rfl, rfl, hp, rfl, _, rfl, _, _, rfl, rfl, okM bp.x bm, _, rfl, p, _, _, _, rfl, rfl, hp, rfl, _, rfl, _, _, rfl, rfl, okM bp.y bm, _, rfl, p, _, _, _, rfl, rfl, hp, rfl, _, rfl, _, _, rfl, rfl, okM bp.z bm, (by show 3 ≤ sizeLine; decide), fun z nz => q z _ (same_new nz _) upd_same⟩
theorem ok_refuse_flat {f : Addr} {fd : FuncData} (F : Fun K "refuse_flat" "refuse_flat" s_refuse_flat f fd) (T : Txt K mg t) (H_size_of : Has P w K mg base CX0 1 "size_of" ["Q"] (spSize)) : FnOk P w K mg base CX0 2 f fd ["Q"] (spFlat) := by
  obtain ⟨f_size_of, d_size_of, G_size_of, b_size_of, k_size_of, m_size_of⟩ := H_size_of
  refine F.ok sc_refuse_flat (fun vs H Q E h => ?_) (fun cdv A outer s H vs Q E hr h => ?_)
  · obtain ⟨_, _, rfl, _⟩ := h
    rfl
  obtain ⟨p, F, rfl, hp, bf, ns, q⟩ := h
  have hr_size_of := hr.mono (show 1 ≤ 1 by decide)
  refine ⟨_, pss_one (ps_if (pt_cmpR op_eq (pe_call G_size_of hr_size_of rfl m_size_of k_size_of b_size_of .nil pass0 (pa_cons (pv 0) pa_nil)) pe_int (nomark _)) pss_never pss_nil), ?_⟩
  exact ⟨_, rfl, p, F, rfl, hp, bf, rfl, _, rfl, iteDF (fun z => ns (int_inj z)) q⟩
theorem ok_shared {f : Addr} {fd : FuncData} (F : Fun K "_law_shared" "_law_shared" s_shared f fd) (T : Txt K mg t)  : FnOk P w K mg base CX0 1 f fd ["_law_numbers"] (spShared) := by
  refine F.ok sc_shared (fun vs H Q E h => ?_) (fun cdv A outer s H vs Q E hr h => ?_)
  · obtain ⟨_, _, _, rfl, _⟩ := h
    rfl
  obtain ⟨p, b, ns, rfl, hp, q⟩ := h
  refine ⟨_, pss_cons (ps_set (i := 1) sc_shared.nd rfl (Or.inl rfl) pe_int)
    (pss_cons (ps_for PassesOwn.never rfl (pi_seq (pv 0)) (pg_name (i := 2) sc_shared.nd rfl (Or.inl rfl)) (pss_cons (ps_set (i := 3) sc_shared.nd rfl (Or.inl rfl) (pe_callB call_abs rfl T.z_abs b_abs (pa_cons (pv 2) pa_nil)))
    (pss_one (ps_while PassesOwn.never (pt_cmpR op_ne (pv 3) pe_int (nomark _)) (pss_one (ps_par (i := 1) (j := 3) rfl sc_shared.nd rfl rfl (by decide) rfl rfl (pa_cons (pv 3) (pa_cons (pe_op op_mod (pv 1) (pv 3)) pa_nil)) rfl))))))
    (pss_one (ps_ret (pv 1)))), ?_⟩
  refine ⟨_, rfl, p, b, ns.map V.int, rfl, Sq.of hp, for_seq (xs := ns.map V.int) (fun i σ H' => ∃ (g : Int) (nh ot : Option V), σ = [some (.ref p), some (.int g), nh, ot] ∧ H = H' ∧ 0 ≤ g ∧ Gen ns g ∧ ∀ n ∈ ns.take i, g ∣ n) ⟨0, none, none, rfl, rfl, by decide, .zero, fun n hn => by cases hn⟩ ?_ ?_ ?_⟩
  · rintro i σ H' hi ⟨g, nh, ot, rfl, rfl, _⟩
    exact Sq.of hp
  · rintro i v σ H' hv ⟨g, nh, ot, rfl, rfl, g0, gc, hd⟩
    obtain ⟨n, rfl, hn, nm⟩ := getI hv
    refine ⟨_, rfl, n, rfl, ?_⟩
    refine ⟨fun m σ H' => ∃ (f o : Int), σ = [some (.ref p), some (.int f), some (.int n), some (.int o)] ∧ H = H' ∧ 0 ≤ f ∧ 0 ≤ o ∧ Gen ns f ∧ Gen ns o ∧ (∀ d : Int, d ∣ f → d ∣ o → d ∣ g ∧ d ∣ n) ∧ m = o.toNat, ⟨_, g, _, rfl, rfl, g0, ?_, gc, ?_, fun d d1 d2 => ⟨d1, ?_⟩, rfl⟩, ?_⟩
    · show 0 ≤ (if n < 0 then -n else n)
      split <;> omega
    · show Gen ns (if n < 0 then -n else n)
      split
      · exact (Gen.mem nm).neg
      · exact .mem nm
    · have d2' : d ∣ (if n < 0 then -n else n) := d2
      split at d2'
      · exact Int.dvd_neg.mp d2'
      · exact d2'
    rintro m σ H1 ⟨f, o', rfl, rfl, f0, o0, fc, oc, hd2, rfl⟩
    refine ⟨_, rfl, rfl, _, rfl, ite2 (fun c => ?_) (fun c => ?_)⟩
    · have on : o' ≠ 0 := fun zz => neT c (congrArg V.int zz)
      have op : 0 < o' := by omega
      have r0 := Int.emod_nonneg f on
      have r1 := Int.emod_lt_of_pos f op
      refine ⟨fun σ' H2 => σ' = [some (.ref p), some (.int o'), some (.int n), some (.int (f % o'))] ∧ H = H2, ?_, ?_⟩
      · rintro σ' H2 ⟨rfl, rfl⟩
        exact ⟨(f % o').toNat, by omega, o', f % o', rfl, rfl, o0, r0, oc, fc.rest oc, fun d d1 d2 => (fun z => hd2 d z.1 z.2) (step_dvd d1 d2), rfl⟩
      · exact ⟨_, rfl, _, rfl, _, rfl, _, _, rfl, rfl, op, _, _, rfl, rfl, rfl⟩
    · have on : o' = 0 := int_inj (neF c)
      subst on
      obtain ⟨w1, w2⟩ := hd2 f (Int.dvd_refl f) (Int.dvd_zero f)
      refine ⟨f, _, _, rfl, rfl, f0, fc, fun w hw => ?_⟩
      rw [List.take_succ, hn] at hw
      rcases List.mem_append.mp hw with z | z
      · exact Int.dvd_trans w1 (hd w z)
      · have : w = n := by simpa using z
        rw [this]
        exact w2
  · rintro σ H' ⟨g, nh, ot, rfl, rfl, g0, gc, hd⟩
    rw [List.length_map, List.take_length] at hd
    exact ⟨_, rfl, q g g0 hd gc⟩
theorem ok_lowest {f : Addr} {fd : FuncData} (F : Fun K "_law_lowest" "_law_lowest" s_lowest f fd) (T : Txt K mg t) (H_shared : Has P w K mg base CX0 1 "_law_shared" ["_law_numbers"] (spShared)) : FnOk P w K mg base CX0 2 f fd ["_law_numbers"] (spLow) := by
  obtain ⟨f_shared, d_shared, G_shared, b_shared, k_shared, m_shared⟩ := H_shared
  refine F.ok sc_lowest (fun vs H Q E h => ?_) (fun cdv A outer s H vs Q E hr h => ?_)
  · obtain ⟨_, _, _, rfl, _⟩ := h
    rfl
  obtain ⟨p, b, ns, rfl, hp, l9, bn, fz, q⟩ := h
  have hr_shared := hr.mono (show 1 ≤ 1 by decide)
  have hu64 := hu64_of hr
  have fm' := fstL_mem fz
  refine ⟨_, pss_cons (ps_set (i := 1) sc_lowest.nd rfl (Or.inr rfl) (pe_call G_shared hr_shared rfl m_shared k_shared b_shared .nil pass0 (pa_cons (pv 0) pa_nil)))
    (pss_cons (ps_setCI (k := 2) sc_lowest.nd rfl (Or.inl rfl) rfl rfl (CompScope.gen (cl := []) [] [] [(".0", .local), ("_law_number", .local)] rfl (by decide +kernel) (by decide +kernel) rfl rfl (by intro p hp; cases hp) rfl (by intro p hp h; simp only [List.mem_cons, List.not_mem_nil, or_false] at hp; rcases hp with rfl | rfl <;> first | rfl | (rcases h with h | h <;> cases h)) (by decide) (by decide +kernel) rfl (by intro p hp; cases hp)) (pi_seq (pv 0)) (fun C s0 H0 fp pins => pt_cmpR op_ne (pv 0) pe_int (nomark _)) (fun C s0 H0 fp pins => pv 0) (Or.inl rfl))
    (pss_cons (ps_if (pt_cmpR (op_eqD hu64) (pv 2) (pe_lst pa_nil) (nomark _)) (pss_one (ps_ret (pe_callTy call_tuple_of rfl T.z_tuple b_tuple (pa_cons (pv 0) pa_nil)))) pss_nil)
    (pss_cut (ps_if (pt_cmpR op_lt (pe_ix ix_list (pv 2) pe_int (fun _ _ => rfl)) pe_int (nomark _)) (pss_one (ps_set (i := 1) sc_lowest.nd rfl (Or.inr rfl) (pe_op op_sub pe_int (pv 1)))) pss_nil)
    (pss_one (ps_ret (pe_callTy call_tuple_of rfl T.z_tuple b_tuple (pa_cons (pe_compC rfl (CompScope.gen (cl := [("_law_share", _)]) ["_law_share"] [1] [(".0", .local), ("_law_one", .local), ("_law_share", .cell)] rfl (by decide +kernel) (by decide +kernel) rfl rfl (by intro p hp; simp only [List.mem_cons, List.not_mem_nil, or_false] at hp; rcases hp with rfl <;> rfl) rfl (by intro p hp h; simp only [List.mem_cons, List.not_mem_nil, or_false] at hp; rcases hp with rfl | rfl | rfl <;> first | rfl | (rcases h with h | h <;> cases h)) (by decide) (by decide +kernel) rfl (by intro p hp; simp only [List.zip_cons_cons, List.zip_nil_left, List.mem_cons, List.not_mem_nil, or_false] at hp; rcases hp with rfl <;> exact ⟨rfl, rfl⟩)) (pi_seq (pv 0)) (fun C s0 H0 fp pins => pe_op op_fdivL (pv 0) (pv 1))) pa_nil))))))), ?_⟩
  refine ⟨_, rfl, p, b, ns, rfl, hp, fun s g0 gd gc => ?_⟩
  have s0 : s ≠ 0 := fun z => by
    subst z
    exact fz (Int.zero_dvd.mp (gd _ fm'))
  have sb : s.natAbs ≤ Lm := by
    have h1 := bd_top (bn _ fm')
    have h2 := Top_Lm
    have h3 := Nat.le_of_dvd (by omega) (Int.natAbs_dvd_natAbs.mpr (gd _ fm'))
    omega
  have l9' : (ns.map V.int).length < sizeLine := by
    rw [List.length_map]
    exact Nat.lt_of_le_of_lt l9 (by decide)
  refine ⟨_, rfl, p, b, ns.map V.int, rfl, Sq.of hp, compIf_seqF (xs := ns.map V.int) l9' nz id (fun H' g => Sq.of (g _ _ hp)) ?_ ?_ ?_⟩
  · intro i v H' Q' hv g k
    obtain ⟨n, rfl, _⟩ := getI hv
    exact ⟨_, rfl, rfl, _, rfl, k _ (Same.refl _)⟩
  · intro i v H' Q' hv e g k
    exact ⟨_, rfl, k _ (Same.refl _)⟩
  intro l H1 g1 _ hl
  obtain ⟨ms, em⟩ := first_ok fz
  rw [em] at hl
  refine ⟨_, rfl, (by show 0 ≤ sizeLine; decide), fun le ne => ?_⟩
  have gl := same_new ne (.lst [])
  have hl2 := gl _ _ hl
  refine ⟨_, _, .lst hl2 (DAs.ints (fstL ns :: ms)), .lst upd_same .nil, PySem.W.ke_shaped_ints _, rfl, _, rfl, iteFE rfl ?_⟩
  refine ⟨fun σ' H' => ∃ e : Int, σ' = [some (.ref p), some (.int e), some (.ref l)] ∧ Same H H' ∧ ((e = s ∧ 0 < fstL ns) ∨ (e = -s ∧ fstL ns < 0)), ?_, ?_⟩
  · refine ⟨_, rfl, l, _, _, _, rfl, rfl, SqL.of hl2, at0, _, _, rfl, rfl, _, rfl, ite2 (fun c => ?_) (fun c => ?_)⟩
    · have c' := decT c
      exact ⟨_, rfl, _, _, rfl, rfl, 0 - s, rfl, g1.trans gl, .inr ⟨by omega, c'⟩⟩
    · have c' := decF c
      exact ⟨s, rfl, g1.trans gl, .inl ⟨rfl, by omega⟩⟩
  rintro _ H3 ⟨e, rfl, g3, he⟩
  have hp3 := g3 _ _ hp
  have en : e ≠ 0 := by omega
  have be : e.natAbs ≤ Lm := by omega
  refine ⟨_, rfl, p, b, ns.map V.int, rfl, Sq.of hp3, comp_seqF (xs := ns.map V.int) l9' (fdv e) (fun H' g => Sq.of (g _ _ hp3)) ?_ ?_⟩
  · intro i v H' Q' hv g k
    obtain ⟨n, rfl, _⟩ := getI hv
    exact ⟨_, rfl, _, rfl, _, _, rfl, rfl, ⟨en, Lm_log (by omega)⟩, k _ (Same.refl _)⟩
  intro l4 H4 g4 _ hl4
  refine ⟨l4, _, rfl, .inl ⟨SqL.of hl4, fun r nr => ?_⟩⟩
  refine q r _ e (g3.trans (g4.trans (same_new nr _))) upd_same en (fun n hn => ?_) ?_ (by omega)
  · rcases he with ⟨z, _⟩ | ⟨z, _⟩ <;> rw [z]
    · exact gd n hn
    · exact Int.neg_dvd.mpr (gd n hn)
  · rcases he with ⟨z, _⟩ | ⟨z, _⟩ <;> rw [z]
    · exact gc
    · exact gc.neg
theorem ok_beside {f : Addr} {fd : FuncData} (F : Fun K "_law_beside" "_law_beside" s_beside f fd) (T : Txt K mg t)  : FnOk P w K mg base CX0 1 f fd ["_law_one", "_law_other"] (spCr) := by
  refine F.ok sc_beside (fun vs H Q E h => ?_) (fun cdv A outer s H vs Q E hr h => ?_)
  · obtain ⟨_, _, _, _, rfl, _⟩ := h
    rfl
  obtain ⟨p, q', r, s', rfl, hp, hq, br, bs, q⟩ := h
  unfold S3 at hp hq
  refine ⟨_, pss_cons (ps_set (i := 2) sc_beside.nd rfl (Or.inl rfl) (pe_op op_sub (pe_op op_mulG (pe_ix ix_tup (pv 0) pe_int (fun _ _ => rfl)) (pe_ix ix_tup (pv 1) pe_int (fun _ _ => rfl))) (pe_op op_mulG (pe_ix ix_tup (pv 0) pe_int (fun _ _ => rfl)) (pe_ix ix_tup (pv 1) pe_int (fun _ _ => rfl)))))
    (pss_cons (ps_set (i := 3) sc_beside.nd rfl (Or.inl rfl) (pe_op op_sub (pe_op op_mulG (pe_ix ix_tup (pv 0) pe_int (fun _ _ => rfl)) (pe_ix ix_tup (pv 1) pe_int (fun _ _ => rfl))) (pe_op op_mulG (pe_ix ix_tup (pv 0) pe_int (fun _ _ => rfl)) (pe_ix ix_tup (pv 1) pe_int (fun _ _ => rfl)))))
    (pss_one (ps_ret (pe_tup (pa_cons (pv 2) (pa_cons (pv 3) (pa_cons (pe_op op_sub (pe_op op_mulG (pe_ix ix_tup (pv 0) pe_int (fun _ _ => rfl)) (pe_ix ix_tup (pv 1) pe_int (fun _ _ => rfl))) (pe_op op_mulG (pe_ix ix_tup (pv 0) pe_int (fun _ _ => rfl)) (pe_ix ix_tup (pv 1) pe_int (fun _ _ => rfl)))) pa_nil))))))), ?_⟩
  refine ⟨_, rfl, p, _, _, _, rfl, rfl, SqT.of hp, rfl, _, rfl, q', _, _, _, rfl, rfl, SqT.of hq, rfl, _, _, rfl, rfl, okM br.y bs.z, _, rfl, p, _, _, _, rfl, rfl, SqT.of hp, rfl, _, rfl, q', _, _, _, rfl, rfl, SqT.of hq, rfl, _, _, rfl, rfl, okM br.z bs.y, _, _, rfl, rfl, ?_⟩
  refine ⟨_, rfl, p, _, _, _, rfl, rfl, SqT.of hp, rfl, _, rfl, q', _, _, _, rfl, rfl, SqT.of hq, rfl, _, _, rfl, rfl, okM br.z bs.x, _, rfl, p, _, _, _, rfl, rfl, SqT.of hp, rfl, _, rfl, q', _, _, _, rfl, rfl, SqT.of hq, rfl, _, _, rfl, rfl, okM br.x bs.z, _, _, rfl, rfl, ?_⟩
  exact ⟨_, rfl, _, rfl, _, rfl, p, _, _, _, rfl, rfl, SqT.of hp, rfl, _, rfl, q', _, _, _, rfl, rfl, SqT.of hq, rfl, _, _, rfl, rfl, okM br.x bs.y, _, rfl, p, _, _, _, rfl, rfl, SqT.of hp, rfl, _, rfl, q', _, _, _, rfl, rfl, SqT.of hq, rfl, _, _, rfl, rfl, okM br.y bs.x, _, _, rfl, rfl, (by show 3 ≤ sizeLine; decide), fun z nz => q z _ (same_new nz _) upd_same⟩
theorem ok_dot {f : Addr} {fd : FuncData} (F : Fun K "_law_dot" "_law_dot" s_dot f fd) (T : Txt K mg t)  : FnOk P w K mg base CX0 1 f fd ["_law_one", "_law_other"] (spRp) := by
  refine F.ok sc_dot (fun vs H Q E h => ?_) (fun cdv A outer s H vs Q E hr h => ?_)
  · obtain ⟨_, _, _, _, rfl, _⟩ := h
    rfl
  obtain ⟨p, q', r, s', rfl, hp, hq, br, bs, q⟩ := h
  unfold S3 at hp hq
  refine ⟨_, pss_one (ps_ret (pe_op op_add (pe_op op_add (pe_op op_mulG (pe_ix ix_tup (pv 0) pe_int (fun _ _ => rfl)) (pe_ix ix_tup (pv 1) pe_int (fun _ _ => rfl))) (pe_op op_mulG (pe_ix ix_tup (pv 0) pe_int (fun _ _ => rfl)) (pe_ix ix_tup (pv 1) pe_int (fun _ _ => rfl)))) (pe_op op_mulG (pe_ix ix_tup (pv 0) pe_int (fun _ _ => rfl)) (pe_ix ix_tup (pv 1) pe_int (fun _ _ => rfl))))), ?_⟩
  exact ⟨_, rfl, p, _, _, _, rfl, rfl, SqT.of hp, rfl, _, rfl, q', _, _, _, rfl, rfl, SqT.of hq, rfl, _, _, rfl, rfl, okM br.x bs.x, _, rfl, p, _, _, _, rfl, rfl, SqT.of hp, rfl, _, rfl, q', _, _, _, rfl, rfl, SqT.of hq, rfl, _, _, rfl, rfl, okM br.y bs.y, _, _, rfl, rfl, _, rfl, p, _, _, _, rfl, rfl, SqT.of hp, rfl, _, rfl, q', _, _, _, rfl, rfl, SqT.of hq, rfl, _, _, rfl, rfl, okM br.z bs.z, _, _, rfl, rfl, q⟩
theorem ok_rows {f : Addr} {fd : FuncData} (F : Fun K "_law_rows" "_law_rows" s_rows f fd) (T : Txt K mg t) (H_cell_at : Has P w K mg base CX0 1 "_law_cell_at" ["_law_script", "_law_k"] (spCell K)) (H_dot : Has P w K mg base CX0 1 "_law_dot" ["_law_one", "_law_other"] (spRp)) (H_beside : Has P w K mg base CX0 1 "_law_beside" ["_law_one", "_law_other"] (spCr)) : FnOk P w K mg base CX0 2 f fd ["_law_script", "_law_start", "_law_way", "_law_great"] (spRows K) := by
  obtain ⟨f_cell_at, d_cell_at, G_cell_at, b_cell_at, k_cell_at, m_cell_at⟩ := H_cell_at
  obtain ⟨f_dot, d_dot, G_dot, b_dot, k_dot, m_dot⟩ := H_dot
  obtain ⟨f_beside, d_beside, G_beside, b_beside, k_beside, m_beside⟩ := H_beside
  refine F.ok sc_rows (fun vs H Q E h => ?_) (fun cdv A outer s H vs Q E hr h => ?_)
  · obtain ⟨_, _, _, _, rfl, _⟩ := h
    rfl
  obtain ⟨a, ns, w, G, rfl, hS, G0, G1, q⟩ := h
  have hr_cell_at := hr.mono (show 1 ≤ 1 by decide)
  have hr_dot := hr.mono (show 1 ≤ 1 by decide)
  have hr_beside := hr.mono (show 1 ≤ 1 by decide)
  refine ⟨_, pss_cons (ps_set (i := 4) sc_rows.nd rfl (Or.inr rfl) (pe_ix ix_list (pe_lst (pa_cons pe_int (pa_cons pe_int (pa_cons (pe_op op_pow pe_int pe_int) (pa_cons (pv 3) pa_nil))))) (pe_op op_mod (pv 2) pe_int) (fun _ _ => rfl)))
    (pss_cons (ps_setC0 (k := 5) sc_rows.nd rfl (Or.inl rfl) rfl rfl (CompScope.gen (cl := [("_law_start", _), ("_law_script", _)]) ["_law_script", "_law_start"] [0, 1] [(".0", .local), ("_law_k", .local), ("_law_cell_at", .globalImplicit), ("_law_script", .cell), ("_law_start", .cell)] rfl (by decide +kernel) (by decide +kernel) rfl rfl (by intro p hp; simp only [List.mem_cons, List.not_mem_nil, or_false] at hp; rcases hp with rfl | rfl <;> rfl) rfl (by intro p hp h; simp only [List.mem_cons, List.not_mem_nil, or_false] at hp; rcases hp with rfl | rfl | rfl | rfl | rfl <;> first | rfl | (rcases h with h | h <;> cases h)) (by decide) (by decide +kernel) rfl (by intro p hp; simp only [List.zip_cons_cons, List.zip_nil_left, List.mem_cons, List.not_mem_nil, or_false] at hp; rcases hp with rfl | rfl <;> exact ⟨rfl, rfl⟩)) (pi_range1 rfl T.z_range (pa_cons pe_int pa_nil)) (fun C s0 H0 fp pins => pe_op op_add (pe_call G_cell_at hr_cell_at rfl m_cell_at k_cell_at b_cell_at .nil pass0 (pa_cons (pv 1) (pa_cons (pe_op op_add (pv 2) (pv 0)) pa_nil))) (pe_op op_mulG (pe_op op_mulG pe_int (pv 0)) (pv 0))) (Or.inl rfl))
    (pss_cons (ps_setC0 (k := 6) sc_rows.nd rfl (Or.inl rfl) rfl rfl (CompScope.gen (cl := [("_law_most", _)]) ["_law_most"] [4] [(".0", .local), ("_law_cell", .local), ("_law_most", .cell)] rfl (by decide +kernel) (by decide +kernel) rfl rfl (by intro p hp; simp only [List.mem_cons, List.not_mem_nil, or_false] at hp; rcases hp with rfl <;> rfl) rfl (by intro p hp h; simp only [List.mem_cons, List.not_mem_nil, or_false] at hp; rcases hp with rfl | rfl | rfl <;> first | rfl | (rcases h with h | h <;> cases h)) (by decide) (by decide +kernel) rfl (by intro p hp; simp only [List.zip_cons_cons, List.zip_nil_left, List.mem_cons, List.not_mem_nil, or_false] at hp; rcases hp with rfl <;> exact ⟨rfl, rfl⟩)) (pi_list (pv 5)) (fun C s0 H0 fp pins => pe_op op_mod (pe_op op_mulG (pv 0) (pe_op op_pow pe_int pe_int)) (pe_op op_add (pe_op op_mulG pe_int (pv 1)) pe_int)) (Or.inl rfl))
    (pss_cons (ps_setC0 (k := 6) sc_rows.nd rfl (Or.inl rfl) rfl rfl (CompScope.gen (cl := [("_law_most", _)]) ["_law_most"] [4] [(".0", .local), ("_law_number", .local), ("_law_most", .cell)] rfl (by decide +kernel) (by decide +kernel) rfl rfl (by intro p hp; simp only [List.mem_cons, List.not_mem_nil, or_false] at hp; rcases hp with rfl <;> rfl) rfl (by intro p hp h; simp only [List.mem_cons, List.not_mem_nil, or_false] at hp; rcases hp with rfl | rfl | rfl <;> first | rfl | (rcases h with h | h <;> cases h)) (by decide) (by decide +kernel) rfl (by intro p hp; simp only [List.zip_cons_cons, List.zip_nil_left, List.mem_cons, List.not_mem_nil, or_false] at hp; rcases hp with rfl <;> exact ⟨rfl, rfl⟩)) (pi_list (pv 6)) (fun C s0 H0 fp pins => pe_op op_sub (pv 0) (pv 1)) (Or.inl rfl))
    (pss_cons (ps_set (i := 7) sc_rows.nd rfl (Or.inl rfl) (pe_lst (pa_cons (pe_callTy call_tuple_of rfl T.z_tuple b_tuple (pa_cons (pe_slice sl_list (pv 6) po_none (po_some pe_int)) pa_nil)) (pa_cons (pe_callTy call_tuple_of rfl T.z_tuple b_tuple (pa_cons (pe_slice sl_list (pv 6) (po_some pe_int) (po_some pe_int)) pa_nil)) (pa_cons (pe_callTy call_tuple_of rfl T.z_tuple b_tuple (pa_cons (pe_slice sl_list (pv 6) (po_some pe_int) po_none) pa_nil)) pa_nil)))))
    (pss_cut (ps_if (PW.pt (pw_or (pt_cmpR op_eq (pe_op op_mod (pe_op op_fdiv (pv 2) pe_int) pe_int) pe_int (nomark _)) (pw_or1 (pt_cmpR op_eq (pe_call G_dot hr_dot rfl m_dot k_dot b_dot .nil pass0 (pa_cons (pe_ix ix_list (pv 7) pe_int (fun _ _ => rfl)) (pa_cons (pe_call G_beside hr_beside rfl m_beside k_beside b_beside .nil pass0 (pa_cons (pe_ix ix_list (pv 7) pe_int (fun _ _ => rfl)) (pa_cons (pe_ix ix_list (pv 7) pe_int (fun _ _ => rfl)) pa_nil))) pa_nil))) pe_int (nomark _))))) (pss_one (ps_set (i := 7) sc_rows.nd rfl (Or.inl rfl) (pe_lst (pa_cons (pe_tup (pa_cons pe_int (pa_cons (pe_ix ix_list (pv 6) pe_int (fun _ _ => rfl)) (pa_cons (pe_ix ix_list (pv 6) pe_int (fun _ _ => rfl)) pa_nil)))) (pa_cons (pe_tup (pa_cons pe_int (pa_cons pe_int (pa_cons (pe_ix ix_list (pv 6) pe_int (fun _ _ => rfl)) pa_nil)))) (pa_cons (pe_tup (pa_cons pe_int (pa_cons pe_int (pa_cons pe_int pa_nil)))) pa_nil)))))) pss_nil)
    (pss_one (ps_ret (pv 7)))))))), ?_⟩
  refine ⟨_, _, rfl, rfl, ⟨by decide, by decide, by decide⟩, _, rfl, (by show 4 ≤ sizeLine; decide), fun p1 n1 => ?_⟩
  obtain ⟨m, em, hm⟩ := at4 2 4 (10 ^ Int.toNat 3) G (w % 4) (by omega) (by omega)
  have m1 : 0 ≤ m ∧ m ≤ 10000 := by
    have e3 : (10 : Int) ^ Int.toNat 3 = 1000 := by decide
    omega
  have g1 := same_new n1 (.lst [.int 2, .int 4, .int (10 ^ Int.toNat 3), .int G])
  have hS1 := g1.seq hS
  refine ⟨_, rfl, _, _, rfl, rfl, (by show (0 : Int) < 4; decide), p1, _, _, _, rfl, rfl, SqL.of upd_same, em, ?_⟩
  refine ⟨9, rfl, by decide, by decide, comp_range 9 (by decide) (fun i vs H' => ∃ ms : List Int, vs = ms.map V.int ∧ ms.length = i) (fun p hp => ⟨[], rfl, rfl⟩) ?_ ?_⟩
  · rintro i vs H' acc Q' hi g h0 h1 ⟨ms, rfl, hl⟩ _ k
    exact ⟨_, rfl, _, rfl, _, rfl, _, _, rfl, rfl, a, ns, _, rfl, g.seq hS1, by omega, _, rfl, _, _, rfl, rfl, IntMulOk.of_left (intBits_le_64 (by decide) (by decide)), _, rfl, _, _, rfl, rfl, IntMulOk.of_right (intBits_le_64 (by omega) (by omega)), _, _, rfl, rfl, k _ _ (Same.refl _) ⟨ms ++ [ns.getD (1 + (0 + (i : Int))).toNat 0 + 5 * (0 + (i : Int)) * (0 + (i : Int))], by rw [List.map_append]; rfl, by rw [List.length_append, hl]; rfl⟩⟩
  rintro p2 H2 vs g2 _ hp2 _ ⟨ms, rfl, hl2⟩
  refine ⟨_, rfl, p2, rfl, ⟨_, SqL.of hp2⟩, comp_listR (xs := ms.map V.int) (by rw [List.length_map, hl2]; decide) (fun H' g => SqL.of (g _ _ hp2)) (fun i vs H' => ∃ ss : List Int, vs = ss.map V.int ∧ ss.length = i ∧ ∀ x ∈ ss, 0 ≤ x ∧ x ≤ 2 * m) (fun p hp => ⟨[], rfl, rfl, fun x hx => by cases hx⟩) ?_ ?_⟩
  · rintro i v vs H' acc Q' hv g h0 ha ⟨ss, rfl, hl, hb⟩ _ k
    obtain ⟨n, _, rfl⟩ := List.mem_map.mp (List.mem_of_getElem? hv)
    refine ⟨_, rfl, _, _, rfl, rfl, ⟨by decide, by decide, by decide⟩, _, _, rfl, rfl, IntMulOk.of_right (intBits_le_64 (by decide) (by decide)), _, rfl, _, _, rfl, rfl, ok2, _, _, rfl, rfl, _, _, rfl, rfl, (by show (0 : Int) < 2 * m + 1; omega), k _ _ (Same.refl _) ⟨ss ++ [n * 15485867 ^ Int.toNat 2 % (2 * m + 1)], by rw [List.map_append]; rfl, by rw [List.length_append, hl]; rfl, fun x hx => ?_⟩⟩
    rcases List.mem_append.mp hx with z | z
    · exact hb x z
    · cases List.mem_singleton.mp z
      have := mod_in (n := n * 15485867 ^ Int.toNat 2) m1.1
      omega
  rintro p3 H3 vs g3 _ hp3 _ ⟨ss, rfl, hl3, hb3⟩
  rw [List.length_map, hl2] at hl3
  refine ⟨_, rfl, p3, rfl, ⟨_, SqL.of hp3⟩, comp_listR (xs := ss.map V.int) (by rw [List.length_map, hl3]; decide) (fun H' g => SqL.of (g _ _ hp3)) (fun i vs H' => ∃ us : List Int, vs = us.map V.int ∧ us.length = i ∧ ∀ x ∈ us, Bd 14 x) (fun p hp => ⟨[], rfl, rfl, fun x hx => by cases hx⟩) ?_ ?_⟩
  · rintro i v vs H' acc Q' hv g h0 ha ⟨us, rfl, hl, hb⟩ _ k
    obtain ⟨n, nm, rfl⟩ := List.mem_map.mp (List.mem_of_getElem? hv)
    refine ⟨_, rfl, _, rfl, _, _, rfl, rfl, k _ _ (Same.refl _) ⟨us ++ [n - m], by rw [List.map_append]; rfl, by rw [List.length_append, hl]; rfl, fun x hx => ?_⟩⟩
    rcases List.mem_append.mp hx with z | z
    · exact hb x z
    · cases List.mem_singleton.mp z
      have := hb3 n nm
      exact bd14 (by omega)
  rintro p4 H4 vs g4 _ hp4 _ ⟨us, rfl, hl4, hb4⟩
  rw [List.length_map, hl3] at hl4
  obtain ⟨u0, u1, u2, u3, u4, u5, u6, u7, u8, rfl⟩ : ∃ u0 u1 u2 u3 u4 u5 u6 u7 u8, us = [u0, u1, u2, u3, u4, u5, u6, u7, u8] := by
    match us, hl4 with
    | [u0, u1, u2, u3, u4, u5, u6, u7, u8], _ => exact ⟨u0, u1, u2, u3, u4, u5, u6, u7, u8, rfl⟩
  have b0 := hb4 u0 (by simp)
  have b1 := hb4 u1 (by simp)
  have b2 := hb4 u2 (by simp)
  have b3 := hb4 u3 (by simp)
  have b4' := hb4 u4 (by simp)
  have b5 := hb4 u5 (by simp)
  have b6 := hb4 u6 (by simp)
  have b7 := hb4 u7 (by simp)
  have b8 := hb4 u8 (by simp)
  clear hb4 hl4
  have hp4' : H4 p4 = some (.lst [.int u0, .int u1, .int u2, .int u3, .int u4, .int u5, .int u6, .int u7, .int u8]) := hp4
  have gH := g1.trans (g2.trans (g3.trans g4))
  refine ⟨_, rfl, _, rfl, p4, _, rfl, SqL.of hp4', fun c0 k0 => ⟨c0, _, rfl, .inl ⟨SqL.of upd_same, fun r0 j0 => ?_⟩⟩⟩
  have f0 := (same_new k0 (.lst [.int u0, .int u1, .int u2])).trans (same_new j0 (t3 ⟨u0, u1, u2⟩))
  have e0 : S3 (upd (upd H4 c0 (.lst [.int u0, .int u1, .int u2])) r0 (t3 ⟨u0, u1, u2⟩)) r0 ⟨u0, u1, u2⟩ := upd_same
  have hp5 := f0 _ _ hp4'
  refine ⟨_, rfl, _, rfl, _, rfl, p4, _, rfl, SqL.of hp5, fun c1 k1 => ⟨c1, _, rfl, .inl ⟨SqL.of upd_same, fun r1 j1 => ?_⟩⟩⟩
  have f1 := (same_new k1 (.lst [.int u3, .int u4, .int u5])).trans (same_new j1 (t3 ⟨u3, u4, u5⟩))
  have e1 := same_new j1 (t3 ⟨u3, u4, u5⟩)
  have e1' : S3 (upd (upd (upd (upd H4 c0 (.lst [.int u0, .int u1, .int u2])) r0 (t3 ⟨u0, u1, u2⟩)) c1 (.lst [.int u3, .int u4, .int u5])) r1 (t3 ⟨u3, u4, u5⟩)) r1 ⟨u3, u4, u5⟩ := upd_same
  have hp6 := f1 _ _ hp5
  refine ⟨_, rfl, _, rfl, p4, _, rfl, SqL.of hp6, fun c2 k2 => ⟨c2, _, rfl, .inl ⟨SqL.of upd_same, fun r2 j2 => ?_⟩⟩⟩
  have f2 := (same_new k2 (.lst [.int u6, .int u7, .int u8])).trans (same_new j2 (t3 ⟨u6, u7, u8⟩))
  refine ⟨(by show 3 ≤ sizeLine; decide), fun pl nl => ?_⟩
  have f3 := same_new nl (.lst [.ref r0, .ref r1, .ref r2])
  have w0 := f3 _ _ (f2 _ _ (f1 _ _ e0))
  have w1 := f3 _ _ (f2 _ _ e1')
  have w2 := f3 r2 (t3 ⟨u6, u7, u8⟩) upd_same
  have hp7 := f3 _ _ (f2 _ _ hp6)
  have gA := gH.trans (f0.trans (f1.trans (f2.trans f3)))
  refine ⟨fun σ' H' => ∃ (pr : Addr) (t : T3), σ' = [some (.ref a), some (.int 1), some (.int w), some (.int G), some (.int m), some (.ref p2), some (.ref p4), some (.ref pr)] ∧ Same H H' ∧ LT H' pr t ∧ BT 14 t ∧ me t ≠ 0, ?_, ?_⟩
  · have fin := upd_same (H := upd (upd (upd (upd (upd (upd H4 c0 (.lst [.int u0, .int u1, .int u2])) r0 (t3 ⟨u0, u1, u2⟩)) c1 (.lst [.int u3, .int u4, .int u5])) r1 (t3 ⟨u3, u4, u5⟩)) c2 (.lst [.int u6, .int u7, .int u8])) r2 (t3 ⟨u6, u7, u8⟩)) (a := pl) (o := .lst [.ref r0, .ref r1, .ref r2])
    refine ⟨_, rfl, _, _, rfl, rfl, ⟨by decide, by decide⟩, _, _, rfl, rfl, (by show (0 : Int) < 4; decide), rfl, _, rfl, ite2 (fun c => ?_) (fun c => ?_)⟩
    · refine iteT ⟨_, rfl, p4, _, _, _, rfl, rfl, SqL.of hp7, rfl, _, rfl, p4, _, _, _, rfl, rfl, SqL.of hp7, rfl, (by show 3 ≤ sizeLine; decide), fun s0 y0 => ?_⟩
      have z0 := same_new y0 (t3 ⟨1, u0, u1⟩)
      refine ⟨_, rfl, p4, _, _, _, rfl, rfl, SqL.of (z0 _ _ hp7), rfl, (by show 3 ≤ sizeLine; decide), fun s1 y1 => ⟨(by show 3 ≤ sizeLine; decide), fun s2 y2 => ⟨(by show 3 ≤ sizeLine; decide), fun s3 y3 => ?_⟩⟩⟩
      have z1 := same_new y1 (t3 ⟨0, 1, u2⟩)
      have z2 := same_new y2 (t3 ⟨0, 0, 1⟩)
      have z3 := same_new y3 (.lst [.ref s0, .ref s1, .ref s2])
      exact ⟨s3, ⟨⟨1, u0, u1⟩, ⟨0, 1, u2⟩, ⟨0, 0, 1⟩⟩, rfl, gA.trans (z0.trans (z1.trans (z2.trans z3))), ⟨s0, s1, s2, upd_same, z3 _ _ (z2 _ _ (z1 _ _ upd_same)), z3 _ _ (z2 _ _ upd_same), z3 _ _ upd_same⟩, ⟨⟨bd1, b0, b1⟩, ⟨bd0, bd1, b2⟩, ⟨bd0, bd0, bd1⟩⟩, me_stairs _ _ _⟩
    · refine ⟨_, rfl, pl, _, _, _, rfl, rfl, SqL.of fin, rfl, _, rfl, pl, _, _, _, rfl, rfl, SqL.of fin, rfl, _, rfl, pl, _, _, _, rfl, rfl, SqL.of fin, rfl, r1, r2, ⟨u3, u4, u5⟩, ⟨u6, u7, u8⟩, rfl, w1, w2, BP.mono' (j := 14) ⟨b3, b4', b5⟩, BP.mono' (j := 14) ⟨b6, b7, b8⟩, fun x H6 g6 hx => ?_⟩
      refine ⟨r0, x, ⟨u0, u1, u2⟩, _, rfl, g6 _ _ w0, hx, BP.mono' (j := 14) ⟨b0, b1, b2⟩, (bd_cr (k := 14) ⟨b3, b4', b5⟩ ⟨b6, b7, b8⟩).mono', rfl, _, rfl, ite2 (fun c => ?_) (fun c => ?_)⟩
      · refine ⟨_, rfl, p4, _, _, _, rfl, rfl, SqL.of (g6 _ _ hp7), rfl, _, rfl, p4, _, _, _, rfl, rfl, SqL.of (g6 _ _ hp7), rfl, (by show 3 ≤ sizeLine; decide), fun s0 y0 => ?_⟩
        have z0 := same_new y0 (t3 ⟨1, u0, u1⟩)
        refine ⟨_, rfl, p4, _, _, _, rfl, rfl, SqL.of (z0 _ _ (g6 _ _ hp7)), rfl, (by show 3 ≤ sizeLine; decide), fun s1 y1 => ⟨(by show 3 ≤ sizeLine; decide), fun s2 y2 => ⟨(by show 3 ≤ sizeLine; decide), fun s3 y3 => ?_⟩⟩⟩
        have z1 := same_new y1 (t3 ⟨0, 1, u2⟩)
        have z2 := same_new y2 (t3 ⟨0, 0, 1⟩)
        have z3 := same_new y3 (.lst [.ref s0, .ref s1, .ref s2])
        exact ⟨s3, ⟨⟨1, u0, u1⟩, ⟨0, 1, u2⟩, ⟨0, 0, 1⟩⟩, rfl, gA.trans (g6.trans (z0.trans (z1.trans (z2.trans z3)))), ⟨s0, s1, s2, upd_same, z3 _ _ (z2 _ _ (z1 _ _ upd_same)), z3 _ _ (z2 _ _ upd_same), z3 _ _ upd_same⟩, ⟨⟨bd1, b0, b1⟩, ⟨bd0, bd1, b2⟩, ⟨bd0, bd0, bd1⟩⟩, me_stairs _ _ _⟩
      · have c' : me ⟨⟨u0, u1, u2⟩, ⟨u3, u4, u5⟩, ⟨u6, u7, u8⟩⟩ ≠ 0 := fun z => decF c (congrArg V.int z)
        exact ⟨pl, ⟨⟨u0, u1, u2⟩, ⟨u3, u4, u5⟩, ⟨u6, u7, u8⟩⟩, rfl, gA.trans g6, ⟨r0, r1, r2, g6 _ _ fin, g6 _ _ w0, g6 _ _ w1, g6 _ _ w2⟩, ⟨⟨b0, b1, b2⟩, ⟨b3, b4', b5⟩, ⟨b6, b7, b8⟩⟩, c'⟩
  rintro _ H8 ⟨pr, t', rfl, g8, hL, bt, mt⟩
  exact ⟨_, rfl, q pr H8 t' g8 hL bt mt⟩
theorem ok_form {f : Addr} {fd : FuncData} (F : Fun K "_law_form" "_law_form" s_form f fd) (T : Txt K mg t)  : FnOk P w K mg base CX0 1 f fd ["_law_rows_here", "_law_times_here"] (spForm) := by
  refine F.ok sc_form (fun vs H Q E h => ?_) (fun cdv A outer s H vs Q E hr h => ?_)
  · obtain ⟨_, _, _, rfl, _⟩ := h
    rfl
  obtain ⟨p, t', c, rfl, hL, bt, bc, q⟩ := h
  obtain ⟨r0, r1, r2, hp, h0, h1, h2⟩ := hL
  refine ⟨_, pss_cons (ps_asg (pv 0) (pg_lst rfl (pgs_cons (pg_name (i := 3) sc_form.nd rfl (Or.inr rfl)) (pgs_cons (pg_name (i := 4) sc_form.nd rfl (Or.inr rfl)) (pgs_cons (pg_name (i := 5) sc_form.nd rfl (Or.inr rfl)) pgs_nil)))))
    (pss_cons (ps_setC0 (k := 2) sc_form.nd rfl (Or.inl rfl) rfl rfl (CompScope.gen (cl := [("_law_two", _), ("_law_three", _), ("_law_one", _)]) ["_law_one", "_law_three", "_law_two"] [3, 5, 4] [(".0", .local), ("_law_k", .local), ("_law_one", .cell), ("_law_three", .cell), ("_law_two", .cell)] rfl (by decide +kernel) (by decide +kernel) rfl rfl (by intro p hp; simp only [List.mem_cons, List.not_mem_nil, or_false] at hp; rcases hp with rfl | rfl | rfl <;> rfl) rfl (by intro p hp h; simp only [List.mem_cons, List.not_mem_nil, or_false] at hp; rcases hp with rfl | rfl | rfl | rfl | rfl <;> first | rfl | (rcases h with h | h <;> cases h)) (by decide) (by decide +kernel) rfl (by intro p hp; simp only [List.zip_cons_cons, List.zip_nil_left, List.mem_cons, List.not_mem_nil, or_false] at hp; rcases hp with rfl | rfl | rfl <;> exact ⟨rfl, rfl⟩)) (pi_range1 rfl T.z_range (pa_cons pe_int pa_nil)) (fun C s0 H0 fp pins => pe_op op_sub (pe_op op_mulG (pe_ix (ixK_tup (K := K) rfl) (pv 1) (pv 0) (fun _ _ => rfl)) (pe_ix (ixK_tup (K := K) rfl) (pv 2) (pv 0) (fun _ _ => rfl))) (pe_op op_mulG (pe_ix (ixK_tup (K := K) rfl) (pv 3) (pv 0) (fun _ _ => rfl)) (pe_ix (ixK_tup (K := K) rfl) (pv 3) (pv 0) (fun _ _ => rfl)))) (Or.inl rfl))
    (pss_cons (ps_for PassesOwn.never rfl (pi_list (pe_lst (pa_cons (pe_tup (pa_cons pe_int (pa_cons pe_int pa_nil))) (pa_cons (pe_tup (pa_cons pe_int (pa_cons pe_int pa_nil))) (pa_cons (pe_tup (pa_cons pe_int (pa_cons pe_int pa_nil))) pa_nil))))) (pg_tup rfl (pgs_cons (pg_name (i := 6) sc_form.nd rfl (Or.inl rfl)) (pgs_cons (pg_name (i := 7) sc_form.nd rfl (Or.inl rfl)) pgs_nil))) (pss_cons (ps_set (i := 8) sc_form.nd rfl (Or.inl rfl) (pe_op op_add (pe_op op_mulG (pe_ix ix_tup (pv 3) (pv 6) (fun _ _ => rfl)) (pe_ix ix_tup (pv 5) (pv 7) (fun _ _ => rfl))) (pe_op op_mulG (pe_ix ix_tup (pv 3) (pv 7) (fun _ _ => rfl)) (pe_ix ix_tup (pv 5) (pv 6) (fun _ _ => rfl)))))
    (pss_one (ps_expr (pe_bm PySem.F.plainAttrs_list PySem.F.slot_list_append PySem.F.type_list_append mt_append (pv 2) (pa_cons (pe_op op_sub (pv 8) (pe_op op_mulG (pe_op op_mulG pe_int (pe_ix ix_tup (pv 4) (pv 6) (fun _ _ => rfl))) (pe_ix ix_tup (pv 4) (pv 7) (fun _ _ => rfl)))) pa_nil))))))
    (pss_one (ps_ret (pe_callTy call_tuple_of rfl T.z_tuple b_tuple (pa_cons (pe_compC rfl (CompScope.gen (cl := [("_law_times_here", _)]) ["_law_times_here"] [1] [(".0", .local), ("_law_number", .local), ("_law_times_here", .cell)] rfl (by decide +kernel) (by decide +kernel) rfl rfl (by intro p hp; simp only [List.mem_cons, List.not_mem_nil, or_false] at hp; rcases hp with rfl <;> rfl) rfl (by intro p hp h; simp only [List.mem_cons, List.not_mem_nil, or_false] at hp; rcases hp with rfl | rfl | rfl <;> first | rfl | (rcases h with h | h <;> cases h)) (by decide) (by decide +kernel) rfl (by intro p hp; simp only [List.zip_cons_cons, List.zip_nil_left, List.mem_cons, List.not_mem_nil, or_false] at hp; rcases hp with rfl <;> exact ⟨rfl, rfl⟩)) (pi_list (pv 2)) (fun C s0 H0 fp pins => pe_op op_mulG (pv 1) (pv 0))) pa_nil)))))), ?_⟩
  refine ⟨_, rfl, p, _, rfl, SqL.of hp, rfl, _, _, rfl, _, _, rfl, _, _, rfl, rfl, ?_⟩
  refine ⟨3, rfl, by decide, by decide, comp_rangeF 3 (by decide) (fun j => .int (cmp t'.r0 j * cmp t'.r2 j - cmp t'.r1 j * cmp t'.r1 j)) ?_ ?_⟩
  · intro j H' Q' hj g k
    exact ⟨_, rfl, _, rfl, r0, _, _, _, rfl, rfl, SqT.of (g _ _ h0), at3 hj, _, rfl, _, rfl, r2, _, _, _, rfl, rfl, SqT.of (g _ _ h2), at3 hj, _, _, rfl, rfl, okM (bd_cmp bt.r0 j) (bd_cmp bt.r2 j), _, rfl, _, rfl, r1, _, _, _, rfl, rfl, SqT.of (g _ _ h1), at3 hj, _, rfl, _, rfl, r1, _, _, _, rfl, rfl, SqT.of (g _ _ h1), at3 hj, _, _, rfl, rfl, okM (bd_cmp bt.r1 j) (bd_cmp bt.r1 j), _, _, rfl, rfl, k _ (Same.refl _)⟩
  intro l H1 g1 nl hl
  refine ⟨(by show 2 ≤ sizeLine; decide), fun m0 k0 => ⟨(by show 2 ≤ sizeLine; decide), fun m1 k1 => ⟨(by show 2 ≤ sizeLine; decide), fun m2 k2 => ⟨(by show 3 ≤ sizeLine; decide), fun m3 k3 => ?_⟩⟩⟩⟩
  have f0 := same_new k0 (.tup [.int 1, .int 2])
  have f1 := same_new k1 (.tup [.int 0, .int 2])
  have f2 := same_new k2 (.tup [.int 0, .int 1])
  have f3 := same_new k3 (.lst [.ref m0, .ref m1, .ref m2])
  have w0 := f3 _ _ (f2 _ _ (f1 m0 _ upd_same))
  have w1 := f3 _ _ (f2 m1 _ upd_same)
  have w2 := f3 m2 _ upd_same
  have hl1 := f2 _ _ (f1 _ _ (f0 _ _ hl))
  have ne3 : m3 ≠ l := Ne.symm (ne_of_none hl1 k3)
  have ne0 : m0 ≠ l := Ne.symm (ne_of_none hl k0)
  have ne1 : m1 ≠ l := Ne.symm (ne_of_none (f0 _ _ hl) k1)
  have ne2 : m2 ≠ l := Ne.symm (ne_of_none (f1 _ _ (f0 _ _ hl)) k2)
  have gf := g1.trans (f0.trans (f1.trans (f2.trans f3)))
  refine ⟨m3, rfl, ⟨_, SqL.of upd_same⟩, for_list (xs := [.ref m0, .ref m1, .ref m2]) (fun i σ H' => ∃ (kk jj bb : Option V), σ = [some (.ref p), some (.int c), some (.ref l), some (.ref r0), some (.ref r1), some (.ref r2), kk, jj, bb] ∧ Same H H' ∧ H' m0 = some (.tup [.int 1, .int 2]) ∧ H' m1 = some (.tup [.int 0, .int 2]) ∧ H' m2 = some (.tup [.int 0, .int 1]) ∧ H' m3 = some (.lst [.ref m0, .ref m1, .ref m2]) ∧
    H' l = some (.lst (([t'.r0.x * t'.r2.x - t'.r1.x * t'.r1.x, t'.r0.y * t'.r2.y - t'.r1.y * t'.r1.y, t'.r0.z * t'.r2.z - t'.r1.z * t'.r1.z] ++ [t'.r0.y * t'.r2.z + t'.r0.z * t'.r2.y - 2 * t'.r1.y * t'.r1.z, t'.r0.x * t'.r2.z + t'.r0.z * t'.r2.x - 2 * t'.r1.x * t'.r1.z, t'.r0.x * t'.r2.y + t'.r0.y * t'.r2.x - 2 * t'.r1.x * t'.r1.y].take i).map V.int))) ⟨none, none, none, rfl, gf, w0, w1, w2, upd_same, f3 _ _ hl1⟩ ?_ ?_ ?_⟩
  · rintro i σ H' hi ⟨_, _, _, _, _, _, _, _, h3, _⟩
    exact SqL.of h3
  · rintro i x σ H' hx ⟨kk, jj, bb, rfl, g, e0, e1, e2, e3, el⟩
    have q0 := g _ _ h0
    have q1 := g _ _ h1
    have q2 := g _ _ h2
    have keep : ∀ (o : HO), Same H (upd H' l o) ∧ (upd H' l o) m0 = some (.tup [.int 1, .int 2]) ∧ (upd H' l o) m1 = some (.tup [.int 0, .int 2]) ∧ (upd H' l o) m2 = some (.tup [.int 0, .int 1]) ∧ (upd H' l o) m3 = some (.lst [.ref m0, .ref m1, .ref m2]) := fun o =>
      ⟨same_upd g nl, by rw [upd_ne ne0]; exact e0, by rw [upd_ne ne1]; exact e1, by rw [upd_ne ne2]; exact e2, by rw [upd_ne ne3]; exact e3⟩
    match i, hx with
    | 0, hx =>
      cases hx
      refine ⟨m0, _, rfl, SqT.of e0, rfl, _, _, rfl, _, _, rfl, rfl, ?_⟩
      refine ⟨_, rfl, _, rfl, r0, _, _, _, rfl, rfl, SqT.of q0, rfl, _, rfl, _, rfl, r2, _, _, _, rfl, rfl, SqT.of q2, rfl, _, _, rfl, rfl, okM bt.r0.y bt.r2.z, _, rfl, _, rfl, r0, _, _, _, rfl, rfl, SqT.of q0, rfl, _, rfl, _, rfl, r2, _, _, _, rfl, rfl, SqT.of q2, rfl, _, _, rfl, rfl, okM bt.r0.z bt.r2.y, _, _, rfl, rfl, ?_⟩
      refine ⟨_, rfl, .inl ⟨rfl, _, SqL.of el⟩, _, rfl, _, rfl, _, rfl, r1, _, _, _, rfl, rfl, SqT.of q1, rfl, _, _, rfl, rfl, ok2, _, rfl, _, rfl, r1, _, _, _, rfl, rfl, SqT.of q1, rfl, _, _, rfl, rfl, okM (bd_two bt.r1.y) bt.r1.z, _, _, rfl, rfl, l, _, _, rfl, rfl, el, (by show 3 < sizeLine; decide), ?_⟩
      obtain ⟨a1, a2, a3, a4, a5⟩ := keep (.lst [.int (t'.r0.x * t'.r2.x - t'.r1.x * t'.r1.x), .int (t'.r0.y * t'.r2.y - t'.r1.y * t'.r1.y), .int (t'.r0.z * t'.r2.z - t'.r1.z * t'.r1.z), .int (t'.r0.y * t'.r2.z + t'.r0.z * t'.r2.y - 2 * t'.r1.y * t'.r1.z)])
      exact ⟨_, _, _, rfl, a1, a2, a3, a4, a5, upd_same⟩
    | 1, hx =>
      cases hx
      refine ⟨m1, _, rfl, SqT.of e1, rfl, _, _, rfl, _, _, rfl, rfl, ?_⟩
      refine ⟨_, rfl, _, rfl, r0, _, _, _, rfl, rfl, SqT.of q0, rfl, _, rfl, _, rfl, r2, _, _, _, rfl, rfl, SqT.of q2, rfl, _, _, rfl, rfl, okM bt.r0.x bt.r2.z, _, rfl, _, rfl, r0, _, _, _, rfl, rfl, SqT.of q0, rfl, _, rfl, _, rfl, r2, _, _, _, rfl, rfl, SqT.of q2, rfl, _, _, rfl, rfl, okM bt.r0.z bt.r2.x, _, _, rfl, rfl, ?_⟩
      refine ⟨_, rfl, .inl ⟨rfl, _, SqL.of el⟩, _, rfl, _, rfl, _, rfl, r1, _, _, _, rfl, rfl, SqT.of q1, rfl, _, _, rfl, rfl, ok2, _, rfl, _, rfl, r1, _, _, _, rfl, rfl, SqT.of q1, rfl, _, _, rfl, rfl, okM (bd_two bt.r1.x) bt.r1.z, _, _, rfl, rfl, l, _, _, rfl, rfl, el, (by show 4 < sizeLine; decide), ?_⟩
      obtain ⟨a1, a2, a3, a4, a5⟩ := keep (.lst [.int (t'.r0.x * t'.r2.x - t'.r1.x * t'.r1.x), .int (t'.r0.y * t'.r2.y - t'.r1.y * t'.r1.y), .int (t'.r0.z * t'.r2.z - t'.r1.z * t'.r1.z), .int (t'.r0.y * t'.r2.z + t'.r0.z * t'.r2.y - 2 * t'.r1.y * t'.r1.z), .int (t'.r0.x * t'.r2.z + t'.r0.z * t'.r2.x - 2 * t'.r1.x * t'.r1.z)])
      exact ⟨_, _, _, rfl, a1, a2, a3, a4, a5, upd_same⟩
    | 2, hx =>
      cases hx
      refine ⟨m2, _, rfl, SqT.of e2, rfl, _, _, rfl, _, _, rfl, rfl, ?_⟩
      refine ⟨_, rfl, _, rfl, r0, _, _, _, rfl, rfl, SqT.of q0, rfl, _, rfl, _, rfl, r2, _, _, _, rfl, rfl, SqT.of q2, rfl, _, _, rfl, rfl, okM bt.r0.x bt.r2.y, _, rfl, _, rfl, r0, _, _, _, rfl, rfl, SqT.of q0, rfl, _, rfl, _, rfl, r2, _, _, _, rfl, rfl, SqT.of q2, rfl, _, _, rfl, rfl, okM bt.r0.y bt.r2.x, _, _, rfl, rfl, ?_⟩
      refine ⟨_, rfl, .inl ⟨rfl, _, SqL.of el⟩, _, rfl, _, rfl, _, rfl, r1, _, _, _, rfl, rfl, SqT.of q1, rfl, _, _, rfl, rfl, ok2, _, rfl, _, rfl, r1, _, _, _, rfl, rfl, SqT.of q1, rfl, _, _, rfl, rfl, okM (bd_two bt.r1.x) bt.r1.y, _, _, rfl, rfl, l, _, _, rfl, rfl, el, (by show 5 < sizeLine; decide), ?_⟩
      obtain ⟨a1, a2, a3, a4, a5⟩ := keep (.lst [.int (t'.r0.x * t'.r2.x - t'.r1.x * t'.r1.x), .int (t'.r0.y * t'.r2.y - t'.r1.y * t'.r1.y), .int (t'.r0.z * t'.r2.z - t'.r1.z * t'.r1.z), .int (t'.r0.y * t'.r2.z + t'.r0.z * t'.r2.y - 2 * t'.r1.y * t'.r1.z), .int (t'.r0.x * t'.r2.z + t'.r0.z * t'.r2.x - 2 * t'.r1.x * t'.r1.z), .int (t'.r0.x * t'.r2.y + t'.r0.y * t'.r2.x - 2 * t'.r1.x * t'.r1.y)])
      exact ⟨_, _, _, rfl, a1, a2, a3, a4, a5, upd_same⟩
    | n + 3, hx => cases hx
  · rintro σ H' ⟨kk, jj, bb, rfl, g, _, _, _, _, el⟩
    refine ⟨_, rfl, l, rfl, ⟨_, SqL.of el⟩, comp_listF (SqL.of el) (by show 6 < sizeLine; decide) (vtm c) (fun H2 g2 => SqL.of (g2 _ _ el)) ?_ ?_⟩
    · intro i v H2 Q2 hv g2 k
      obtain ⟨n, hn, rfl⟩ := List.mem_map.mp (List.mem_of_getElem? hv)
      exact ⟨_, rfl, _, rfl, _, _, rfl, rfl, okc bc, k _ (Same.refl _)⟩
    · intro l4 H4 g4 _ hl4
      exact ⟨l4, _, rfl, .inl ⟨SqL.of hl4, fun z nz => q z _ (g.trans (g4.trans (same_new nz _))) upd_same⟩⟩
theorem ok_spot {f : Addr} {fd : FuncData} (F : Fun K "_law_spot" "_law_spot" s_spot f fd) (T : Txt K mg t) (H_beside : Has P w K mg base CX0 1 "_law_beside" ["_law_one", "_law_other"] (spCr)) (H_lowest : Has P w K mg base CX0 2 "_law_lowest" ["_law_numbers"] (spLow)) : FnOk P w K mg base CX0 3 f fd ["_law_rows_here", "_law_s", "_law_t"] (spSpot) := by
  obtain ⟨f_beside, d_beside, G_beside, b_beside, k_beside, m_beside⟩ := H_beside
  obtain ⟨f_lowest, d_lowest, G_lowest, b_lowest, k_lowest, m_lowest⟩ := H_lowest
  refine F.ok sc_spot (fun vs H Q E h => ?_) (fun cdv A outer s H vs Q E hr h => ?_)
  · obtain ⟨_, _, _, _, rfl, _⟩ := h
    rfl
  obtain ⟨p, t', s1, u, rfl, hL, bt, mt, bs1, bu, q⟩ := h
  have hr_beside := hr.mono (show 1 ≤ 2 by decide)
  have hr_lowest := hr.mono (show 2 ≤ 2 by decide)
  obtain ⟨r0, r1, r2, hp, h0, h1, h2⟩ := hL
  refine ⟨_, pss_cut (ps_if (PW.pt (pw_and (pt_cmpR op_eq (pv 1) pe_int (nomark _)) (pw_and1 (pt_cmpR op_eq (pv 2) pe_int (nomark _))))) (pss_one (ps_set (i := 1) sc_spot.nd rfl (Or.inl rfl) pe_int)) pss_nil)
    (pss_cons (ps_asg (pv 0) (pg_lst rfl (pgs_cons (pg_name (i := 6) sc_spot.nd rfl (Or.inl rfl)) (pgs_cons (pg_name (i := 7) sc_spot.nd rfl (Or.inl rfl)) (pgs_cons (pg_name (i := 8) sc_spot.nd rfl (Or.inl rfl)) pgs_nil)))))
    (pss_cons (ps_set (i := 3) sc_spot.nd rfl (Or.inl rfl) (pe_lst (pa_cons (pe_call G_beside hr_beside rfl m_beside k_beside b_beside .nil pass0 (pa_cons (pv 7) (pa_cons (pv 8) pa_nil))) (pa_cons (pe_call G_beside hr_beside rfl m_beside k_beside b_beside .nil pass0 (pa_cons (pv 8) (pa_cons (pv 6) pa_nil))) (pa_cons (pe_call G_beside hr_beside rfl m_beside k_beside b_beside .nil pass0 (pa_cons (pv 6) (pa_cons (pv 7) pa_nil))) pa_nil)))))
    (pss_cons (ps_set (i := 4) sc_spot.nd rfl (Or.inl rfl) (pe_lst pa_nil))
    (pss_cons (ps_for PassesOwn.never rfl (pi_range1 rfl T.z_range (pa_cons pe_int pa_nil)) (pg_name (i := 5) sc_spot.nd rfl (Or.inl rfl)) (pss_cons (ps_set (i := 9) sc_spot.nd rfl (Or.inl rfl) (pe_op op_add (pe_op op_mulG (pe_op op_mulG (pv 1) (pv 1)) (pe_ix ix_tup (pe_ix ix_list (pv 3) pe_int (fun _ _ => rfl)) (pv 5) (fun _ _ => rfl))) (pe_op op_mulG (pe_op op_mulG (pv 1) (pv 2)) (pe_ix ix_tup (pe_ix ix_list (pv 3) pe_int (fun _ _ => rfl)) (pv 5) (fun _ _ => rfl)))))
    (pss_one (ps_expr (pe_bm PySem.F.plainAttrs_list PySem.F.slot_list_append PySem.F.type_list_append mt_append (pv 4) (pa_cons (pe_op op_add (pv 9) (pe_op op_mulG (pe_op op_mulG (pv 2) (pv 2)) (pe_ix ix_tup (pe_ix ix_list (pv 3) pe_int (fun _ _ => rfl)) (pv 5) (fun _ _ => rfl)))) pa_nil))))))
    (pss_one (ps_ret (pe_call G_lowest hr_lowest rfl m_lowest k_lowest b_lowest .nil pass0 (pa_cons (pv 4) pa_nil)))))))), ?_⟩
  refine ⟨fun σ' H' => ∃ s : Int, σ' = [some (.ref p), some (.int s), some (.int u), none, none, none, none, none, none, none] ∧ H = H' ∧ Bd 21 s ∧ (s ≠ 0 ∨ u ≠ 0), ?_, ?_⟩
  · refine ⟨_, rfl, rfl, _, rfl, ite2 (fun c => ?_) (fun c => ?_)⟩
    · refine ⟨_, rfl, rfl, _, rfl, ite2 (fun c => ?_) (fun c => ?_)⟩
      · exact ⟨1, rfl, rfl, bd1, .inl (by decide)⟩
      · exact ⟨s1, rfl, rfl, bs1, .inr fun z => decF c (congrArg V.int z)⟩
    · exact iteF ⟨s1, rfl, rfl, bs1, .inl fun z => decF c (congrArg V.int z)⟩
  rintro _ _ ⟨s, rfl, rfl, bs, su⟩
  refine ⟨_, rfl, p, _, rfl, SqL.of hp, rfl, _, _, rfl, _, _, rfl, _, _, rfl, rfl, ?_⟩
  refine ⟨_, rfl, _, rfl, r1, r2, _, _, rfl, h1, h2, bt.r1.mono', bt.r2.mono', fun z0 H1 g1 e0 => ?_⟩
  refine ⟨_, rfl, _, rfl, r2, r0, _, _, rfl, g1 _ _ h2, g1 _ _ h0, bt.r2.mono', bt.r0.mono', fun z1 H2 g2 e1 => ?_⟩
  refine ⟨_, rfl, _, rfl, r0, r1, _, _, rfl, g2 _ _ (g1 _ _ h0), g2 _ _ (g1 _ _ h1), bt.r0.mono', bt.r1.mono', fun z2 H3 g3 e2 => ?_⟩
  refine ⟨(by show 3 ≤ sizeLine; decide), fun sd nsd => ⟨(by show 0 ≤ sizeLine; decide), fun l nl => ?_⟩⟩
  have f1 := same_new nsd (.lst [.ref z0, .ref z1, .ref z2])
  have f2 := same_new nl (.lst [])
  have g13 := g1.trans (g2.trans g3)
  have c12 := bd_cr bt.r1 bt.r2
  have c20 := bd_cr bt.r2 bt.r0
  have c01 := bd_cr bt.r0 bt.r1
  have nlH : H l = none := g13.free (f1.free nl)
  have v0 := f2 _ _ (f1 _ _ (g3 _ _ (g2 _ _ e0)))
  have v1 := f2 _ _ (f1 _ _ (g3 _ _ e1))
  have v2 := f2 _ _ (f1 _ _ e2)
  have vs := f2 sd (.lst [.ref z0, .ref z1, .ref z2]) upd_same
  have nes : sd ≠ l := ne_of_none upd_same nl
  have ne0 : z0 ≠ l := ne_of_none (f1 _ _ (g3 _ _ (g2 _ _ e0))) nl
  have ne1 : z1 ≠ l := ne_of_none (f1 _ _ (g3 _ _ e1)) nl
  have ne2 : z2 ≠ l := ne_of_none (f1 _ _ e2) nl
  refine ⟨3, rfl, by decide, by decide, for_range (fun i σ H' => ∃ (jj tt : Option V), σ = [some (.ref p), some (.int s), some (.int u), some (.ref sd), some (.ref l), jj, some (.ref r0), some (.ref r1), some (.ref r2), tt] ∧ Same H H' ∧ H' sd = some (.lst [.ref z0, .ref z1, .ref z2]) ∧ S3 H' z0 (cr t'.r1 t'.r2) ∧ S3 H' z1 (cr t'.r2 t'.r0) ∧ S3 H' z2 (cr t'.r0 t'.r1) ∧
    H' l = some (.lst ((List.range i).map fun j => V.int (sp1 s u (cmp (cr t'.r1 t'.r2) j) (cmp (cr t'.r2 t'.r0) j) (cmp (cr t'.r0 t'.r1) j))))) ⟨none, none, rfl, g13.trans (f1.trans f2), vs, v0, v1, v2, upd_same⟩ ?_ ?_⟩
  · rintro i σ H' hi ⟨jj, tt, rfl, g, hs, w0, w1, w2, hl⟩
    have bss := bs.mul bs
    have bsu := bs.mul bu
    have buu := bu.mul bu
    refine ⟨_, rfl, _, rfl, _, _, rfl, rfl, okM bs bs, _, rfl, sd, _, _, _, rfl, rfl, SqL.of hs, rfl, _, rfl, z0, _, _, _, rfl, rfl, SqT.of w0, at3 hi, _, _, rfl, rfl, okM bss (bd_cmp c12 i), _, rfl, _, rfl, _, _, rfl, rfl, okM bs bu, _, rfl, sd, _, _, _, rfl, rfl, SqL.of hs, rfl, _, rfl, z1, _, _, _, rfl, rfl, SqT.of w1, at3 hi, _, _, rfl, rfl, okM bsu (bd_cmp c20 i), _, _, rfl, rfl, ?_⟩
    refine ⟨_, rfl, .inl ⟨rfl, _, SqL.of hl⟩, _, rfl, _, rfl, _, rfl, _, _, rfl, rfl, okM bu bu, _, rfl, sd, _, _, _, rfl, rfl, SqL.of hs, rfl, _, rfl, z2, _, _, _, rfl, rfl, SqT.of w2, at3 hi, _, _, rfl, rfl, okM buu (bd_cmp c01 i), _, _, rfl, rfl, l, _, _, rfl, rfl, hl, ?_, ?_⟩
    · rw [List.length_map, List.length_range]
      exact Nat.lt_of_lt_of_le hi (by decide)
    refine ⟨_, _, rfl, same_upd g nlH, by rw [upd_ne nes]; exact hs, ?_, ?_, ?_, ?_⟩
    · show (upd H' l _) z0 = _
      rw [upd_ne ne0]
      exact w0
    · show (upd H' l _) z1 = _
      rw [upd_ne ne1]
      exact w1
    · show (upd H' l _) z2 = _
      rw [upd_ne ne2]
      exact w2
    · rw [List.range_succ, List.map_append]
      exact upd_same
  · rintro σ H' ⟨jj, tt, rfl, g, hs, w0, w1, w2, hl⟩
    have hl' : H' l = some (Ho true ([(sp t' s u).x, (sp t' s u).y, (sp t' s u).z].map V.int)) := hl
    have n3 := sp_nz mt su
    have bS := bp_sp bt bs bu
    have wS := fun c => wo_sp t' c s u
    generalize sp t' s u = S at hl' n3 bS wS
    refine ⟨_, rfl, l, true, _, rfl, hl', by show 3 ≤ 9; decide, bp_mem (bS.mono' (k := 900)), n3_fst n3, fun r H4 e g4 h4 e0 hd hg hs => ?_⟩
    obtain ⟨lR, eP⟩ := low3 n3 e0 hd hg hs
    refine q r H4 ⟨S.x.fdiv e, S.y.fdiv e, S.z.fdiv e⟩ (g.trans g4) h4 lR (bp_div e0 ?_) fun c => wo_of_tm e0 ?_
    · rw [← eP]
      exact bS
    · rw [← eP]
      exact wS c
theorem ok_cross {f : Addr} {fd : FuncData} (F : Fun K "_law_cross" "_law_cross" s_cross f fd) (T : Txt K mg t) (H_worth : Has P w K mg base CX0 1 "_law_worth" ["_law_form_here", "_law_spot_here"] (spLw)) : FnOk P w K mg base CX0 2 f fd ["_law_form_here", "_law_one", "_law_other"] (spCross) := by
  obtain ⟨f_worth, d_worth, G_worth, b_worth, k_worth, m_worth⟩ := H_worth
  refine F.ok sc_cross (fun vs H Q E h => ?_) (fun cdv A outer s H vs Q E hr h => ?_)
  · obtain ⟨_, _, _, _, _, _, rfl, _⟩ := h
    rfl
  obtain ⟨p, q', r, F, P', R', rfl, hp, hq, hr', bf, bP, bR, q⟩ := h
  have hr_worth := hr.mono (show 1 ≤ 1 by decide)
  unfold S3 at hq hr'
  refine ⟨_, pss_cons (ps_set (i := 3) sc_cross.nd rfl (Or.inl rfl) (pe_callTy call_tuple_of rfl T.z_tuple b_tuple (pa_cons (pe_compC rfl (CompScope.gen (cl := [("_law_other", _), ("_law_one", _)]) ["_law_one", "_law_other"] [1, 2] [(".0", .local), ("_law_k", .local), ("_law_one", .cell), ("_law_other", .cell)] rfl (by decide +kernel) (by decide +kernel) rfl rfl (by intro p hp; simp only [List.mem_cons, List.not_mem_nil, or_false] at hp; rcases hp with rfl | rfl <;> rfl) rfl (by intro p hp h; simp only [List.mem_cons, List.not_mem_nil, or_false] at hp; rcases hp with rfl | rfl | rfl | rfl <;> first | rfl | (rcases h with h | h <;> cases h)) (by decide) (by decide +kernel) rfl (by intro p hp; simp only [List.zip_cons_cons, List.zip_nil_left, List.mem_cons, List.not_mem_nil, or_false] at hp; rcases hp with rfl | rfl <;> exact ⟨rfl, rfl⟩)) (pi_range1 rfl T.z_range (pa_cons pe_int pa_nil)) (fun C s0 H0 fp pins => pe_op op_add (pe_ix (ixK_tup (K := K) rfl) (pv 1) (pv 0) (fun _ _ => rfl)) (pe_ix (ixK_tup (K := K) rfl) (pv 2) (pv 0) (fun _ _ => rfl)))) pa_nil)))
    (pss_one (ps_ret (pe_op op_sub (pe_op op_sub (pe_call G_worth hr_worth rfl m_worth k_worth b_worth .nil pass0 (pa_cons (pv 0) (pa_cons (pv 3) pa_nil))) (pe_call G_worth hr_worth rfl m_worth k_worth b_worth .nil pass0 (pa_cons (pv 0) (pa_cons (pv 1) pa_nil)))) (pe_call G_worth hr_worth rfl m_worth k_worth b_worth .nil pass0 (pa_cons (pv 0) (pa_cons (pv 2) pa_nil)))))), ?_⟩
  refine ⟨3, rfl, by decide, by decide, comp_rangeF 3 (by decide) (fun j => .int (cmp P' j + cmp R' j)) ?_ ?_⟩
  · intro j H' Q' hj g k
    exact ⟨_, rfl, _, rfl, q', _, _, _, rfl, rfl, SqT.of (g _ _ hq), at3 hj, _, rfl, _, rfl, r, _, _, _, rfl, rfl, SqT.of (g _ _ hr'), at3 hj, _, _, rfl, rfl, k _ (Same.refl _)⟩
  intro l H1 g1 _ hl
  refine ⟨l, _, rfl, .inl ⟨SqL.of hl, fun z nz => ?_⟩⟩
  have gz := g1.trans (same_new nz (.tup ((List.range 3).map fun j => V.int (cmp P' j + cmp R' j))))
  have hz : S3 (upd H1 z (.tup ((List.range 3).map fun j => V.int (cmp P' j + cmp R' j)))) z (ad P' R') := upd_same
  refine ⟨_, rfl, _, rfl, p, z, F, ad P' R', rfl, gz _ _ hp, hz, bf, (bp_ad bP bR).mono', ?_⟩
  refine ⟨_, rfl, _, rfl, p, q', F, P', rfl, gz _ _ hp, gz _ _ hq, bf, bP.mono', _, _, rfl, rfl, ?_⟩
  refine ⟨_, rfl, _, rfl, p, r, F, R', rfl, gz _ _ hp, gz _ _ hr', bf, bR.mono', _, _, rfl, rfl, ?_⟩
  have fin := q _ gz
  rw [← wo_ad, ← lw_eq, ← lw_eq, ← lw_eq] at fin
  exact fin
theorem ok_is_spot {f : Addr} {fd : FuncData} (F : Fun K "_law_is_spot" "_law_is_spot" s_is_spot f fd) (T : Txt K mg t) (H_lowest : Has P w K mg base CX0 2 "_law_lowest" ["_law_numbers"] (spLow)) : FnOk P w K mg base CX0 3 f fd ["_law_found"] (spIsSpot) := by
  obtain ⟨f_lowest, d_lowest, G_lowest, b_lowest, k_lowest, m_lowest⟩ := H_lowest
  refine F.ok sc_is_spot (fun vs H Q E h => ?_) (fun cdv A outer s H vs Q E hr h => ?_)
  · obtain ⟨_, _, rfl, _⟩ := h
    rfl
  obtain ⟨p, P', rfl, hp, low, bp, q⟩ := h
  have hr_lowest := hr.mono (show 2 ≤ 2 by decide)
  have hu64 := hu64_of hr
  have n3 := low.n3
  refine ⟨_, pss_cons (ps_if (PW.pt (pw_or (pt_not (pt_val (pe_callB call_isi rfl T.z_isinstance b_isi (pa_cons (pv 0) (pa_cons (pe_bltn (v := .ty "tuple") rfl T.z_tuple b_tuple rfl) pa_nil))) (fun _ => rfl))) (pw_or (pt_cmpR op_ne (pe_callB call_len_seq rfl T.z_len PySem.boot_len (pa_cons (pv 0) pa_nil)) pe_int (nomark _)) (pw_or1 (pt_cmpR (op_eqD hu64) (pv 0) (pe_tup (pa_cons pe_int (pa_cons pe_int (pa_cons pe_int pa_nil)))) (nomark _)))))) (pss_one (ps_ret pe_bl)) pss_nil)
    (pss_cons (ps_if (pt_not (pt_val (pe_callB (call_all rfl) rfl T.z_all b_all (pa_cons (pe_compC rfl (CompScope.gen (cl := []) [] [] [(".0", .local), ("_law_one", .local), ("isinstance", .globalImplicit), ("int", .globalImplicit), ("bool", .globalImplicit)] rfl (by decide +kernel) (by decide +kernel) rfl rfl (by intro p hp; cases hp) rfl (by intro p hp h; simp only [List.mem_cons, List.not_mem_nil, or_false] at hp; rcases hp with rfl | rfl | rfl | rfl | rfl <;> first | rfl | (rcases h with h | h <;> cases h)) (by decide) (by decide +kernel) rfl (by intro p hp; cases hp)) (pi_tup (pv 0)) (fun C s0 H0 fp pins => pe_and (pe_callB (callK_isi rfl) rfl T.z_isinstance b_isi (pa_cons (pv 0) (pa_cons (pe_bltn (v := .ty "int") rfl T.z_int b_int rfl) pa_nil))) (pe_one (pe_not (pe_callB (callK_isi rfl) rfl T.z_isinstance b_isi (pa_cons (pv 0) (pa_cons (pe_bltn (v := .ty "bool") rfl T.z_bool b_bool rfl) pa_nil))))))) pa_nil)) (fun _ => rfl))) (pss_one (ps_ret pe_bl)) pss_nil)
    (pss_one (ps_ret (pe_cmpR (op_eqD hu64) (pe_call G_lowest hr_lowest rfl m_lowest k_lowest b_lowest .nil pass0 (pa_cons (pv 0) pa_nil)) (pv 0) (nomark _))))), ?_⟩
  have hp' : H p = some (.tup [.int P'.x, .int P'.y, .int P'.z]) := hp
  refine ⟨_, rfl, _, _, _, _, rfl, .inr ⟨_, rfl⟩, .of (.tup hp'), rfl, _, rfl, iteF ?_⟩
  refine ⟨_, rfl, p, _, rfl, .inr (SqT.of hp'), rfl, _, rfl, iteNS rfl ?_⟩
  refine ⟨_, rfl, (by show 3 ≤ sizeLine; decide), fun z nz => ?_⟩
  have gz := same_new nz (t3 ⟨0, 0, 0⟩)
  have hpz : S3 (upd H z (t3 ⟨0, 0, 0⟩)) p P' := gz _ _ hp
  have hzz : S3 (upd H z (t3 ⟨0, 0, 0⟩)) z ⟨0, 0, 0⟩ := upd_same
  refine ⟨_, _, DA3 hpz, DA3 hzz, rfl, rfl, _, rfl, iteFE ?_ ?_⟩
  · rw [eqv3]
    refine decide_eq_false fun e => ?_
    rw [e] at n3
    unfold N3 at n3
    simp at n3
  refine ⟨_, rfl, p, rfl, ⟨_, SqT.of hpz⟩, comp_tupF (xs := v3 P') (SqT.of hpz) (by show 3 < sizeLine; decide) (fun _ => .bl true) (fun H' g => SqT.of (g _ _ hpz)) ?_ ?_⟩
  · intro i v H' Q' hv g k
    obtain ⟨n, rfl, _⟩ := get3 hv
    exact ⟨_, rfl, _, _, _, _, rfl, .inr ⟨_, rfl⟩, .of (.int _), rfl, _, rfl, iteT ⟨_, rfl, _, _, _, _, rfl, .inr ⟨_, rfl⟩, .of (.int _), T.i_ib, _, rfl, k _ (Same.refl _)⟩⟩
  intro l H2 g2 _ hl
  refine ⟨l, [true, true, true], rfl, hl, _, rfl, iteF ?_⟩
  have hp2 : S3 H2 p P' := g2 _ _ hpz
  refine ⟨_, rfl, p, false, [P'.x, P'.y, P'.z], rfl, hp2, by show 3 ≤ 9; decide, bp_mem bp, n3_fst n3, fun r H3 e g3 h3' e0 hd hg hs => ?_⟩
  obtain ⟨lR, eP⟩ := low3 n3 e0 hd hg hs
  have h3 : S3 H3 r ⟨P'.x.fdiv e, P'.y.fdiv e, P'.z.fdiv e⟩ := h3'
  have eR := low_tm (d := e) (e := 1) lR low e0 (eP.symm.trans (tm_one P'))
  rw [eR] at h3
  refine ⟨_, rfl, _, _, DA3 h3, DA3 (g3 _ _ hp2), rfl, rfl, ?_⟩
  have fin : Q (.bl (PyData.eqv (d3 P') (d3 P'))) H3 := by
    rw [eqv3, decide_eq_true rfl]
    exact q _ (gz.trans (g2.trans g3))
  exact fin
theorem ok_times {f : Addr} {fd : FuncData} (F : Fun K "_law_times" "_law_times" s_times f fd) (T : Txt K mg t)  : FnOk P w K mg base CX0 1 f fd ["_law_cell"] (spTimes) := by
  refine F.ok sc_times (fun vs H Q E h => ?_) (fun cdv A outer s H vs Q E hr h => ?_)
  · obtain ⟨_, rfl, _⟩ := h
    rfl
  obtain ⟨c, rfl, q⟩ := h
  refine ⟨_, pss_one (ps_ret (pe_ix ix_list (pe_lst (pa_cons pe_int (pa_cons pe_int (pa_cons pe_int (pa_cons (pe_op op_sub pe_int pe_int) (pa_cons pe_int (pa_cons (pe_op op_sub pe_int pe_int) (pa_cons pe_int (pa_cons (pe_op op_add (pe_op op_pow pe_int pe_int) pe_int) pa_nil))))))))) (pe_op op_mod (pv 0) pe_int) (fun _ _ => rfl))), ?_⟩
  refine ⟨_, _, rfl, rfl, _, _, rfl, rfl, _, _, rfl, rfl, ⟨by decide, by decide, by decide⟩, _, _, rfl, rfl, (by show 8 ≤ sizeLine; decide), fun p hp => ?_⟩
  exact ⟨_, rfl, _, _, rfl, rfl, (by show (0 : Int) < 8; decide), p, _, _, _, rfl, rfl, SqL.of upd_same, (tv_at c).1, q _ (same_new hp _)⟩
theorem ok_pair {f : Addr} {fd : FuncData} (F : Fun K "_law_pair" "_law_pair" s_pair f fd) (T : Txt K mg t)  : FnOk P w K mg base CX0 1 f fd ["_law_one", "_law_other", "_law_way"] (spPair) := by
  refine F.ok sc_pair (fun vs H Q E h => ?_) (fun cdv A outer s H vs Q E hr h => ?_)
  · obtain ⟨_, _, _, rfl, _⟩ := h
    rfl
  obtain ⟨x, y, w, rfl, q⟩ := h
  refine ⟨_, pss_cons (ps_set (i := 3) sc_pair.nd rfl (Or.inl rfl) (pe_ix ix_list (pe_lst (pa_cons pe_int (pa_cons pe_int (pa_cons pe_int (pa_cons (pe_op op_pow pe_int pe_int) pa_nil))))) (pe_op op_mod (pv 2) pe_int) (fun _ _ => rfl)))
    (pss_cons (ps_set (i := 4) sc_pair.nd rfl (Or.inl rfl) (pe_op op_sub (pe_op op_mod (pe_op op_mulG (pv 0) (pe_op op_pow pe_int pe_int)) (pe_op op_add (pe_op op_mulG pe_int (pv 3)) pe_int)) (pv 3)))
    (pss_cons (ps_set (i := 5) sc_pair.nd rfl (Or.inl rfl) (pe_op op_sub (pe_op op_mod (pe_op op_mulG (pv 1) (pe_op op_pow pe_int pe_int)) (pe_op op_add (pe_op op_mulG pe_int (pv 3)) pe_int)) (pv 3)))
    (pss_one (ps_ret (pe_tup (pa_cons (pv 4) (pa_cons (pv 5) pa_nil))))))), ?_⟩
  refine ⟨_, _, rfl, rfl, ⟨by decide, by decide, by decide⟩, (by show 4 ≤ sizeLine; decide), fun p hp => ?_⟩
  obtain ⟨m, em, hm⟩ := at4 3 3 40 (10 ^ Int.toNat 6) (w % 4) (by omega) (by omega)
  have m1 : 0 ≤ m ∧ m ≤ 1000000 := by
    have e6 : (10 : Int) ^ Int.toNat 6 = 1000000 := by decide
    omega
  refine ⟨_, rfl, _, _, rfl, rfl, (by show (0 : Int) < 4; decide), p, _, _, _, rfl, rfl, SqL.of upd_same, em, ?_⟩
  refine ⟨_, rfl, _, _, rfl, rfl, ⟨by decide, by decide, by decide⟩, _, _, rfl, rfl, IntMulOk.of_right (intBits_le_64 (by decide) (by decide)), _, rfl, _, _, rfl, rfl, ok2, _, _, rfl, rfl, _, _, rfl, rfl, (by show (0 : Int) < 2 * m + 1; omega), _, rfl, _, _, rfl, rfl, ?_⟩
  refine ⟨_, rfl, _, _, rfl, rfl, ⟨by decide, by decide, by decide⟩, _, _, rfl, rfl, IntMulOk.of_right (intBits_le_64 (by decide) (by decide)), _, rfl, _, _, rfl, rfl, ok2, _, _, rfl, rfl, _, _, rfl, rfl, (by show (0 : Int) < 2 * m + 1; omega), _, rfl, _, _, rfl, rfl, ?_⟩
  have k : ∀ n : Int, Bd 20 (n % (2 * m + 1) - m) := fun n => bd20 (by have := mod_in (n := n) m1.1; omega)
  exact ⟨_, rfl, _, rfl, (by show 2 ≤ sizeLine; decide), fun r nr => q r _ _ _ ((same_new hp _).trans (same_new nr _)) upd_same (k _) (k _)⟩
theorem ok_row_product {f : Addr} {fd : FuncData} (F : Fun K "row_product" "row_product" s_row_product f fd) (T : Txt K mg t)  : FnOk P w K mg base CX0 1 f fd ["row", "P"] (spRpK K) := by
  refine F.ok sc_row_product (fun vs H Q E h => ?_) (fun cdv A outer s H vs Q E hr h => ?_)
  · obtain ⟨_, _, _, _, rfl, _⟩ := h
    rfl
  obtain ⟨p, q', r, s', rfl, hp, hq, br, bs, q⟩ := h
  unfold S3 at hp
  refine ⟨_, pss_one (ps_ret (pe_op op_add (pe_op op_add (pe_op op_mulG (pe_ix ix_tup (pv 0) pe_int (fun _ _ => rfl)) (pe_ix ix_tup (pv 1) pe_int (fun _ _ => rfl))) (pe_op op_mulG (pe_ix ix_tup (pv 0) pe_int (fun _ _ => rfl)) (pe_ix ix_tup (pv 1) pe_int (fun _ _ => rfl)))) (pe_op op_mulG (pe_ix ix_tup (pv 0) pe_int (fun _ _ => rfl)) (pe_ix ix_tup (pv 1) pe_int (fun _ _ => rfl))))), ?_⟩
  exact ⟨_, rfl, p, _, _, _, rfl, rfl, SqT.of hp, rfl, _, rfl, q', _, _, _, rfl, rfl, hq, rfl, _, _, rfl, rfl, okM br.x bs.x, _, rfl, p, _, _, _, rfl, rfl, SqT.of hp, rfl, _, rfl, q', _, _, _, rfl, rfl, hq, rfl, _, _, rfl, rfl, okM br.y bs.y, _, _, rfl, rfl, _, rfl, p, _, _, _, rfl, rfl, SqT.of hp, rfl, _, rfl, q', _, _, _, rfl, rfl, hq, rfl, _, _, rfl, rfl, okM br.z bs.z, _, _, rfl, rfl, q⟩
theorem ok_turned_by {f : Addr} {fd : FuncData} (F : Fun K "turned_by" "turned_by" s_turned_by f fd) (T : Txt K mg t) (H_row_product : Has P w K mg base CX0 1 "row_product" ["row", "P"] (spRpK K)) : FnOk P w K mg base CX0 2 f fd ["table", "P"] (spTbK K) := by
  obtain ⟨f_row_product, d_row_product, G_row_product, b_row_product, k_row_product, m_row_product⟩ := H_row_product
  refine F.ok sc_turned_by (fun vs H Q E h => ?_) (fun cdv A outer s H vs Q E hr h => ?_)
  · obtain ⟨_, _, _, _, rfl, _⟩ := h
    rfl
  obtain ⟨p, q', t', P', rfl, ht, hq, bt, bp, q⟩ := h
  have hr_row_product := hr.mono (show 1 ≤ 1 by decide)
  obtain ⟨r0, r1, r2, hp, h0, h1, h2⟩ := ht
  refine ⟨_, pss_one (ps_ret (pe_tup (pa_cons (pe_call G_row_product hr_row_product rfl m_row_product k_row_product b_row_product .nil pass0 (pa_cons (pe_ix ix_tup (pv 0) pe_int (fun _ _ => rfl)) (pa_cons (pv 1) pa_nil))) (pa_cons (pe_call G_row_product hr_row_product rfl m_row_product k_row_product b_row_product .nil pass0 (pa_cons (pe_ix ix_tup (pv 0) pe_int (fun _ _ => rfl)) (pa_cons (pv 1) pa_nil))) (pa_cons (pe_call G_row_product hr_row_product rfl m_row_product k_row_product b_row_product .nil pass0 (pa_cons (pe_ix ix_tup (pv 0) pe_int (fun _ _ => rfl)) (pa_cons (pv 1) pa_nil))) pa_nil))))), ?_⟩
  exact ⟨_, rfl, p, _, _, _, rfl, rfl, SqT.of hp, rfl, _, rfl, r0, q', _, _, rfl, h0, hq, bt.r0, bp, _, rfl, p, _, _, _, rfl, rfl, SqT.of hp, rfl, _, rfl, r1, q', _, _, rfl, h1, hq, bt.r1, bp, _, rfl, p, _, _, _, rfl, rfl, SqT.of hp, rfl, _, rfl, r2, q', _, _, rfl, h2, hq, bt.r2, bp, (by show 3 ≤ sizeLine; decide), fun z nz => q z _ (same_new nz _) nz upd_same⟩
theorem ok_worth_of {f : Addr} {fd : FuncData} (F : Fun K "worth_of" "worth_of" s_worth_of f fd) (T : Txt K mg t)  : FnOk P w K mg base CX0 1 f fd ["Q", "P"] (spWoK K) := by
  refine F.ok sc_worth_of (fun vs H Q E h => ?_) (fun cdv A outer s H vs Q E hr h => ?_)
  · obtain ⟨_, _, _, _, rfl, _⟩ := h
    rfl
  obtain ⟨p, q', F, P', rfl, hp, hq, bf, bp, q⟩ := h
  unfold S6 at hp
  refine ⟨_, pss_cons (ps_set (i := 2) sc_worth_of.nd rfl (Or.inl rfl) (pe_tup (pa_cons (pe_op op_mulG (pe_ix ix_tup (pv 1) pe_int (fun _ _ => rfl)) (pe_ix ix_tup (pv 1) pe_int (fun _ _ => rfl))) (pa_cons (pe_op op_mulG (pe_ix ix_tup (pv 1) pe_int (fun _ _ => rfl)) (pe_ix ix_tup (pv 1) pe_int (fun _ _ => rfl))) (pa_cons (pe_op op_mulG (pe_ix ix_tup (pv 1) pe_int (fun _ _ => rfl)) (pe_ix ix_tup (pv 1) pe_int (fun _ _ => rfl))) (pa_cons (pe_op op_mulG (pe_ix ix_tup (pv 1) pe_int (fun _ _ => rfl)) (pe_ix ix_tup (pv 1) pe_int (fun _ _ => rfl))) (pa_cons (pe_op op_mulG (pe_ix ix_tup (pv 1) pe_int (fun _ _ => rfl)) (pe_ix ix_tup (pv 1) pe_int (fun _ _ => rfl))) (pa_cons (pe_op op_mulG (pe_ix ix_tup (pv 1) pe_int (fun _ _ => rfl)) (pe_ix ix_tup (pv 1) pe_int (fun _ _ => rfl))) pa_nil))))))))
    (pss_one (ps_ret (pe_callB (call_sum rfl) rfl T.z_sum b_sum (pa_cons (pe_compPair rfl (CompScope2.gen (cl := []) [] [] [(".0", .local), ("coefficient", .local), ("product", .local)] rfl (by decide +kernel) (by decide +kernel) rfl rfl rfl (by intro p hp; cases hp) rfl (by intro p hp h; simp only [List.mem_cons, List.not_mem_nil, or_false] at hp; rcases hp with rfl | rfl | rfl <;> first | rfl | (rcases h with h | h <;> cases h)) (by decide) (by decide +kernel) rfl (by intro p hp; cases hp)) (pi_zip rfl T.z_zip (pa_cons (pv 0) (pa_cons (pv 2) pa_nil))) (fun C s0 H0 fp pins => pe_op op_mulG (pv 0) (pv 1))) pa_nil)))), ?_⟩
  refine ⟨_, rfl, q', _, _, _, rfl, rfl, hq, rfl, _, rfl, q', _, _, _, rfl, rfl, hq, rfl, _, _, rfl, rfl, okM bp.x bp.x, _, rfl, q', _, _, _, rfl, rfl, hq, rfl, _, rfl, q', _, _, _, rfl, rfl, hq, rfl, _, _, rfl, rfl, okM bp.y bp.y, _, rfl, q', _, _, _, rfl, rfl, hq, rfl, _, rfl, q', _, _, _, rfl, rfl, hq, rfl, _, _, rfl, rfl, okM bp.z bp.z, _, rfl, q', _, _, _, rfl, rfl, hq, rfl, _, rfl, q', _, _, _, rfl, rfl, hq, rfl, _, _, rfl, rfl, okM bp.y bp.z, _, rfl, q', _, _, _, rfl, rfl, hq, rfl, _, rfl, q', _, _, _, rfl, rfl, hq, rfl, _, _, rfl, rfl, okM bp.x bp.z, _, rfl, q', _, _, _, rfl, rfl, hq, rfl, _, rfl, q', _, _, _, rfl, rfl, hq, rfl, _, _, rfl, rfl, okM bp.x bp.y, (by show 6 ≤ sizeLine; decide), fun p1 n1 => ?_⟩
  have g1 := same_new n1 (.tup [.int (P'.x * P'.x), .int (P'.y * P'.y), .int (P'.z * P'.z), .int (P'.y * P'.z), .int (P'.x * P'.z), .int (P'.x * P'.y)])
  have hp1 := g1 _ _ hp
  refine ⟨_, rfl, _, rfl, p, p1, _, _, rfl, SqT.of hp1, SqT.of upd_same, compP_zipF (fun H' g => SqT.of (g _ _ hp1)) (fun H' g => SqT.of (g _ _ upd_same)) rfl (by show 6 < sizeLine; decide) vmul ?_ ?_⟩
  · intro i x y H' Q' ex ey g k
    obtain ⟨a, b, rfl, rfl, ha, hb⟩ : ∃ a b : Int, x = .int a ∧ y = .int b ∧ Bd 600 a ∧ Bd (600 + 600) b := by
      match i, ex, ey with
      | 0, ex, ey => exact ⟨_, _, (Option.some.inj ex).symm, (Option.some.inj ey).symm, bf.a, bp.x.mul bp.x⟩
      | 1, ex, ey => exact ⟨_, _, (Option.some.inj ex).symm, (Option.some.inj ey).symm, bf.b, bp.y.mul bp.y⟩
      | 2, ex, ey => exact ⟨_, _, (Option.some.inj ex).symm, (Option.some.inj ey).symm, bf.c, bp.z.mul bp.z⟩
      | 3, ex, ey => exact ⟨_, _, (Option.some.inj ex).symm, (Option.some.inj ey).symm, bf.d, bp.y.mul bp.z⟩
      | 4, ex, ey => exact ⟨_, _, (Option.some.inj ex).symm, (Option.some.inj ey).symm, bf.e, bp.x.mul bp.z⟩
      | 5, ex, ey => exact ⟨_, _, (Option.some.inj ex).symm, (Option.some.inj ey).symm, bf.f, bp.x.mul bp.y⟩
      | n + 6, ex, ey => cases ex
    exact ⟨_, rfl, _, rfl, _, _, rfl, rfl, okM ha hb, k _ (Same.refl _)⟩
  · intro l H' g h0 hl
    refine ⟨l, [F.a * (P'.x * P'.x), F.b * (P'.y * P'.y), F.c * (P'.z * P'.z), F.d * (P'.y * P'.z), F.e * (P'.x * P'.z), F.f * (P'.x * P'.y)], rfl, hl, ?_⟩
    rw [sum6]
    exact q _ (g1.trans g)
theorem ok_added {f : Addr} {fd : FuncData} (F : Fun K "added" "added" s_added f fd) (T : Txt K mg t)  : FnOk P w K mg base CX0 1 f fd ["one", "other"] (spAddK K) := by
  refine F.ok sc_added (fun vs H Q E h => ?_) (fun cdv A outer s H vs Q E hr h => ?_)
  · obtain ⟨_, _, _, _, rfl, _⟩ := h
    rfl
  obtain ⟨p, q', P', R', rfl, hp, hq, q⟩ := h
  refine ⟨_, pss_one (ps_ret (pe_tup (pa_cons (pe_op op_add (pe_ix ix_tup (pv 0) pe_int (fun _ _ => rfl)) (pe_ix ix_tup (pv 1) pe_int (fun _ _ => rfl))) (pa_cons (pe_op op_add (pe_ix ix_tup (pv 0) pe_int (fun _ _ => rfl)) (pe_ix ix_tup (pv 1) pe_int (fun _ _ => rfl))) (pa_cons (pe_op op_add (pe_ix ix_tup (pv 0) pe_int (fun _ _ => rfl)) (pe_ix ix_tup (pv 1) pe_int (fun _ _ => rfl))) pa_nil))))), ?_⟩
  exact ⟨_, rfl, p, _, _, _, rfl, rfl, hp, rfl, _, rfl, q', _, _, _, rfl, rfl, hq, rfl, _, _, rfl, rfl, _, rfl, p, _, _, _, rfl, rfl, hp, rfl, _, rfl, q', _, _, _, rfl, rfl, hq, rfl, _, _, rfl, rfl, _, rfl, p, _, _, _, rfl, rfl, hp, rfl, _, rfl, q', _, _, _, rfl, rfl, hq, rfl, _, _, rfl, rfl, (by show 3 ≤ sizeLine; decide), fun z nz => q z _ (same_new nz _) upd_same⟩
theorem ok_lowest_point {f : Addr} {fd : FuncData} (F : Fun K "lowest_point" "lowest_point" s_lowest_point f fd) (T : Txt K mg t) (H_shares_of : Has P w K mg base CX0 2 "shares_of" ["one", "other"] (spShares)) : FnOk P w K mg base CX0 3 f fd ["P"] (spLowS K) := by
  obtain ⟨f_shares_of, d_shares_of, G_shares_of, b_shares_of, k_shares_of, m_shares_of⟩ := H_shares_of
  refine F.ok sc_lowest_point (fun vs H Q E h => ?_) (fun cdv A outer s H vs Q E hr h => ?_)
  · obtain ⟨_, _, _, _, _, rfl, _⟩ := h
    rfl
  obtain ⟨b, p, x, y, z, rfl, hp, hb, nzr, q⟩ := h
  have hr_shares_of := hr.mono (show 2 ≤ 2 by decide)
  refine ⟨_, pss_cons (ps_set (i := 1) sc_lowest_point.nd rfl (Or.inl rfl) (pe_ix ix_tup (pe_call G_shares_of hr_shares_of rfl m_shares_of k_shares_of b_shares_of .nil pass0 (pa_cons (pe_ix ix_tup (pe_call G_shares_of hr_shares_of rfl m_shares_of k_shares_of b_shares_of .nil pass0 (pa_cons (pe_ix ix_seq (pv 0) pe_int (fun _ _ => rfl)) (pa_cons (pe_ix ix_seq (pv 0) pe_int (fun _ _ => rfl)) pa_nil))) pe_int (fun _ _ => rfl)) (pa_cons (pe_ix ix_seq (pv 0) pe_int (fun _ _ => rfl)) pa_nil))) pe_int (fun _ _ => rfl)))
    (pss_cut (ps_if (pt_cmpR op_lt (pe_ix ix_list (pe_compIfC rfl (CompScope.gen (cl := []) [] [] [(".0", .local), ("number", .local)] rfl (by decide +kernel) (by decide +kernel) rfl rfl (by intro p hp; cases hp) rfl (by intro p hp h; simp only [List.mem_cons, List.not_mem_nil, or_false] at hp; rcases hp with rfl | rfl <;> first | rfl | (rcases h with h | h <;> cases h)) (by decide) (by decide +kernel) rfl (by intro p hp; cases hp)) (pi_seq (pv 0)) (fun C s0 H0 fp pins => pt_cmpR op_ne (pv 0) pe_int (nomark _)) (fun C s0 H0 fp pins => pv 0)) pe_int (fun _ _ => rfl)) pe_int (nomark _)) (pss_one (ps_set (i := 1) sc_lowest_point.nd rfl (Or.inl rfl) (pe_un un_neg (pv 1)))) pss_nil)
    (pss_one (ps_ret (pe_tup (pa_cons (pe_op op_fdivL (pe_ix ix_seq (pv 0) pe_int (fun _ _ => rfl)) (pv 1)) (pa_cons (pe_op op_fdivL (pe_ix ix_seq (pv 0) pe_int (fun _ _ => rfl)) (pv 1)) (pa_cons (pe_op op_fdivL (pe_ix ix_seq (pv 0) pe_int (fun _ _ => rfl)) (pv 1)) pa_nil))))))), ?_⟩
  obtain ⟨bx, by', bz⟩ := in3_abs hb
  refine ⟨_, rfl, ixb hp rfl ⟨_, rfl, ixb hp rfl ⟨x, y, rfl, bx, by', fun p1 H1 g s' t' g1 h1 g0 eg ⟨k1, e1⟩ ⟨k2, e2⟩ _ _ => ?_⟩⟩⟩
  have bg := gcd_le bx by' eg e1 e2
  refine ⟨p1, _, _, _, rfl, rfl, SqT.of h1, rfl, _, rfl, ixb (hp.up g1) rfl ⟨g, z, rfl, bg, bz, fun p2 H2 d s2 t2 g2 h2 d0 ed ⟨k3, e3⟩ ⟨k4, e4⟩ _ _ => ?_⟩⟩
  refine ⟨p2, _, _, _, rfl, rfl, SqT.of h2, rfl, ?_⟩
  have bd := gcd_le bg bz ed e3 e4
  have dn : d ≠ 0 := by
    intro zz
    subst zz
    rw [Int.mul_zero] at e3 e4
    subst e3
    rw [Int.mul_zero] at e1 e2
    unfold NZ at nzr
    omega
  have dx : d ∣ x := ⟨k1 * k3, by rw [e1, e3]; grind⟩
  have dy : d ∣ y := ⟨k2 * k3, by rw [e2, e3]; grind⟩
  have dz : d ∣ z := ⟨k4, by rw [Int.mul_comm]; exact e4⟩
  have bez : s2 * s' * x + s2 * t' * y + t2 * z = d := by rw [ed, eg]; grind
  have g12 := g1.trans g2
  have hp2 := hp.up g12
  refine ⟨fun σ' H' => ∃ e : Int, σ' = [some (.ref p), some (.int e)] ∧ Same H H' ∧ ((e = d ∧ 0 < fst3 x y z) ∨ (e = -d ∧ fst3 x y z < 0)), ?_, ?_⟩
  · refine ⟨_, rfl, p, b, _, rfl, hp2, compIf_seqF (xs := [.int x, .int y, .int z]) (by show 3 < sizeLine; decide) nz id (fun H' g => hp2.up g) ?_ ?_ ?_⟩
    · intro i v H' Q' hv g k
      obtain ⟨n, rfl, _⟩ := get3 hv
      exact ⟨_, rfl, rfl, _, rfl, k _ (Same.refl _)⟩
    · intro i v H' Q' hv e g k
      exact ⟨_, rfl, k _ (Same.refl _)⟩
    · intro l H' g h0 hl
      have fz := fst_nz nzr
      refine ⟨l, _, _, _, rfl, rfl, SqL.of hl, fst_ok nzr, _, _, rfl, rfl, _, rfl, ite2 (fun c => ?_) (fun c => ?_)⟩
      · have c' := decT c
        exact ⟨_, rfl, _, rfl, -d, rfl, g12.trans g, .inr ⟨rfl, c'⟩⟩
      · have c' := decF c
        exact ⟨d, rfl, g12.trans g, .inl ⟨rfl, by omega⟩⟩
  · rintro _ H3 ⟨e, rfl, g3, he⟩
    have hp3 := hp.up g3
    have en : e ≠ 0 := by omega
    have be : e.natAbs ≤ Lm := by omega
    have ex : e ∣ x := by
      rcases he with ⟨z, _⟩ | ⟨z, _⟩ <;> rw [z]
      · exact dx
      · exact Int.neg_dvd.mpr dx
    have ey : e ∣ y := by
      rcases he with ⟨z, _⟩ | ⟨z, _⟩ <;> rw [z]
      · exact dy
      · exact Int.neg_dvd.mpr dy
    have ez : e ∣ z := by
      rcases he with ⟨z, _⟩ | ⟨z, _⟩ <;> rw [z]
      · exact dz
      · exact Int.neg_dvd.mpr dz
    have eb : ∃ u v w : Int, u * x + v * y + w * z = e := by
      rcases he with ⟨zz, _⟩ | ⟨zz, _⟩
      · exact ⟨_, _, _, bez.trans zz.symm⟩
      · exact ⟨-(s2 * s'), -(s2 * t'), -t2, by rw [zz, ← bez]; grind⟩
    obtain ⟨o, qx, qy, qz⟩ := low_ok en ex ey ez eb
    refine ⟨_, rfl, ixb hp3 rfl ⟨_, rfl, _, _, rfl, rfl, ⟨en, Lm_log (by omega)⟩, _, rfl, ixb hp3 rfl ⟨_, rfl, _, _, rfl, rfl, ⟨en, Lm_log (by omega)⟩,
      _, rfl, ixb hp3 rfl ⟨_, rfl, _, _, rfl, rfl, ⟨en, Lm_log (by omega)⟩, (by show 3 ≤ sizeLine; decide), fun r nr => ?_⟩⟩⟩⟩
    refine q r _ _ _ _ e (g3.trans (same_new nr _)) upd_same o (pos_of en qx qy qz nzr ?_) en qx qy qz
    rcases he with ⟨zz, w⟩ | ⟨zz, w⟩
    · exact .inl ⟨by omega, w⟩
    · exact .inr ⟨by omega, w⟩
theorem ok_above_root {f : Addr} {fd : FuncData} (F : Fun K "above_root" "above_root" s_above_root f fd) (T : Txt K mg t)  : FnOk P w K mg base CX0 1 f fd ["number"] (spAbove) := by
  refine F.ok sc_above_root (fun vs H Q E h => ?_) (fun cdv A outer s H vs Q E hr h => ?_)
  · obtain ⟨n, rfl, _⟩ := h
    rfl
  obtain ⟨n, rfl, n0, n1, q⟩ := h
  refine ⟨_, pss_cons (ps_set (i := 1) sc_above_root.nd rfl (Or.inl rfl) pe_int)
    (pss_cons (ps_while PassesOwn.never (pt_cmpR op_le (pe_op op_mulG (pv 1) (pv 1)) (pv 0) (nomark _)) (pss_one (ps_set (i := 1) sc_above_root.nd rfl (Or.inl rfl) (pe_op op_mulG pe_int (pv 1)))))
    (pss_one (ps_ret (pv 1)))), ?_⟩
  refine ⟨fun m σ H' => ∃ g : Int, σ = [some (.int n), some (.int g)] ∧ H' = H ∧ 1 ≤ g ∧ g ≤ 2 * n + 1 ∧ m = (n + 1 - g).toNat, ⟨_, 1, rfl, rfl, by omega, by omega, rfl⟩, ?_⟩
  rintro m σ H' ⟨g, rfl, rfl, g0, g1, rfl⟩
  have bg := bits_lit (bits_top (g := g) (by omega) (by omega)) (by decide)
  refine ⟨_, rfl, _, rfl, _, _, rfl, rfl, mulOk bg bg, _, rfl, _, _, rfl, rfl, _, rfl, ?_⟩
  refine ite2 (fun c => ?_) (fun c => ?_)
  · have c' : g * g ≤ n := of_decide_eq_true c
    have gn := le_sq g0
    refine ⟨fun σ' H2 => σ' = [some (.int n), some (.int (2 * g))] ∧ H2 = H', ?_, ?_⟩
    · rintro σ' H2 ⟨rfl, rfl⟩
      exact ⟨_, by omega, 2 * g, rfl, rfl, by omega, by omega, rfl⟩
    · exact ⟨_, rfl, _, _, rfl, rfl, mulOk (bits_lit (k := 2) (by decide) (by decide)) bg, rfl, rfl⟩
  · have c' : ¬ g * g ≤ n := of_decide_eq_false (Bool.eq_false_iff.mpr c)
    exact ⟨_, rfl, q g (by omega) g1 (by omega)⟩
theorem ok_root_of {f : Addr} {fd : FuncData} (F : Fun K "root_of" "root_of" s_root_of f fd) (T : Txt K mg t) (H_above_root : Has P w K mg base CX0 1 "above_root" ["number"] (spAbove)) : FnOk P w K mg base CX0 2 f fd ["number"] (spRootF) := by
  obtain ⟨f_above_root, d_above_root, G_above_root, b_above_root, k_above_root, m_above_root⟩ := H_above_root
  refine F.ok sc_root_of (fun vs H Q E h => ?_) (fun cdv A outer s H vs Q E hr h => ?_)
  · obtain ⟨n, rfl, _⟩ := h
    rfl
  obtain ⟨n, rfl, n0, n1, q⟩ := h
  have hr_above_root := hr.mono (show 1 ≤ 1 by decide)
  refine ⟨_, pss_cons (ps_if (pt_cmpR op_lt (pv 0) pe_int (nomark _)) pss_never pss_nil)
    (pss_cons (ps_set (i := 1) sc_root_of.nd rfl (Or.inl rfl) (pe_call G_above_root hr_above_root rfl m_above_root k_above_root b_above_root .nil pass0 (pa_cons (pv 0) pa_nil)))
    (pss_cons (ps_while PassesOwn.never (pt_cmpR op_gt (pe_op op_mulG (pv 1) (pv 1)) (pv 0) (nomark _)) (pss_one (ps_set (i := 1) sc_root_of.nd rfl (Or.inl rfl) (pe_op op_fdiv (pe_op op_add (pv 1) (pe_op op_fdivL (pv 0) (pv 1))) pe_int))))
    (pss_one (ps_ret (pv 1))))), ?_⟩
  refine ⟨_, rfl, _, _, rfl, rfl, _, rfl, iteDF (show ¬ n < 0 by omega) ?_⟩
  refine ⟨_, rfl, n, rfl, n0, n1, fun g g0 g1 g2 => ?_⟩
  refine ⟨fun m σ H' => ∃ g : Int, σ = [some (.int n), some (.int g)] ∧ H' = H ∧ 0 ≤ g ∧ g ≤ 2 * n + 1 ∧ n < (g + 1) * (g + 1) ∧ m = g.toNat, ⟨_, g, rfl, rfl, g0, g1, ?_, rfl⟩, ?_⟩
  · have : (g + 1) * (g + 1) = g * g + 2 * g + 1 := by grind
    omega
  rintro m σ H' ⟨g, rfl, rfl, g0, g1, g2, rfl⟩
  have ng := bits_top (g := g) g0 (by omega)
  have bg := bits_lit ng (by decide)
  refine ⟨_, rfl, _, rfl, _, _, rfl, rfl, mulOk bg bg, _, rfl, _, _, rfl, rfl, _, rfl, ?_⟩
  refine ite2 (fun c => ?_) (fun c => ?_)
  · have c' : n < g * g := of_decide_eq_true c
    obtain ⟨gp, s0, s1, s2⟩ := newton_step n0 g0 c'
    refine ⟨fun σ' H2 => σ' = [some (.int n), some (.int ((g + n.fdiv g) / 2))] ∧ H2 = H', ?_, ?_⟩
    · rintro σ' H2 ⟨rfl, rfl⟩
      exact ⟨_, by omega, _, rfl, rfl, s0, by omega, s2, rfl⟩
    · exact ⟨_, rfl, _, rfl, _, rfl, _, _, rfl, rfl, ⟨by omega, Nat.lt_of_lt_of_le (log2_lt_of ng (by decide)) (by decide)⟩, _, _, rfl, rfl, _, _, rfl, rfl, ⟨by decide, by decide⟩, rfl, rfl⟩
  · have c' : ¬ n < g * g := of_decide_eq_false (Bool.eq_false_iff.mpr c)
    exact ⟨_, rfl, q g g0 (by omega) g2⟩
theorem ok_off_curve {f : Addr} {fd : FuncData} (F : Fun K "off_curve" "off_curve" s_off_curve f fd) (T : Txt K mg t) (H_added : Has P w K mg base CX0 1 "added" ["one", "other"] (spAddK K)) (H_worth_of : Has P w K mg base CX0 1 "worth_of" ["Q", "P"] (spWoK K)) : FnOk P w K mg base CX0 2 f fd ["Q", "points"] (spOff K) := by
  obtain ⟨f_added, d_added, G_added, b_added, k_added, m_added⟩ := H_added
  obtain ⟨f_worth_of, d_worth_of, G_worth_of, b_worth_of, k_worth_of, m_worth_of⟩ := H_worth_of
  refine F.ok sc_off_curve (fun vs H Q E h => ?_) (fun cdv A outer s H vs Q E hr h => ?_)
  · obtain ⟨_, _, _, _, _, _, rfl, _⟩ := h
    rfl
  obtain ⟨b, q', p, F, us, Ps, rfl, hF, hp, tu, len, bf, bp, ⟨v, ev⟩, q⟩ := h
  have hr_added := hr.mono (show 1 ≤ 1 by decide)
  have hr_worth_of := hr.mono (show 1 ≤ 1 by decide)
  refine ⟨_, pss_cons (ps_set (i := 2) sc_off_curve.nd rfl (Or.inl rfl) (pe_callTy call_list_of rfl T.z_list b_list (pa_cons (pv 1) pa_nil)))
    (pss_cons (ps_for PassesOwn.never rfl (pi_seq (pv 1)) (pg_name (i := 3) sc_off_curve.nd rfl (Or.inr rfl)) (pss_one (ps_expr (pe_bm PySem.F.plainAttrs_list PySem.F.slot_list_extend PySem.F.type_list_extend mt_extend (pv 2) (pa_cons (pe_compC rfl (CompScope.gen (cl := [("one", _)]) ["one"] [3] [(".0", .local), ("other", .local), ("added", .globalImplicit), ("one", .cell)] rfl (by decide +kernel) (by decide +kernel) rfl rfl (by intro p hp; simp only [List.mem_cons, List.not_mem_nil, or_false] at hp; rcases hp with rfl <;> rfl) rfl (by intro p hp h; simp only [List.mem_cons, List.not_mem_nil, or_false] at hp; rcases hp with rfl | rfl | rfl | rfl <;> first | rfl | (rcases h with h | h <;> cases h)) (by decide) (by decide +kernel) rfl (by intro p hp; simp only [List.zip_cons_cons, List.zip_nil_left, List.mem_cons, List.not_mem_nil, or_false] at hp; rcases hp with rfl <;> exact ⟨rfl, rfl⟩)) (pi_seq (pv 1)) (fun C s0 H0 fp pins => pe_call G_added hr_added rfl m_added k_added b_added .nil pass0 (pa_cons (pv 1) (pa_cons (pv 0) pa_nil)))) pa_nil)))))
    (pss_one (ps_ret (pe_ix ix_list (pe_compIfC rfl (CompScope.gen (cl := [("Q", _)]) ["Q"] [0] [(".0", .local), ("point", .local), ("worth_of", .globalImplicit), ("Q", .cell)] rfl (by decide +kernel) (by decide +kernel) rfl rfl (by intro p hp; simp only [List.mem_cons, List.not_mem_nil, or_false] at hp; rcases hp with rfl <;> rfl) rfl (by intro p hp h; simp only [List.mem_cons, List.not_mem_nil, or_false] at hp; rcases hp with rfl | rfl | rfl | rfl <;> first | rfl | (rcases h with h | h <;> cases h)) (by decide) (by decide +kernel) rfl (by intro p hp; simp only [List.zip_cons_cons, List.zip_nil_left, List.mem_cons, List.not_mem_nil, or_false] at hp; rcases hp with rfl <;> exact ⟨rfl, rfl⟩)) (pi_list (pv 2)) (fun C s0 H0 fp pins => pt_cmpR op_ne (pe_call G_worth_of hr_worth_of rfl m_worth_of k_worth_of b_worth_of .nil pass0 (pa_cons (pv 1) (pa_cons (pv 0) pa_nil))) pe_int (nomark _)) (fun C s0 H0 fp pins => pv 0)) pe_int (fun _ _ => rfl))))), ?_⟩
  have ul := tu.len
  refine ⟨_, rfl, p, us, rfl, (by cases b; exact .inr hp; exact .inl hp), fun tl ntl => ?_⟩
  have g0 := same_new ntl (.lst us)
  refine ⟨_, rfl, p, b, us, rfl, hp.up g0, for_seq (xs := us) (fun i σ H' => ∃ (ox : Option V) (ws : List V), σ = [some (.ref q'), some (.ref p), some (.ref tl), ox] ∧ Same H H' ∧ H' tl = some (.lst ws) ∧ TuK K H' ws (Ps ++ (Ps.take i).flatMap fun a => Ps.map (ad a)) ∧ ws.length ≤ 3 + 3 * i) ⟨none, us, rfl, g0, upd_same, by simpa using tu.mono g0, by omega⟩ ?_ ?_ ?_⟩
  · rintro i σ H' hi ⟨ox, ws, rfl, g, _⟩
    exact hp.up g
  · rintro i x σ H1 hx ⟨ox, ws, rfl, g, htl, tw, lw⟩
    have hi : i < us.length := (List.getElem?_eq_some_iff.mp hx).1
    obtain ⟨r, P, rfl, eP, hr'⟩ := tu.get hx
    refine ⟨_, rfl, .inl ⟨rfl, _, SqL.of htl⟩, _, rfl, p, b, us, rfl, hp.up g, comp_seqR (xs := us) (Nat.lt_of_le_of_lt (by omega : us.length ≤ 100) (by decide)) (fun H' g' => hp.up (g.trans g')) (fun j ws' H' => TuK K H' ws' ((Ps.take j).map (ad P))) (fun _ _ => .nil) ?_ ?_⟩
    · intro j y ws' H2 acc Q' ey g2 h0 ha rr hl k
      obtain ⟨r2, R, rfl, eR, hr2⟩ := tu.get ey
      refine ⟨_, rfl, _, rfl, r, r2, P, R, rfl, hr'.up (g.trans g2), hr2.up (g.trans g2), fun z H3 g3 hz => k _ _ g3 ?_⟩
      rw [List.take_add_one, eR, List.map_append]
      exact ((rr.mono g3).app (.cons (SqT.of hz) .nil)).put (g3 _ _ ha)
    · intro l H2 ws' g2 _ hl _ rr
      have htl2 := g2 _ _ htl
      rw [ul, List.take_length] at rr
      have wl : ws'.length = Ps.length := by rw [rr.len, List.length_map]
      refine ⟨tl, l, _, _, rfl, rfl, htl2, hl, Nat.le_trans (by omega : ws.length + ws'.length ≤ 100) (by decide), some (.ref r), ws ++ ws', rfl, putS (g.trans g2) ntl, upd_same, ?_, by rw [List.length_append]; omega⟩
      have e : (Ps ++ (Ps.take (i + 1)).flatMap fun a => Ps.map (ad a)) = (Ps ++ (Ps.take i).flatMap fun a => Ps.map (ad a)) ++ Ps.map (ad P) := by
        rw [List.take_add_one, eP, List.append_assoc]
        simp [List.flatMap_append]
      rw [e]
      exact ((tw.mono g2).app rr).put htl2
  · rintro σ H1 ⟨ox, ws, rfl, g, htl, tw, lw⟩
    rw [ul, List.take_length] at tw
    have tw' : TuK K H1 ws (offs Ps) := tw
    have wl := tw'.len
    refine ⟨_, rfl, tl, rfl, ⟨_, SqL.of htl⟩, compIf_listI (xs := ws) (Nat.lt_of_le_of_lt (by omega : ws.length ≤ 100) (by decide)) (offB F (offs Ps)) (fun H' g' => SqL.of (g' _ _ htl)) (OffR K H1 F (offs Ps)) OffR.zero ?_ ?_ ?_ ?_ ?_⟩
    · intro i x vs ex e r
      obtain ⟨r', P, rfl, eP, hr'⟩ := tw'.get ex
      exact (OffR.step eP hr' r).1 e
    · intro i x vs ex e r
      obtain ⟨r', P, rfl, eP, hr'⟩ := tw'.get ex
      exact (OffR.step eP hr' r).2 e
    · intro i x H' Q' ex g' k
      obtain ⟨r', P, rfl, eP, hr'⟩ := tw'.get ex
      have bP := bp_offs bp (List.mem_of_getElem? eP)
      refine ⟨_, rfl, _, rfl, q', r', F, P, rfl, (g.trans g') _ _ hF, hr'.up g', bf.mono, bP.mono', fun H2 g2 => ?_⟩
      have kk := k H2 g2
      rw [offB_at eP] at kk
      refine ⟨rfl, _, rfl, ?_⟩
      have ee : (!decide (V.int (wo F P) = V.int 0)) = (wo F P != 0) := by
        by_cases z : wo F P = 0
        · rw [z]; rfl
        · rw [decide_eq_false (fun w => z (int_inj w))]
          simp [z]
      first
        | exact ee ▸ kk
        | (rw [← ee] at kk; exact kk)
    · intro i x H' Q' ex g' k
      exact ⟨_, rfl, k _ (Same.refl _)⟩
    · intro la H7 vs g7 h0 hla rr
      unfold OffR at rr
      rw [wl, List.take_length] at rr
      have ev' : (offs Ps).find? (fun v => wo F v != 0) = some v := ev
      rw [ev'] at rr
      obtain ⟨r', rest, rfl, hr'⟩ := rr
      exact ⟨la, _, _, _, rfl, rfl, SqL.of hla, at0, q r' _ v (g.trans g7) (hr'.up g7) ev⟩
theorem ok_corners_on {f : Addr} {fd : FuncData} (F : Fun K "corners_on" "corners_on" s_corners_on f fd) (T : Txt K mg t) (H_crossing_of : Has P w K mg base CX0 1 "crossing_of" ["one", "other"] (spCrK K)) (H_off_curve : Has P w K mg base CX0 2 "off_curve" ["Q", "points"] (spOff K)) (H_lowest_point : Has P w K mg base CX0 3 "lowest_point" ["P"] (spLowS K)) (H_slopes_of : Has P w K mg base CX0 1 "slopes_of" ["Q"] (spSl)) (H_turned_by : Has P w K mg base CX0 2 "turned_by" ["table", "P"] (spTbK K)) : FnOk P w K mg base CX0 4 f fd ["Q", "line"] (spCorL) := by
  obtain ⟨f_crossing_of, d_crossing_of, G_crossing_of, b_crossing_of, k_crossing_of, m_crossing_of⟩ := H_crossing_of
  obtain ⟨f_off_curve, d_off_curve, G_off_curve, b_off_curve, k_off_curve, m_off_curve⟩ := H_off_curve
  obtain ⟨f_lowest_point, d_lowest_point, G_lowest_point, b_lowest_point, k_lowest_point, m_lowest_point⟩ := H_lowest_point
  obtain ⟨f_slopes_of, d_slopes_of, G_slopes_of, b_slopes_of, k_slopes_of, m_slopes_of⟩ := H_slopes_of
  obtain ⟨f_turned_by, d_turned_by, G_turned_by, b_turned_by, k_turned_by, m_turned_by⟩ := H_turned_by
  refine F.ok sc_corners_on (fun vs H Q E h => ?_) (fun cdv A outer s H vs Q E hr h => ?_)
  · obtain ⟨_, _, _, _, rfl, _⟩ := h
    rfl
  obtain ⟨q', lr, F, l, rfl, hF, hl, bf, bl', nl, ns, q⟩ := h
  have hr_crossing_of := hr.mono (show 1 ≤ 3 by decide)
  have hr_off_curve := hr.mono (show 2 ≤ 3 by decide)
  have hr_lowest_point := hr.mono (show 3 ≤ 3 by decide)
  have hr_slopes_of := hr.mono (show 1 ≤ 3 by decide)
  have hr_turned_by := hr.mono (show 2 ≤ 3 by decide)
  refine ⟨_, pss_cons (ps_set (i := 2) sc_corners_on.nd rfl (Or.inl rfl) (pe_call G_lowest_point hr_lowest_point rfl m_lowest_point k_lowest_point b_lowest_point .nil pass0 (pa_cons (pe_call G_off_curve hr_off_curve rfl m_off_curve k_off_curve b_off_curve .nil pass0 (pa_cons (pv 0) (pa_cons (pe_compC rfl (CompScope.gen (cl := [("line", _)]) ["line"] [1] [(".0", .local), ("axis", .local), ("crossing_of", .globalImplicit), ("line", .cell)] rfl (by decide +kernel) (by decide +kernel) rfl rfl (by intro p hp; simp only [List.mem_cons, List.not_mem_nil, or_false] at hp; rcases hp with rfl <;> rfl) rfl (by intro p hp h; simp only [List.mem_cons, List.not_mem_nil, or_false] at hp; rcases hp with rfl | rfl | rfl | rfl <;> first | rfl | (rcases h with h | h <;> cases h)) (by decide) (by decide +kernel) rfl (by intro p hp; simp only [List.zip_cons_cons, List.zip_nil_left, List.mem_cons, List.not_mem_nil, or_false] at hp; rcases hp with rfl <;> exact ⟨rfl, rfl⟩)) (pi_tup (pe_glob (v := .ref t.gAXES) rfl T.m_AXES rfl)) (fun C s0 H0 fp pins => pe_call G_crossing_of hr_crossing_of rfl m_crossing_of k_crossing_of b_crossing_of .nil pass0 (pa_cons (pv 1) (pa_cons (pv 0) pa_nil)))) pa_nil))) pa_nil)))
    (pss_one (ps_ret (pe_tup (pa_cons (pv 2) (pa_cons (pe_call G_lowest_point hr_lowest_point rfl m_lowest_point k_lowest_point b_lowest_point .nil pass0 (pa_cons (pe_call G_crossing_of hr_crossing_of rfl m_crossing_of k_crossing_of b_crossing_of .nil pass0 (pa_cons (pv 1) (pa_cons (pe_call G_turned_by hr_turned_by rfl m_turned_by k_turned_by b_turned_by .nil pass0 (pa_cons (pe_call G_slopes_of hr_slopes_of rfl m_slopes_of k_slopes_of b_slopes_of .nil pass0 (pa_cons (pv 0) pa_nil)) (pa_cons (pv 2) pa_nil))) pa_nil))) pa_nil)) pa_nil))))), ?_⟩
  have axk : ∀ H' : Hp, SqT K H' t.gAXES [.ref t.gAXES_0, .ref t.gAXES_1, .ref t.gAXES_2] := fun H' => T.k_AXES.sq _
  have tuA : ∀ H' : Hp, TuK K H' [.ref t.gAXES_0, .ref t.gAXES_1, .ref t.gAXES_2] axs := fun H' => .cons (T.k_AXES_0.sq _) (.cons (T.k_AXES_1.sq _) (.cons (T.k_AXES_2.sq _) .nil))
  have exo := offF_ex (off_line ns nl)
  refine ⟨_, rfl, t.gAXES, rfl, ⟨_, axk _⟩, comp_tupR (xs := [.ref t.gAXES_0, .ref t.gAXES_1, .ref t.gAXES_2]) (by show 3 < sizeLine; decide) (fun H' _ => axk H') (fun i ws H' => TuK K H' ws ((axs.take i).map (cr l))) (fun _ _ => .nil) ?_ ?_⟩
  · intro i x vs H' acc Q' ex g h0 ha rr hv k
    obtain ⟨r, A', rfl, eA, hA⟩ := (tuA H').get ex
    refine ⟨_, rfl, _, rfl, lr, r, l, A', rfl, SqT.of (g _ _ hl), hA, bl'.mono', axs_bp A' (List.mem_of_getElem? eA), fun z H3 g3 hz => k _ _ g3 ?_⟩
    rw [List.take_add_one, eA, List.map_append]
    exact ((rr.mono g3).app (.cons (SqT.of hz) .nil)).put (g3 _ _ ha)
  intro la H1 ws g1 _ hla _ rr
  have rr' : TuK K H1 ws (axs.map (cr l)) := rr
  have bps : ∀ R ∈ axs.map (cr l), BP 171 R := fun R hR => by
    obtain ⟨A', hA, rfl⟩ := List.mem_map.mp hR
    exact (bd_cr2 bl' (axs_bp (k := 0) A' hA)).mono'
  refine ⟨true, q', la, F, ws, axs.map (cr l), rfl, g1 _ _ hF, SqL.of hla, rr', by simp [axs], bf.mono, fun R hR => (bps R hR).mono', exo, fun r H2 v g2 hr2 ev => ?_⟩
  have bv : BP 172 v := (bp_offs bps (offF_mem ev)).mono'
  have nv := wo_n3 (offF_nz ev)
  refine ⟨false, r, v.x, v.y, v.z, rfl, hr2, in3_of bv.mono', n3_nz nv, fun r1 H3 a b c d g3 h3 o3 p3 d0 ex ey ez => ?_⟩
  have em : v = tm d ⟨a, b, c⟩ := P3.ext' ⟨ex, ey, ez⟩
  have g13 := g1.trans (g2.trans g3)
  have h3' : S3 H3 r1 ⟨a, b, c⟩ := h3
  have wv := offF_nz ev
  have onv := on_offs (offF_mem ev)
  generalize hRe : (⟨a, b, c⟩ : P3) = R at *
  have bR : BP 172 R := bp_div d0 (em ▸ bv)
  have wR : wo F R ≠ 0 := fun z => wv (by rw [em, wo_tm, z, Int.mul_zero])
  have onR : rp l R = 0 := by
    rw [em] at onv
    have : rp l (tm d R) = d * rp l R := by
      simp only [rp, tm]
      grind
    rw [this] at onv
    exact mul_cancel onv d0
  refine ⟨_, rfl, _, rfl, _, rfl, q', F, rfl, g13 _ _ hF, fun sr H4 g4 hs => ?_⟩
  have bsl : BT 101 (sl F) := bd_sl bf
  refine ⟨_, rfl, sr, r1, sl F, R, rfl, hs, SqT.of (g4 _ _ h3'), bsl.mono, bR.mono', fun kr H5 g5 _ hk => ?_⟩
  have bk : BP 275 (tb (sl F) R) := (bd_tb bsl bR).mono'
  refine ⟨lr, kr, l, tb (sl F) R, rfl, SqT.of ((g13.trans (g4.trans g5)) _ _ hl), SqT.of hk, bl'.mono', bk.mono', fun c' H6 g6 hc => ?_⟩
  have bc : BP 446 (cr l (tb (sl F) R)) := (bd_cr2 bl' bk).mono'
  have n3c := pol_nz wR nl onR
  refine ⟨false, c', _, _, _, rfl, SqT.of hc, in3_of bc.mono', n3_nz n3c, fun r2 H7 a2 b2 c2 d2 g7 h7 o7 p7 d20 ex2 ey2 ez2 => ?_⟩
  have em2 : cr l (tb (sl F) R) = tm d2 ⟨a2, b2, c2⟩ := P3.ext' ⟨ex2, ey2, ez2⟩
  have bS : BP 446 (⟨a2, b2, c2⟩ : P3) := bp_div d20 (em2 ▸ bc)
  refine ⟨(by show 2 ≤ sizeLine; decide), fun p np => ?_⟩
  have gp := same_new np (.tup [.ref r1, .ref r2])
  exact q p r1 r2 _ R ⟨a2, b2, c2⟩ (g13.trans (g4.trans (g5.trans (g6.trans (g7.trans gp))))) upd_same ((g4.trans (g5.trans (g6.trans (g7.trans gp)))) _ _ h3') (gp _ _ h7) (bas_of wR nl onR d20 em2) bR bS
theorem ok_line_met {f : Addr} {fd : FuncData} (F : Fun K "line_met" "line_met" s_line_met f fd) (T : Txt K mg t) (H_refuse_flat : Has P w K mg base CX0 2 "refuse_flat" ["Q"] (spFlat)) (H_corners_on : Has P w K mg base CX0 4 "corners_on" ["Q", "line"] (spCorL)) (H_worth_of : Has P w K mg base CX0 1 "worth_of" ["Q", "P"] (spWoK K)) (H_root_of : Has P w K mg base CX0 2 "root_of" ["number"] (spRootF)) (H_stretched : Has P w K mg base CX0 1 "stretched" ["P", "times"] (spStr K)) (H_added : Has P w K mg base CX0 1 "added" ["one", "other"] (spAddK K)) (H_lowest_point : Has P w K mg base CX0 3 "lowest_point" ["P"] (spLowS K)) : FnOk P w K mg base CX0 5 f fd ["Q", "line"] (spMet) := by
  obtain ⟨f_refuse_flat, d_refuse_flat, G_refuse_flat, b_refuse_flat, k_refuse_flat, m_refuse_flat⟩ := H_refuse_flat
  obtain ⟨f_corners_on, d_corners_on, G_corners_on, b_corners_on, k_corners_on, m_corners_on⟩ := H_corners_on
  obtain ⟨f_worth_of, d_worth_of, G_worth_of, b_worth_of, k_worth_of, m_worth_of⟩ := H_worth_of
  obtain ⟨f_root_of, d_root_of, G_root_of, b_root_of, k_root_of, m_root_of⟩ := H_root_of
  obtain ⟨f_stretched, d_stretched, G_stretched, b_stretched, k_stretched, m_stretched⟩ := H_stretched
  obtain ⟨f_added, d_added, G_added, b_added, k_added, m_added⟩ := H_added
  obtain ⟨f_lowest_point, d_lowest_point, G_lowest_point, b_lowest_point, k_lowest_point, m_lowest_point⟩ := H_lowest_point
  refine F.ok sc_line_met (fun vs H Q E h => ?_) (fun cdv A outer s H vs Q E hr h => ?_)
  · obtain ⟨_, _, _, _, rfl, _⟩ := h
    rfl
  obtain ⟨q', lr, F, l, rfl, hF, hl, bf, bl', nl, ns, q⟩ := h
  have hr_refuse_flat := hr.mono (show 2 ≤ 4 by decide)
  have hr_corners_on := hr.mono (show 4 ≤ 4 by decide)
  have hr_worth_of := hr.mono (show 1 ≤ 4 by decide)
  have hr_root_of := hr.mono (show 2 ≤ 4 by decide)
  have hr_stretched := hr.mono (show 1 ≤ 4 by decide)
  have hr_added := hr.mono (show 1 ≤ 4 by decide)
  have hr_lowest_point := hr.mono (show 3 ≤ 4 by decide)
  have hu64 := hu64_of hr
  refine ⟨_, pss_cons (ps_expr (pe_call G_refuse_flat hr_refuse_flat rfl m_refuse_flat k_refuse_flat b_refuse_flat .nil pass0 (pa_cons (pv 0) pa_nil)))
    (pss_cons (ps_if (pt_not (pt_val (pe_callB (call_anyT rfl) rfl T.z_any b_any (pa_cons (pv 1) pa_nil)) (fun _ => rfl))) pss_never pss_nil)
    (pss_cons (ps_set (i := 2) sc_line_met.nd rfl (Or.inr rfl) (pe_call G_corners_on hr_corners_on rfl m_corners_on k_corners_on b_corners_on .nil pass0 (pa_cons (pv 0) (pa_cons (pv 1) pa_nil))))
    (pss_cons (ps_set (i := 3) sc_line_met.nd rfl (Or.inl rfl) (pe_call G_worth_of hr_worth_of rfl m_worth_of k_worth_of b_worth_of .nil pass0 (pa_cons (pv 0) (pa_cons (pe_ix ix_tup (pv 2) pe_int (fun _ _ => rfl)) pa_nil))))
    (pss_cons (ps_set (i := 4) sc_line_met.nd rfl (Or.inl rfl) (pe_op op_mulG (pe_un un_neg (pv 3)) (pe_call G_worth_of hr_worth_of rfl m_worth_of k_worth_of b_worth_of .nil pass0 (pa_cons (pv 0) (pa_cons (pe_ix ix_tup (pv 2) pe_int (fun _ _ => rfl)) pa_nil)))))
    (pss_cons (ps_if (pt_cmpR op_lt (pv 4) pe_int (nomark _)) (pss_one (ps_ret (pe_lst pa_nil))) pss_nil)
    (pss_cons (ps_set (i := 5) sc_line_met.nd rfl (Or.inl rfl) (pe_call G_root_of hr_root_of rfl m_root_of k_root_of b_root_of .nil pass0 (pa_cons (pv 4) pa_nil)))
    (pss_cons (ps_if (pt_cmpR op_ne (pe_op op_mulG (pv 5) (pv 5)) (pv 4) (nomark _)) (pss_one (ps_ret (pe_lst pa_nil))) pss_nil)
    (pss_cons (ps_set (i := 6) sc_line_met.nd rfl (Or.inr rfl) (pe_call G_stretched hr_stretched rfl m_stretched k_stretched b_stretched .nil pass0 (pa_cons (pe_ix ix_tup (pv 2) pe_int (fun _ _ => rfl)) (pa_cons (pv 3) pa_nil))))
    (pss_one (ps_ret (pe_callB (call_sortedT rfl) rfl T.z_sorted b_sorted (pa_cons (pe_callTy (call_setT rfl hu64) rfl T.z_set b_set (pa_cons (pe_compC rfl (CompScope.gen (cl := [("end", _), ("corners", _)]) ["corners", "end"] [2, 6] [(".0", .local), ("times", .local), ("lowest_point", .globalImplicit), ("added", .globalImplicit), ("stretched", .globalImplicit), ("corners", .cell), ("end", .cell)] rfl (by decide +kernel) (by decide +kernel) rfl rfl (by intro p hp; simp only [List.mem_cons, List.not_mem_nil, or_false] at hp; rcases hp with rfl | rfl <;> rfl) rfl (by intro p hp h; simp only [List.mem_cons, List.not_mem_nil, or_false] at hp; rcases hp with rfl | rfl | rfl | rfl | rfl | rfl | rfl <;> first | rfl | (rcases h with h | h <;> cases h)) (by decide) (by decide +kernel) rfl (by intro p hp; simp only [List.zip_cons_cons, List.zip_nil_left, List.mem_cons, List.not_mem_nil, or_false] at hp; rcases hp with rfl | rfl <;> exact ⟨rfl, rfl⟩)) (pi_tup (pe_tup (pa_cons (pv 5) (pa_cons (pe_un un_neg (pv 5)) pa_nil)))) (fun C s0 H0 fp pins => pe_call G_lowest_point hr_lowest_point rfl m_lowest_point k_lowest_point b_lowest_point .nil pass0 (pa_cons (pe_call G_added hr_added rfl m_added k_added b_added .nil pass0 (pa_cons (pe_call G_stretched hr_stretched rfl m_stretched k_stretched b_stretched .nil pass0 (pa_cons (pe_ix (ixK_tup (K := K) rfl) (pv 1) pe_int (fun _ _ => rfl)) (pa_cons (pv 0) pa_nil))) (pa_cons (pv 2) pa_nil))) pa_nil))) pa_nil)) pa_nil)))))))))))), ?_⟩
  have an : ([l.x, l.y, l.z].any (· != 0)) = true := by
    unfold N3 at nl
    simp
    omega
  refine ⟨_, rfl, q', F, rfl, hF, bf.mono, ns, ?_⟩
  refine ⟨_, rfl, lr, [l.x, l.y, l.z], rfl, SqT.of hl, ?_⟩
  rw [an]
  refine ⟨_, rfl, iteF ?_⟩
  refine ⟨_, rfl, _, rfl, q', lr, F, l, rfl, hF, hl, bf, bl', nl, ns, fun co r1 r2 H1 R S g1 hco h1 h2 B bR bS => ?_⟩
  refine ⟨_, rfl, _, rfl, co, _, _, _, rfl, rfl, SqT.of hco, rfl, q', r1, F, R, rfl, g1 _ _ hF, SqT.of h1, bf.mono, bR.mono', fun H2 g2 => ?_⟩
  refine ⟨_, rfl, _, rfl, _, rfl, _, rfl, co, _, _, _, rfl, rfl, SqT.of (g2 _ _ hco), rfl, q', r2, F, S, rfl, (g1.trans g2) _ _ hF, SqT.of (g2 _ _ h2), bf.mono, bS.mono', fun H3 g3 => ?_⟩
  have g23 := g2.trans g3
  have g13 := g1.trans g23
  have bw : Bd 449 (wo F R) := (bd_wo bf bR).mono (by omega)
  have bw2 : Bd 997 (wo F S) := (bd_wo bf bS).mono (by omega)
  have bq : Bd 1446 (sqr F R S) := ((bd_neg bw).mul bw2).mono (by omega)
  refine ⟨_, _, rfl, rfl, okM (bd_neg bw) bw2, ?_⟩
  have none_ : ∀ (H' : Hp) (r : Addr), Same H H' → H' r = none → (¬ ∃ c, c * c = sqr F R S) → Q (.ref r) (upd H' r (.lst [])) := fun H' r g nr no =>
    q r _ [] [] (g.trans (same_new nr _)) (by
      cases e : H r with
      | none => rfl
      | some o => have := g _ _ e; rw [nr] at this; cases this) upd_same .nil (let ⟨a, b⟩ := B.none no; .none a b) (by simp)
  refine ⟨_, rfl, _, _, rfl, rfl, _, rfl, ite2 (fun c => ?_) (fun c => ?_)⟩
  · have c' : sqr F R S < 0 := of_decide_eq_true c
    refine ⟨(by show 0 ≤ sizeLine; decide), fun p np => none_ H3 p g13 np ?_⟩
    rintro ⟨x, e⟩
    have : 0 ≤ x * x := by
      rcases Int.le_total 0 x with z | z
      · exact Int.mul_nonneg z z
      · exact Int.mul_nonneg_of_nonpos_of_nonpos z z
    omega
  have q0 : 0 ≤ sqr F R S := by
    have : ¬ sqr F R S < 0 := of_decide_eq_false (Bool.eq_false_iff.mpr c)
    omega
  refine ⟨_, rfl, sqr F R S, rfl, q0, bd_topR (bq.mono (by omega)), fun r r0 rl rh => ?_⟩
  have br : Bd 723 r := bd_rt2 (k := 723) r0 rl bq
  refine ⟨_, rfl, _, rfl, _, _, rfl, rfl, okM br br, _, rfl, rfl, _, rfl, ite2 (fun c => ?_) (fun c => ?_)⟩
  · have c' : r * r ≠ sqr F R S := fun z => by
      have c2 : (!decide (V.int (r * r) = V.int (sqr F R S))) = true := c
      rw [z] at c2
      simp at c2
    refine ⟨(by show 0 ≤ sizeLine; decide), fun p np => none_ H3 p g13 np ?_⟩
    rintro ⟨x, e⟩
    have e2 : (x.natAbs : Int) * (x.natAbs : Int) = sqr F R S := by rw [← e]; exact Int.natAbs_mul_self' x
    have := root_uniq (g := r) (r := (x.natAbs : Int)) r0 (by omega) (by omega) (by omega)
    exact c' (by rw [this]; exact e2)
  have hr2 : r * r = sqr F R S := by
    have : ¬ (!decide (V.int (r * r) = V.int (sqr F R S))) = true := c
    simp at this
    exact this
  refine ⟨_, rfl, co, _, _, _, rfl, rfl, SqT.of (g23 _ _ hco), rfl, _, rfl, r2, S, wo F R, rfl, SqT.of (g23 _ _ h2), bS.mono', bw.mono (by omega), fun en H4 g4 hen => ?_⟩
  have bst : ∀ u : Int, Bd 723 u → BP 895 (st R u) := fun u hu => by
    rw [st_eq]
    exact (bp_tm hu bR).mono'
  have ben : BP 895 (st S (wo F R)) := by
    rw [st_eq]
    exact (bp_tm bw bS).mono'
  refine ⟨_, rfl, _, rfl, _, rfl, (by show 2 ≤ sizeLine; decide), fun tp ntp => ?_⟩
  have gt := same_new ntp (.tup [.int r, .int (-r)])
  have g24 := g4.trans gt
  have htp : upd H4 tp (.tup [.int r, .int (-r)]) tp = some (.tup [.int r, .int (-r)]) := upd_same
  generalize upd H4 tp (.tup [.int r, .int (-r)]) = H5 at *
  refine ⟨tp, rfl, ⟨_, SqT.of htp⟩, comp_tupR (xs := [.int r, .int (-r)]) (by show 2 < sizeLine; decide) (fun H' g => SqT.of (g _ _ htp)) (TwoEnds F R S r) (fun _ _ => ⟨fun _ => rfl, fun z => by omega, fun z => by omega⟩) ?_ ?_⟩
  · intro i x vs H' acc Q' ex g h0 ha rr hv k
    have cs : ∃ u : Int, x = .int u ∧ u * u = sqr F R S ∧ Bd 723 u ∧ ∀ (z : Addr) (H'' : Hp) (P0 : P3), Same H' H'' → S3 H'' z P0 → EndAt F R S u P0 → TwoEnds F R S r (i + 1) (vs ++ [.ref z]) (upd H'' acc (.lst (vs ++ [.ref z]))) := by
      match i, ex, rr with
      | 0, ex, rr =>
        have e0 := rr.1 rfl
        subst e0
        exact ⟨r, (Option.some.inj ex).symm, hr2, br, fun z H'' P0 g'' hz en' => ⟨fun w => by omega, fun _ => ⟨z, P0, rfl, hz.put (g'' _ _ ha), en'⟩, fun w => by omega⟩⟩
      | 1, ex, rr =>
        obtain ⟨z0, P1, rfl, hz0, en0⟩ := rr.2.1 rfl
        exact ⟨-r, (Option.some.inj ex).symm, by rw [← hr2]; grind, bd_neg br, fun z H'' P0 g'' hz en' => ⟨fun w => by omega, fun w => by omega, fun _ => ⟨z0, z, P1, P0, rfl, S3.put (g'' _ _ hz0) (g'' _ _ ha), hz.put (g'' _ _ ha), en0, en'⟩⟩⟩
      | i + 2, ex, rr => simp at ex
    obtain ⟨u, rfl, hu, bu, kk⟩ := cs
    refine ⟨_, rfl, co, _, _, _, rfl, rfl, SqT.of ((g23.trans (g24.trans g)) _ _ hco), rfl, _, rfl, r1, R, u, rfl, SqT.of ((g23.trans (g24.trans g)) _ _ h1), bR.mono', bu.mono (by omega), fun z1 H6 g6 hz1 => ?_⟩
    refine ⟨_, rfl, z1, en, st R u, st S (wo F R), rfl, SqT.of hz1, SqT.of ((gt.trans (g.trans g6)) _ _ hen), fun z2 H7 g7 hz2 => ?_⟩
    have eN : ad (st R u) (st S (wo F R)) = ad (tm u R) (tm (wo F R) S) := by rw [st_eq, st_eq]
    have bN : BP 896 (ad (st R u) (st S (wo F R))) := (bp_ad (bst u bu) ben).mono'
    obtain ⟨n3, _, _⟩ := B.ends hu
    rw [← eN] at n3
    refine ⟨false, z2, _, _, _, rfl, SqT.of hz2, in3_of bN.mono', n3_nz n3, fun z3 H8 a b c d g8 h8 o8 p8 d0 ex' ey ez => ?_⟩
    have em : ad (st R u) (st S (wo F R)) = tm d ⟨a, b, c⟩ := P3.ext' ⟨ex', ey, ez⟩
    exact k _ _ (g6.trans (g7.trans g8)) (kk z3 H8 ⟨a, b, c⟩ (g6.trans (g7.trans g8)) h8 ⟨⟨o8, p8⟩, (bp_div d0 (em ▸ bN)).mono', d, d0, by rw [← eN]; exact em⟩)
  intro la H6 ws g6 _ hla _ rr
  obtain ⟨z, z', P1, P2, rfl, hz, hz', e1, e2⟩ := rr.2.2 rfl
  refine ⟨la, z, z', [P1.x, P1.y, P1.z], [P2.x, P2.y, P2.z], rfl, SqL.of hla, SqT.of hz, SqT.of hz', fun sa nsa => ?_⟩
  have gs := same_new nsa (.ext (TwoE w sa z z' [P1.x, P1.y, P1.z] [P2.x, P2.y, P2.z]))
  refine ⟨sa, z, z', P1.x, P2.x, [P1.y, P1.z], [P2.y, P2.z], rfl, upd_same, SqT.of (gs _ _ hz), SqT.of (gs _ _ hz'), rfl, fun ra nra => ?_⟩
  have gAll := g13.trans (g24.trans (g6.trans gs))
  have nH := new_none gAll nra
  refine ⟨fun e => ?_, fun lt => ?_, fun lt => ?_⟩
  · have e' : P1 = P2 := by
      simp at e
      exact P3.ext' e
    have gn := same_new nra (.lst [.ref z])
    exact q ra _ _ [P1] (gAll.trans gn) nH upd_same (.cons (gn _ _ (gs _ _ hz)) .nil) (met_one B hr2 e1 e2 e') (by simp; exact e1.2.1)
  · have lt' := (lex3 P1 P2).mp lt
    have gn := same_new nra (.lst [.ref z, .ref z'])
    exact q ra _ _ [P1, P2] (gAll.trans gn) nH upd_same (.cons (gn _ _ (gs _ _ hz)) (.cons (gn _ _ (gs _ _ hz')) .nil)) ((met_two B hr2 e1 e2 (.inl lt')).1 lt') (by simp; exact ⟨e1.2.1, e2.2.1⟩)
  · have lt' := (lex3 P2 P1).mp lt
    have gn := same_new nra (.lst [.ref z', .ref z])
    exact q ra _ _ [P2, P1] (gAll.trans gn) nH upd_same (.cons (gn _ _ (gs _ _ hz')) (.cons (gn _ _ (gs _ _ hz)) .nil)) ((met_two B hr2 e1 e2 (.inr lt')).2 lt') (by simp; exact ⟨e2.2.1, e1.2.1⟩)
theorem ok_worth {f : Addr} {fd : FuncData} (F : Fun K "_law_worth" "_law_worth" s_worth f fd) (T : Txt K mg t)  : FnOk P w K mg base CX0 1 f fd ["_law_form_here", "_law_spot_here"] (spLw) := by
  refine F.ok sc_worth (fun vs H Q E h => ?_) (fun cdv A outer s H vs Q E hr h => ?_)
  · obtain ⟨_, _, _, _, rfl, _⟩ := h
    rfl
  obtain ⟨p, q', F, P', rfl, hp, hq, bf, bp, q⟩ := h
  unfold S3 at hq
  unfold S6 at hp
  refine ⟨_, pss_cons (ps_asg (pv 0) (pg_tup rfl (pgs_cons (pg_name (i := 3) sc_worth.nd rfl (Or.inl rfl)) (pgs_cons (pg_name (i := 4) sc_worth.nd rfl (Or.inl rfl)) (pgs_cons (pg_name (i := 5) sc_worth.nd rfl (Or.inl rfl)) (pgs_cons (pg_name (i := 6) sc_worth.nd rfl (Or.inl rfl)) (pgs_cons (pg_name (i := 7) sc_worth.nd rfl (Or.inl rfl)) (pgs_cons (pg_name (i := 8) sc_worth.nd rfl (Or.inl rfl)) pgs_nil))))))))
    (pss_cons (ps_asg (pv 1) (pg_tup rfl (pgs_cons (pg_name (i := 9) sc_worth.nd rfl (Or.inl rfl)) (pgs_cons (pg_name (i := 10) sc_worth.nd rfl (Or.inl rfl)) (pgs_cons (pg_name (i := 11) sc_worth.nd rfl (Or.inl rfl)) pgs_nil)))))
    (pss_cons (ps_set (i := 2) sc_worth.nd rfl (Or.inl rfl) (pe_op op_add (pe_op op_add (pe_op op_mulG (pe_op op_mulG (pv 3) (pv 9)) (pv 9)) (pe_op op_mulG (pe_op op_mulG (pv 4) (pv 10)) (pv 10))) (pe_op op_mulG (pe_op op_mulG (pv 5) (pv 11)) (pv 11))))
    (pss_one (ps_ret (pe_op op_add (pe_op op_add (pe_op op_add (pv 2) (pe_op op_mulG (pe_op op_mulG (pv 6) (pv 10)) (pv 11))) (pe_op op_mulG (pe_op op_mulG (pv 7) (pv 9)) (pv 11))) (pe_op op_mulG (pe_op op_mulG (pv 8) (pv 9)) (pv 10))))))), ?_⟩
  refine ⟨_, rfl, p, _, rfl, SqT.of hp, rfl, _, _, rfl, _, _, rfl, _, _, rfl, _, _, rfl, _, _, rfl, _, _, rfl, rfl, ?_⟩
  refine ⟨_, rfl, q', _, rfl, SqT.of hq, rfl, _, _, rfl, _, _, rfl, _, _, rfl, rfl, ?_⟩
  refine ⟨_, rfl, _, rfl, _, _, rfl, rfl, okM bf.a bp.x, _, rfl, _, _, rfl, rfl, okM (bf.a.mul bp.x) bp.x, _, rfl, _, rfl, _, _, rfl, rfl, okM bf.b bp.y, _, rfl, _, _, rfl, rfl, okM (bf.b.mul bp.y) bp.y, _, _, rfl, rfl, _, rfl, _, rfl, _, _, rfl, rfl, okM bf.c bp.z, _, rfl, _, _, rfl, rfl, okM (bf.c.mul bp.z) bp.z, _, _, rfl, rfl, ?_⟩
  exact ⟨_, rfl, _, rfl, _, rfl, _, _, rfl, rfl, okM bf.d bp.y, _, rfl, _, _, rfl, rfl, okM (bf.d.mul bp.y) bp.z, _, _, rfl, rfl, _, rfl, _, rfl, _, _, rfl, rfl, okM bf.e bp.x, _, rfl, _, _, rfl, rfl, okM (bf.e.mul bp.x) bp.z, _, _, rfl, rfl, _, rfl, _, rfl, _, _, rfl, rfl, okM bf.f bp.x, _, rfl, _, _, rfl, rfl, okM (bf.f.mul bp.x) bp.y, _, _, rfl, rfl, q⟩
theorem ok_root {f : Addr} {fd : FuncData} (F : Fun K "_law_root" "_law_root" s_root f fd) (T : Txt K mg t)  : FnOk P w K mg base CX0 1 f fd ["_law_number"] (spLRoot) := by
  refine F.ok sc_root (fun vs H Q E h => ?_) (fun cdv A outer s H vs Q E hr h => ?_)
  · obtain ⟨n, rfl, _⟩ := h
    rfl
  obtain ⟨n, rfl, n0, n1, q⟩ := h
  refine ⟨_, pss_cons (ps_set (i := 1) sc_root.nd rfl (Or.inl rfl) pe_int)
    (pss_cons (ps_while PassesOwn.never (pt_cmpR op_le (pe_op op_mulG (pv 1) (pv 1)) (pv 0) (nomark _)) (pss_one (ps_set (i := 1) sc_root.nd rfl (Or.inl rfl) (pe_op op_mulG pe_int (pv 1)))))
    (pss_cons (ps_set (i := 2) sc_root.nd rfl (Or.inl rfl) (pv 1))
    (pss_cons (ps_set (i := 1) sc_root.nd rfl (Or.inl rfl) pe_int)
    (pss_cons (ps_while PassesOwn.never (pt_cmpR op_gt (pv 2) pe_int (nomark _)) (pss_cut (ps_if (pt_cmpR op_le (pe_op op_mulG (pe_op op_add (pv 1) (pv 2)) (pe_op op_add (pv 1) (pv 2))) (pv 0) (nomark _)) (pss_one (ps_set (i := 1) sc_root.nd rfl (Or.inl rfl) (pe_op op_add (pv 1) (pv 2)))) pss_nil)
    (pss_one (ps_set (i := 2) sc_root.nd rfl (Or.inl rfl) (pe_op op_fdiv (pv 2) pe_int)))))
    (pss_one (ps_ret (pv 1))))))), ?_⟩
  refine ⟨fun m σ H' => ∃ (k : Nat) (g : Int), σ = [some (.int n), some (.int g), none] ∧ H' = H ∧ g = 2 ^ k ∧ 1 ≤ g ∧ g ≤ 2 * n ∧ m = (n + 1 - g).toNat, ⟨_, 0, 1, rfl, rfl, rfl, by omega, by omega, rfl⟩, ?_⟩
  rintro m σ H' ⟨k, g, rfl, rfl, ek, g0, g1, rfl⟩
  have bg := bits_lit (bits_top4 (g := g) (by omega) (by omega)) (by decide)
  refine ⟨_, rfl, _, rfl, _, _, rfl, rfl, mulOk bg bg, _, rfl, _, _, rfl, rfl, _, rfl, ?_⟩
  refine ite2 (fun c => ?_) (fun c => ?_)
  · have c' : g * g ≤ n := of_decide_eq_true c
    have gn := le_sq g0
    refine ⟨fun σ' H2 => σ' = [some (.int n), some (.int (2 * g)), none] ∧ H2 = H', ?_, ?_⟩
    · rintro σ' H2 ⟨rfl, rfl⟩
      exact ⟨_, by omega, k + 1, 2 * g, rfl, rfl, by rw [ek, Int.pow_succ]; omega, by omega, by omega, rfl⟩
    · exact ⟨_, rfl, _, _, rfl, rfl, mulOk (bits_lit (k := 2) (by decide) (by decide)) bg, rfl, rfl⟩
  · have c' : ¬ g * g ≤ n := of_decide_eq_false (Bool.eq_false_iff.mpr c)
    refine ⟨_, rfl, ?_⟩
    have st0 : Stp n 0 g := .inr ⟨k, ek, by
      have : (0 + 2 * g) * (0 + 2 * g) = 4 * (g * g) := by grind
      omega⟩
    refine ⟨fun m σ H2 => ∃ f s : Int, σ = [some (.int n), some (.int f), some (.int s)] ∧ H2 = H' ∧ 0 ≤ f ∧ 0 ≤ s ∧ s ≤ 2 * n ∧ f * f ≤ n ∧ Stp n f s ∧ m = s.toNat, ⟨_, 0, g, rfl, rfl, by omega, by omega, g1, by omega, st0, rfl⟩, ?_⟩
    rintro m σ H2 ⟨f, s, rfl, rfl, f0, s0, s1, fn, st, rfl⟩
    have fln : f ≤ n := by
      rcases (show f = 0 ∨ 1 ≤ f by omega) with z | z
      · omega
      · have := le_sq z
        omega
    refine ⟨_, rfl, _, _, rfl, rfl, _, rfl, ?_⟩
    refine ite2 (fun c2 => ?_) (fun c2 => ?_)
    · have sp : 0 < s := of_decide_eq_true c2
      have bfs := bits_lit (bits_top4 (g := f + s) (by omega) (by omega)) (by decide)
      obtain ⟨hj, hlt⟩ : (∃ j : Nat, s = 2 ^ j) ∧ n < (f + 2 * s) * (f + 2 * s) := by
        rcases st with ⟨z, _⟩ | ⟨j, e, l⟩
        · omega
        · exact ⟨⟨j, e⟩, l⟩
      refine ⟨fun σ' H3 => ∃ f' : Int, σ' = [some (.int n), some (.int f'), some (.int (s / 2))] ∧ H3 = H2 ∧ 0 ≤ f' ∧ f' * f' ≤ n ∧ n < (f' + s) * (f' + s), ?_, ?_⟩
      · rintro σ' H3 ⟨f', rfl, rfl, a1, a2, a3⟩
        exact ⟨_, by omega, f', s / 2, rfl, rfl, a1, by omega, by omega, a2, Stp.half sp hj a3, rfl⟩
      · refine ⟨fun σ' H3 => ∃ f' : Int, σ' = [some (.int n), some (.int f'), some (.int s)] ∧ H3 = H2 ∧ 0 ≤ f' ∧ f' * f' ≤ n ∧ n < (f' + s) * (f' + s), ?_, ?_⟩
        · refine ⟨_, rfl, _, rfl, _, _, rfl, rfl, _, rfl, _, rfl, _, _, rfl, rfl, _, _, rfl, rfl, mulOk bfs bfs, _, rfl, _, _, rfl, rfl, _, rfl, ?_⟩
          refine ite2 (fun c3 => ?_) (fun c3 => ?_)
          · have c3' : (f + s) * (f + s) ≤ n := of_decide_eq_true c3
            exact ⟨_, rfl, _, rfl, _, _, rfl, rfl, f + s, rfl, rfl, by omega, c3', by rw [show f + s + s = f + 2 * s by omega]; exact hlt⟩
          · have c3' : ¬ (f + s) * (f + s) ≤ n := of_decide_eq_false (Bool.eq_false_iff.mpr c3)
            exact ⟨f, rfl, rfl, f0, fn, by omega⟩
        · rintro σ' H3 ⟨f', rfl, rfl, a1, a2, a3⟩
          exact ⟨_, rfl, _, _, rfl, rfl, ⟨by decide, by decide⟩, f', rfl, rfl, a1, a2, a3⟩
    · have sz0 : s = 0 := by
        have : ¬ 0 < s := of_decide_eq_false (Bool.eq_false_iff.mpr c2)
        omega
      have fin : n < (f + 1) * (f + 1) := by
        rcases st with ⟨_, l⟩ | ⟨j, e, l⟩
        · exact l
        · have := Int.pow_pos (n := 2) (m := j) (by decide)
          omega
      exact ⟨_, rfl, q f f0 fn fin⟩
theorem ok_slope {f : Addr} {fd : FuncData} (F : Fun K "_law_slope" "_law_slope" s_slope f fd) (T : Txt K mg t)  : FnOk P w K mg base CX0 1 f fd ["_law_form_here", "_law_spot_here"] (spSlope) := by
  refine F.ok sc_slope (fun vs H Q E h => ?_) (fun cdv A outer s H vs Q E hr h => ?_)
  · obtain ⟨_, _, _, _, rfl, _⟩ := h
    rfl
  obtain ⟨p, q', F, P', rfl, hp, hq, bf, bp, q⟩ := h
  unfold S3 at hq
  unfold S6 at hp
  refine ⟨_, pss_cons (ps_asg (pv 0) (pg_tup rfl (pgs_cons (pg_name (i := 2) sc_slope.nd rfl (Or.inl rfl)) (pgs_cons (pg_name (i := 3) sc_slope.nd rfl (Or.inl rfl)) (pgs_cons (pg_name (i := 4) sc_slope.nd rfl (Or.inl rfl)) (pgs_cons (pg_name (i := 5) sc_slope.nd rfl (Or.inl rfl)) (pgs_cons (pg_name (i := 6) sc_slope.nd rfl (Or.inl rfl)) (pgs_cons (pg_name (i := 7) sc_slope.nd rfl (Or.inl rfl)) pgs_nil))))))))
    (pss_cons (ps_asg (pv 1) (pg_tup rfl (pgs_cons (pg_name (i := 8) sc_slope.nd rfl (Or.inl rfl)) (pgs_cons (pg_name (i := 9) sc_slope.nd rfl (Or.inl rfl)) (pgs_cons (pg_name (i := 10) sc_slope.nd rfl (Or.inl rfl)) pgs_nil)))))
    (pss_one (ps_ret (pe_tup (pa_cons (pe_op op_add (pe_op op_add (pe_op op_mulG (pe_op op_mulG pe_int (pv 2)) (pv 8)) (pe_op op_mulG (pv 7) (pv 9))) (pe_op op_mulG (pv 6) (pv 10))) (pa_cons (pe_op op_add (pe_op op_add (pe_op op_mulG (pv 7) (pv 8)) (pe_op op_mulG (pe_op op_mulG pe_int (pv 3)) (pv 9))) (pe_op op_mulG (pv 5) (pv 10))) (pa_cons (pe_op op_add (pe_op op_add (pe_op op_mulG (pv 6) (pv 8)) (pe_op op_mulG (pv 5) (pv 9))) (pe_op op_mulG (pe_op op_mulG pe_int (pv 4)) (pv 10))) pa_nil))))))), ?_⟩
  refine ⟨_, rfl, p, _, rfl, SqT.of hp, rfl, _, _, rfl, _, _, rfl, _, _, rfl, _, _, rfl, _, _, rfl, _, _, rfl, rfl, ?_⟩
  refine ⟨_, rfl, q', _, rfl, SqT.of hq, rfl, _, _, rfl, _, _, rfl, _, _, rfl, rfl, ?_⟩
  refine ⟨_, rfl, _, _, rfl, rfl, ok2, _, rfl, _, _, rfl, rfl, okM (bd_two bf.a) bp.x, _, rfl, _, rfl, _, _, rfl, rfl, okM bf.f bp.y, _, _, rfl, rfl, _, rfl, _, rfl, _, _, rfl, rfl, okM bf.e bp.z, _, _, rfl, rfl, ?_⟩
  refine ⟨_, rfl, _, rfl, _, _, rfl, rfl, okM bf.f bp.x, _, rfl, _, _, rfl, rfl, ok2, _, rfl, _, _, rfl, rfl, okM (bd_two bf.b) bp.y, _, _, rfl, rfl, _, rfl, _, rfl, _, _, rfl, rfl, okM bf.d bp.z, _, _, rfl, rfl, ?_⟩
  refine ⟨_, rfl, _, rfl, _, _, rfl, rfl, okM bf.e bp.x, _, rfl, _, rfl, _, _, rfl, rfl, okM bf.d bp.y, _, _, rfl, rfl, _, rfl, _, _, rfl, rfl, ok2, _, rfl, _, _, rfl, rfl, okM (bd_two bf.c) bp.z, _, _, rfl, rfl, ?_⟩
  exact ⟨(by show 3 ≤ sizeLine; decide), fun r nr => q r _ (same_new nr _) upd_same⟩
theorem ok_many {f : Addr} {fd : FuncData} (F : Fun K "_law_many" "_law_many" s_many f fd) (T : Txt K mg t) (H_beside : Has P w K mg base CX0 1 "_law_beside" ["_law_one", "_law_other"] (spCr)) (H_worth : Has P w K mg base CX0 1 "_law_worth" ["_law_form_here", "_law_spot_here"] (spLw)) (H_cross : Has P w K mg base CX0 2 "_law_cross" ["_law_form_here", "_law_one", "_law_other"] (spCross)) (H_root : Has P w K mg base CX0 1 "_law_root" ["_law_number"] (spLRoot)) : FnOk P w K mg base CX0 3 f fd ["_law_form_here", "_law_line"] (spMany) := by
  obtain ⟨f_beside, d_beside, G_beside, b_beside, k_beside, m_beside⟩ := H_beside
  obtain ⟨f_worth, d_worth, G_worth, b_worth, k_worth, m_worth⟩ := H_worth
  obtain ⟨f_cross, d_cross, G_cross, b_cross, k_cross, m_cross⟩ := H_cross
  obtain ⟨f_root, d_root, G_root, b_root, k_root, m_root⟩ := H_root
  refine F.ok sc_many (fun vs H Q E h => ?_) (fun cdv A outer s H vs Q E hr h => ?_)
  · obtain ⟨_, _, _, _, _, rfl, _⟩ := h
    rfl
  obtain ⟨q', lr, F, l, Ps, rfl, hF, hl, bf, bl', nl, M, q⟩ := h
  have hr_beside := hr.mono (show 1 ≤ 2 by decide)
  have hr_worth := hr.mono (show 1 ≤ 2 by decide)
  have hr_cross := hr.mono (show 2 ≤ 2 by decide)
  have hr_root := hr.mono (show 1 ≤ 2 by decide)
  have hl' : H lr = some (.tup (v3 l)) := hl
  refine ⟨_, pss_cons (ps_set (i := 2) sc_many.nd rfl (Or.inr rfl) (pe_ix ix_list (pe_compIfC rfl (CompScope.gen (cl := [("_law_line", _)]) ["_law_line"] [1] [(".0", .local), ("_law_k", .local), ("_law_line", .cell)] rfl (by decide +kernel) (by decide +kernel) rfl rfl (by intro p hp; simp only [List.mem_cons, List.not_mem_nil, or_false] at hp; rcases hp with rfl <;> rfl) rfl (by intro p hp h; simp only [List.mem_cons, List.not_mem_nil, or_false] at hp; rcases hp with rfl | rfl | rfl <;> first | rfl | (rcases h with h | h <;> cases h)) (by decide) (by decide +kernel) rfl (by intro p hp; simp only [List.zip_cons_cons, List.zip_nil_left, List.mem_cons, List.not_mem_nil, or_false] at hp; rcases hp with rfl <;> exact ⟨rfl, rfl⟩)) (pi_range1 rfl T.z_range (pa_cons pe_int pa_nil)) (fun C s0 H0 fp pins => pt_cmpR op_ne (pe_ix (ixK_tup (K := K) rfl) (pv 1) (pv 0) (fun _ _ => rfl)) pe_int (nomark _)) (fun C s0 H0 fp pins => pv 0)) pe_int (fun _ _ => rfl)))
    (pss_cons (ps_setCI (k := 3) sc_many.nd rfl (Or.inl rfl) rfl rfl (CompScope.gen (cl := [("_law_line", _), ("_law_at", _)]) ["_law_at", "_law_line"] [2, 1] [(".0", .local), ("_law_k", .local), ("_law_beside", .globalImplicit), ("_law_at", .cell), ("_law_line", .cell)] rfl (by decide +kernel) (by decide +kernel) rfl rfl (by intro p hp; simp only [List.mem_cons, List.not_mem_nil, or_false] at hp; rcases hp with rfl | rfl <;> rfl) rfl (by intro p hp h; simp only [List.mem_cons, List.not_mem_nil, or_false] at hp; rcases hp with rfl | rfl | rfl | rfl | rfl <;> first | rfl | (rcases h with h | h <;> cases h)) (by decide) (by decide +kernel) rfl (by intro p hp; simp only [List.zip_cons_cons, List.zip_nil_left, List.mem_cons, List.not_mem_nil, or_false] at hp; rcases hp with rfl | rfl <;> exact ⟨rfl, rfl⟩)) (pi_range1 rfl T.z_range (pa_cons pe_int pa_nil)) (fun C s0 H0 fp pins => pt_cmpR op_ne (pv 0) (pv 1) (nomark _)) (fun C s0 H0 fp pins => pe_call G_beside hr_beside rfl m_beside k_beside b_beside .nil pass0 (pa_cons (pv 2) (pa_cons (pe_ix (ixK_list (K := K) rfl) (pe_lst (pa_cons (pe_tup (pa_cons pe_int (pa_cons pe_int (pa_cons pe_int pa_nil)))) (pa_cons (pe_tup (pa_cons pe_int (pa_cons pe_int (pa_cons pe_int pa_nil)))) (pa_cons (pe_tup (pa_cons pe_int (pa_cons pe_int (pa_cons pe_int pa_nil)))) pa_nil)))) (pv 0) (fun _ _ => rfl)) pa_nil))) (Or.inl rfl))
    (pss_cons (ps_set (i := 4) sc_many.nd rfl (Or.inl rfl) (pe_call G_worth hr_worth rfl m_worth k_worth b_worth .nil pass0 (pa_cons (pv 0) (pa_cons (pe_ix ix_list (pv 3) pe_int (fun _ _ => rfl)) pa_nil))))
    (pss_cons (ps_set (i := 5) sc_many.nd rfl (Or.inl rfl) (pe_call G_worth hr_worth rfl m_worth k_worth b_worth .nil pass0 (pa_cons (pv 0) (pa_cons (pe_ix ix_list (pv 3) pe_int (fun _ _ => rfl)) pa_nil))))
    (pss_cons (ps_set (i := 6) sc_many.nd rfl (Or.inl rfl) (pe_call G_cross hr_cross rfl m_cross k_cross b_cross .nil pass0 (pa_cons (pv 0) (pa_cons (pe_ix ix_list (pv 3) pe_int (fun _ _ => rfl)) (pa_cons (pe_ix ix_list (pv 3) pe_int (fun _ _ => rfl)) pa_nil)))))
    (pss_cons (ps_set (i := 7) sc_many.nd rfl (Or.inl rfl) (pe_op op_sub (pe_op op_mulG (pv 6) (pv 6)) (pe_op op_mulG (pe_op op_mulG pe_int (pv 4)) (pv 5))))
    (pss_cons (ps_if (pt_cmpR op_eq (pv 7) pe_int (nomark _)) (pss_one (ps_ret pe_int)) pss_nil)
    (pss_cons (ps_if (pt_cmpR op_lt (pv 7) pe_int (nomark _)) (pss_one (ps_ret pe_int)) pss_nil)
    (pss_cons (ps_set (i := 8) sc_many.nd rfl (Or.inl rfl) (pe_call G_root hr_root rfl m_root k_root b_root .nil pass0 (pa_cons (pv 7) pa_nil)))
    (pss_one (ps_ret (pe_op op_mulG pe_int (pe_callTy call_int1 rfl T.z_int b_int (pa_cons (pe_cmpR op_eq (pe_op op_mulG (pv 8) (pv 8)) (pv 7) (nomark _)) pa_nil))))))))))))), ?_⟩
  refine ⟨3, rfl, by decide, by decide, compIf_three (nzAt l) id ?_ ?_ ?_⟩
  · intro i H' Q' hi g k
    exact ⟨_, rfl, _, rfl, lr, _, _, _, rfl, rfl, SqT.of (g _ _ hl'), at3 hi, rfl, _, rfl, by
      have kk := k H' (Same.refl _)
      have e : nzAt l (.int (0 + (i : Int))) = !decide (V.int (cmp l i) = V.int 0) := by
        show (!decide (V.int (cmp l (0 + (i : Int)).toNat) = V.int 0)) = _
        rw [show (0 + (i : Int)).toNat = i by omega]
      rw [e] at kk
      exact kk⟩
  · intro i H' Q' hi e g k
    exact ⟨_, rfl, k _ (Same.refl _)⟩
  intro la H1 g1 _ hla
  rw [lasts_eq] at hla
  obtain ⟨j, ms, ej, hj, nz⟩ := lasts_hd nl
  rw [ej] at hla
  refine ⟨la, _, _, _, rfl, rfl, SqL.of hla, at0, ?_⟩
  have hl1 := g1 _ _ hl
  refine ⟨3, rfl, by decide, by decide, compIf_rangeR 3 (by decide) (fun i => i != j) (fun i vs H' => Tu H' vs (sd l j i)) (fun _ _ => .nil) ?_ ?_ ?_ ?_⟩
  · intro i H' Q' hi g k
    refine ⟨_, rfl, _, rfl, rfl, _, rfl, ?_⟩
    have e : (!decide (V.int (0 + (i : Int)) = V.int (j : Int))) = (i != j) := by
      by_cases c : i = j
      · subst c; simp
      · have : ¬ (V.int (0 + (i : Int)) = V.int (j : Int)) := fun z => c (by have := int_inj z; omega)
        rw [decide_eq_false this]
        simp [c]
    exact e ▸ k
  · intro i vs H' e r
    rw [sd_f (by simpa using e)]
    exact r
  · intro i vs H' acc Q' hi e g h0 ha r k
    refine ⟨_, rfl, (by show 3 ≤ sizeLine; decide), fun p1 n1 => ⟨(by show 3 ≤ sizeLine; decide), fun p2 n2 => ⟨(by show 3 ≤ sizeLine; decide), fun p3 n3 => ⟨(by show 3 ≤ sizeLine; decide), fun p4 n4 => ?_⟩⟩⟩⟩
    have f1 := same_new n1 (t3 (axOf 0))
    have f2 := same_new n2 (t3 (axOf 1))
    have f3 := same_new n3 (t3 (axOf 2))
    have f4 := same_new n4 (.lst [.ref p1, .ref p2, .ref p3])
    have w1 := f4 _ _ (f3 _ _ (f2 p1 _ upd_same))
    have w2 := f4 _ _ (f3 p2 _ upd_same)
    have w3 := f4 p3 _ upd_same
    have gf := f1.trans (f2.trans (f3.trans f4))
    have pick : ∃ pa : Addr, atI [V.ref p1, .ref p2, .ref p3] (0 + (i : Int)) = some (.ref pa) ∧ S3 (upd (upd (upd (upd H' p1 (t3 (axOf 0))) p2 (t3 (axOf 1))) p3 (t3 (axOf 2))) p4 (.lst [.ref p1, .ref p2, .ref p3])) pa (axOf i) := by
      obtain rfl | rfl | rfl : i = 0 ∨ i = 1 ∨ i = 2 := by omega
      · exact ⟨p1, rfl, w1⟩
      · exact ⟨p2, rfl, w2⟩
      · exact ⟨p3, rfl, w3⟩
    obtain ⟨pa, ea, ha'⟩ := pick
    refine ⟨_, rfl, p4, _, _, _, rfl, rfl, SqL.of upd_same, ea, lr, pa, l, axOf i, rfl, gf _ _ (g _ _ hl1), ha', bl'.mono', axOf_bp i, fun z H3 g3 hz => k _ _ (gf.trans g3) ?_⟩
    rw [sd_t (by simpa using e)]
    exact ((r.mono (gf.trans g3)).app (.cons hz .nil)).put ((gf.trans g3) _ _ ha)
  intro lb H2 vs g2 _ hlb rr
  obtain ⟨u, v, k, es, k0, ek, bb⟩ := sd_end hj nz
  rw [es] at rr
  obtain ⟨z1, z2, rfl, hu, hv⟩ : ∃ z1 z2, vs = [.ref z1, .ref z2] ∧ S3 H2 z1 u ∧ S3 H2 z2 v := by
    cases rr with
    | cons a b => cases b with
      | cons c d => cases d; exact ⟨_, _, rfl, a, c⟩
  obtain ⟨bu, bv⟩ := bb 170 bl'
  have hF2 := (g1.trans g2) _ _ hF
  refine ⟨_, rfl, _, rfl, lb, _, _, _, rfl, rfl, SqL.of hlb, rfl, q', z1, F, u, rfl, hF2, hu, bf.mono, bu.mono', ?_⟩
  refine ⟨_, rfl, _, rfl, lb, _, _, _, rfl, rfl, SqL.of hlb, rfl, q', z2, F, v, rfl, hF2, hv, bf.mono, bv.mono', ?_⟩
  refine ⟨_, rfl, _, rfl, lb, _, _, _, rfl, rfl, SqL.of hlb, rfl, _, rfl, lb, _, _, _, rfl, rfl, SqL.of hlb, rfl, q', z1, z2, F, u, v, rfl, hF2, hu, hv, bf.mono, bu.mono', bv.mono', fun H3 g3 => ?_⟩
  rw [lw_eq, lw_eq]
  have b1 : Bd 447 (wo F u) := (bd_wo bf bu).mono (by omega)
  have b2 : Bd 447 (wo F v) := (bd_wo bf bv).mono (by omega)
  have b3 : Bd 447 (bl F u v) := (bd_bl bf bu bv).mono (by omega)
  have b41 : Bd 449 (4 * wo F u) := (Bd.mul b4 b1).mono (by omega)
  have eu : bl F u v * bl F u v - 4 * wo F u * wo F v = k * k * gq F l := by
    rw [← gq_tm, ← ek, ← gq_id]
    grind
  have bU : Bd 900 (bl F u v * bl F u v - 4 * wo F u * wo F v) := (((b3.mul b3).mono (by omega : 447 + 447 ≤ 896)).sub ((b41.mul b2).mono (by omega))).mono (by omega)
  have cn := M.cnt k0 eu
  refine ⟨_, rfl, _, rfl, _, _, rfl, rfl, okM b3 b3, _, rfl, _, _, rfl, rfl, okM b4 b1, _, rfl, _, _, rfl, rfl, okM b41 b2, _, _, rfl, rfl, ?_⟩
  have gA := g1.trans (g2.trans g3)
  have fq : ∀ c : Int, c = Ps.length → Q (.int c) H3 := fun c e => by
    rw [e]
    exact q _ gA
  refine ⟨_, rfl, rfl, _, rfl, ite2 (fun c => ?_) (fun c => ?_)⟩
  · have c' : (bl F u v * bl F u v - 4 * wo F u * wo F v) = 0 := int_inj (of_decide_eq_true c)
    refine fq 1 ?_
    unfold cnt at cn
    omega
  have u0 : (bl F u v * bl F u v - 4 * wo F u * wo F v) ≠ 0 := fun z => c (decide_eq_true (congrArg V.int z))
  refine ⟨_, rfl, _, _, rfl, rfl, _, rfl, ite2 (fun c => ?_) (fun c => ?_)⟩
  · have c' : (bl F u v * bl F u v - 4 * wo F u * wo F v) < 0 := of_decide_eq_true c
    refine fq 0 ?_
    unfold cnt at cn
    omega
  have up : ¬ (bl F u v * bl F u v - 4 * wo F u * wo F v) < 0 := of_decide_eq_false (Bool.eq_false_iff.mpr c)
  refine ⟨_, rfl, (bl F u v * bl F u v - 4 * wo F u * wo F v), rfl, by omega, bd_topR (bU.mono (by omega)), fun g g0 g1' g2' => ?_⟩
  have bg : Bd 450 g := bd_rt2 (k := 450) g0 g1' bU
  refine ⟨_, rfl, _, rfl, _, _, rfl, rfl, okM bg bg, _, rfl, rfl, .inr ⟨_, rfl, ?_⟩⟩
  rcases cn with ⟨z, _⟩ | ⟨z, _⟩ | ⟨_, ⟨h, h0, eh⟩, ec⟩ | ⟨_, no, ec⟩
  · omega
  · omega
  · have e : g = h := root_uniq g0 (by omega) (by omega) h0
    subst e
    rw [decide_eq_true (congrArg V.int eh)]
    exact ⟨_, _, rfl, rfl, ok2, fq _ (by rw [ec]; rfl)⟩
  · rw [decide_eq_false (fun z => no ⟨g, int_inj z⟩)]
    exact ⟨_, _, rfl, rfl, ok2, fq _ (by rw [ec]; rfl)⟩
theorem ok_squares {f : Addr} {fd : FuncData} (F : Fun K "_law_squares" "_law_squares" s_squares f fd) (T : Txt K mg t)  : FnOk P w K mg base CX0 1 f fd ["_law_rows_here", "_law_number"] (spSqs) := by
  refine F.ok sc_squares (fun vs H Q E h => ?_) (fun cdv A outer s H vs Q E hr h => ?_)
  · obtain ⟨_, _, _, rfl, _⟩ := h
    rfl
  obtain ⟨p, t', n, rfl, hL, bt, q⟩ := h
  obtain ⟨r0, r1, r2, hp, h0, h1, h2⟩ := hL
  obtain ⟨es, p1, p2, hes, e⟩ : ∃ (es : List Expr) (p1 p2 : Pos), PairsE es [(0, 0), (1, 1), (2, 2), (1, 2), (0, 2), (0, 1)] ∧ defBody s_squares = [(defBody s_squares).getD 0 (.Pass ⟨0, 0, 0, 0⟩), (defBody s_squares).getD 1 (.Pass ⟨0, 0, 0, 0⟩), .For (fTg ((defBody s_squares).getD 2 (.Pass ⟨0, 0, 0, 0⟩))) (.List es p1) (fBd ((defBody s_squares).getD 2 (.Pass ⟨0, 0, 0, 0⟩))) (fOe ((defBody s_squares).getD 2 (.Pass ⟨0, 0, 0, 0⟩))) p2, (defBody s_squares).getD 3 (.Pass ⟨0, 0, 0, 0⟩)] :=
    ⟨_, _, _, .cons (.cons (.cons (.cons (.cons (.cons .nil))))), rfl⟩
  rw [e]
  refine ⟨_, pss_cons (ps_set (i := 2) sc_squares.nd rfl (Or.inr rfl) (pe_lst (pa_cons pe_int (pa_cons (pe_op op_add pe_int (pe_op op_mod (pv 1) pe_int)) (pa_cons (pe_op op_mulG (pe_op op_add pe_int (pe_op op_mod (pe_op op_fdiv (pv 1) pe_int) pe_int)) (pe_op op_sub pe_int (pe_op op_mulG pe_int (pe_op op_mod (pe_op op_fdiv (pv 1) pe_int) pe_int)))) pa_nil)))))
    (pss_cons (ps_set (i := 3) sc_squares.nd rfl (Or.inl rfl) (pe_lst pa_nil))
    (pss_cons (ps_for PassesOwn.never rfl (pi_list (pe_lst (pa_pairs hes))) (pg_tup rfl (pgs_cons (pg_name (i := 4) sc_squares.nd rfl (Or.inr rfl)) (pgs_cons (pg_name (i := 5) sc_squares.nd rfl (Or.inr rfl)) pgs_nil))) (pss_cons (ps_set (i := 6) sc_squares.nd rfl (Or.inl rfl) (pe_callB (call_sum rfl) rfl T.z_sum b_sum (pa_cons (pe_compC rfl (CompScope.gen (cl := [("_law_some", _), ("_law_rows_here", _), ("_law_k", _), ("_law_j", _)]) ["_law_j", "_law_k", "_law_rows_here", "_law_some"] [5, 4, 0, 2] [(".0", .local), ("_law_i", .local), ("_law_j", .cell), ("_law_k", .cell), ("_law_rows_here", .cell), ("_law_some", .cell)] rfl (by decide +kernel) (by decide +kernel) rfl rfl (by intro p hp; simp only [List.mem_cons, List.not_mem_nil, or_false] at hp; rcases hp with rfl | rfl | rfl | rfl <;> rfl) rfl (by intro p hp h; simp only [List.mem_cons, List.not_mem_nil, or_false] at hp; rcases hp with rfl | rfl | rfl | rfl | rfl | rfl <;> first | rfl | (rcases h with h | h <;> cases h)) (by decide) (by decide +kernel) rfl (by intro p hp; simp only [List.zip_cons_cons, List.zip_nil_left, List.mem_cons, List.not_mem_nil, or_false] at hp; rcases hp with rfl | rfl | rfl | rfl <;> exact ⟨rfl, rfl⟩)) (pi_range1 rfl T.z_range (pa_cons pe_int pa_nil)) (fun C s0 H0 fp pins => pe_op op_mulG (pe_op op_mulG (pe_ix (ixK_list (K := K) rfl) (pv 4) (pv 0) (fun _ _ => rfl)) (pe_ix (ixK_tup (K := K) rfl) (pe_ix (ixK_list (K := K) rfl) (pv 3) (pv 0) (fun _ _ => rfl)) (pv 2) (fun _ _ => rfl))) (pe_ix (ixK_tup (K := K) rfl) (pe_ix (ixK_list (K := K) rfl) (pv 3) (pv 0) (fun _ _ => rfl)) (pv 1) (fun _ _ => rfl)))) pa_nil)))
    (pss_one (ps_expr (pe_bm PySem.F.plainAttrs_list PySem.F.slot_list_append PySem.F.type_list_append mt_append (pv 3) (pa_cons (pe_op op_mulG (pv 6) (pe_op op_add pe_int (pe_callTy call_int1 rfl T.z_int b_int (pa_cons (pe_cmpR op_ne (pv 4) (pv 5) (nomark _)) pa_nil)))) pa_nil))))))
    (pss_one (ps_ret (pe_callTy call_tuple_of rfl T.z_tuple b_tuple (pa_cons (pv 3) pa_nil)))))), ?_⟩
  have c1b : 1 ≤ 1 + n % 7 ∧ 1 + n % 7 ≤ 7 := by omega
  have c2b : (1 + n / 7 % 9) * (1 - 2 * (n / 63 % 2)) ≠ 0 ∧ Bd 4 ((1 + n / 7 % 9) * (1 - 2 * (n / 63 % 2))) := by
    have a1 : 1 ≤ 1 + n / 7 % 9 ∧ 1 + n / 7 % 9 ≤ 9 := by omega
    have a2 : 1 - 2 * (n / 63 % 2) = 1 ∨ 1 - 2 * (n / 63 % 2) = -1 := by omega
    unfold Bd
    rcases a2 with e | e <;> rw [e] <;> omega
  refine ⟨_, rfl, _, _, rfl, rfl, (by show (0 : Int) < 7; decide), _, _, rfl, rfl, _, rfl, _, _, rfl, rfl, ⟨by decide, by decide⟩, _, _, rfl, rfl, (by show (0 : Int) < 9; decide), _, _, rfl, rfl, _, rfl, _, _, rfl, rfl, ⟨by decide, by decide⟩, _, _, rfl, rfl, (by show (0 : Int) < 2; decide), _, _, rfl, rfl, ok2, _, _, rfl, rfl, _, _, rfl, rfl, IntMulOk.of_left (intBits_le_64 (by omega) (by omega)), (by show 3 ≤ sizeLine; decide), fun so nso => ?_⟩
  generalize hg : upd H so _ = H1
  have bc1 : Bd 4 (1 + n % 7) := by unfold Bd; omega
  have bc2 := c2b.2
  have n1 : 1 + n % 7 ≠ 0 := by omega
  have n2 := c2b.1
  have gs : Same H H1 := by rw [← hg]; exact same_new nso _
  have hso : H1 so = some (.lst [.int 1, .int (1 + n % 7), .int ((1 + n / 7 % 9) * (1 - 2 * (n / 63 % 2)))]) := by rw [← hg]; exact upd_same
  clear hg
  generalize (1 + n / 7 % 9) * (1 - 2 * (n / 63 % 2)) = c2 at *
  generalize 1 + n % 7 = c1 at *
  refine ⟨(by show 0 ≤ sizeLine; decide), fun l nl => ?_⟩
  refine fun rs H2 g2 pr => ?_
  obtain ⟨m0, m1, m2, m3, m4, m5, rfl, w0, w1, w2, w3, w4, w5⟩ : ∃ m0 m1 m2 m3 m4 m5 : Addr, rs = [m0, m1, m2, m3, m4, m5] ∧ H2 m0 = some (.tup [.int 0, .int 0]) ∧ H2 m1 = some (.tup [.int 1, .int 1]) ∧ H2 m2 = some (.tup [.int 2, .int 2]) ∧ H2 m3 = some (.tup [.int 1, .int 2]) ∧ H2 m4 = some (.tup [.int 0, .int 2]) ∧ H2 m5 = some (.tup [.int 0, .int 1]) := by
    cases pr with
    | cons a0 pr => cases pr with
      | cons a1 pr => cases pr with
        | cons a2 pr => cases pr with
          | cons a3 pr => cases pr with
            | cons a4 pr => cases pr with
              | cons a5 pr => cases pr; exact ⟨_, _, _, _, _, _, rfl, a0, a1, a2, a3, a4, a5⟩
  refine ⟨(by show 6 ≤ sizeLine; decide), fun m6 k6 => ?_⟩
  generalize hg : upd H2 m6 _ = Hf
  have fl := same_new nl (.lst [])
  have f6 : Same H2 Hf := by rw [← hg]; exact same_new k6 _
  have wl := f6 _ _ (g2 l _ upd_same)
  have gf := fl.trans (g2.trans f6)
  have w6 : Hf m6 = some (HO.lst [.ref m0, .ref m1, .ref m2, .ref m3, .ref m4, .ref m5]) := by rw [← hg]; exact upd_same
  replace w0 := f6 _ _ w0
  replace w1 := f6 _ _ w1
  replace w2 := f6 _ _ w2
  replace w3 := f6 _ _ w3
  replace w4 := f6 _ _ w4
  replace w5 := f6 _ _ w5
  have ne : ∀ {b : Addr} {o : HO}, Hf b = some o → o ≠ .lst [] → b ≠ l := fun hb ho z => by
    subst z
    rw [wl] at hb
    exact ho (Option.some.inj hb).symm
  have hn : ∀ {b : Addr} {o : HO}, H1 b = some o → b ≠ l := fun hb z => by
    subst z
    rw [nl] at hb
    cases hb
  refine ⟨m6, rfl, ⟨_, SqL.of w6⟩, for_list (xs := [.ref m0, .ref m1, .ref m2, .ref m3, .ref m4, .ref m5]) (fun i σ H' => ∃ (kk jj bb : Option V), σ = [some (.ref p), some (.int n), some (.ref so), some (.ref l), kk, jj, bb] ∧ Sx l Hf H' ∧ H' l = some (.lst ((List.range i).map fun m => V.int (cf t' c1 c2 m)))) ⟨none, none, none, rfl, fun b o _ h => h, wl⟩ ?_ ?_ ?_⟩
  · rintro i σ H' hi ⟨_, _, _, _, sx, _⟩
    exact SqL.of (sx _ _ (ne w6 (by simp)) w6)
  · rintro i x σ H' hx ⟨kk, jj, bb, rfl, sx, el⟩
    have pk : ∃ m : Addr, x = .ref m ∧ H' m = some (.tup [.int (kj i).1, .int (kj i).2]) ∧ (kj i).1 < 3 ∧ (kj i).2 < 3 := by
      match i, hx with
      | 0, hx => exact ⟨m0, (Option.some.inj hx).symm, sx _ _ (ne w0 (by simp)) w0, by decide, by decide⟩
      | 1, hx => exact ⟨m1, (Option.some.inj hx).symm, sx _ _ (ne w1 (by simp)) w1, by decide, by decide⟩
      | 2, hx => exact ⟨m2, (Option.some.inj hx).symm, sx _ _ (ne w2 (by simp)) w2, by decide, by decide⟩
      | 3, hx => exact ⟨m3, (Option.some.inj hx).symm, sx _ _ (ne w3 (by simp)) w3, by decide, by decide⟩
      | 4, hx => exact ⟨m4, (Option.some.inj hx).symm, sx _ _ (ne w4 (by simp)) w4, by decide, by decide⟩
      | 5, hx => exact ⟨m5, (Option.some.inj hx).symm, sx _ _ (ne w5 (by simp)) w5, by decide, by decide⟩
      | i + 6, hx => simp at hx
    obtain ⟨m, rfl, hm, k3', j3⟩ := pk
    have q0 : S3 H' r0 t'.r0 := sx _ _ (hn (gs _ _ h0)) (gf _ _ (gs _ _ h0))
    have q1 : S3 H' r1 t'.r1 := sx _ _ (hn (gs _ _ h1)) (gf _ _ (gs _ _ h1))
    have q2 : S3 H' r2 t'.r2 := sx _ _ (hn (gs _ _ h2)) (gf _ _ (gs _ _ h2))
    have qp := sx _ _ (hn (gs _ _ hp)) (gf _ _ (gs _ _ hp))
    have qs := sx _ _ (hn hso) (gf _ _ hso)
    refine ⟨m, _, rfl, SqT.of hm, rfl, _, _, rfl, _, _, rfl, rfl, ?_⟩
    refine ⟨3, rfl, by decide, by decide, comp_rangeF 3 (by decide) (fun m => .int (cfP t' c1 c2 i m)) ?_ ?_⟩
    · intro a H2 Q2 ha g2 k
      have at3' : ∀ {P : P3} {k : Nat}, k < 3 → atI (v3 P) (k : Int) = some (.int (cmp P k)) := fun {P k} hk => by
        have := at3 (P := P) hk
        rwa [Int.zero_add] at this
      obtain rfl | rfl | rfl : a = 0 ∨ a = 1 ∨ a = 2 := by omega
      · exact ⟨_, rfl, _, rfl, so, _, _, _, rfl, rfl, SqL.of (g2 _ _ qs), rfl, _, rfl, _, rfl, p, _, _, _, rfl, rfl, SqL.of (g2 _ _ qp), rfl, _, rfl, r0, _, _, _, rfl, rfl, SqT.of (g2 _ _ q0), at3' k3', _, _, rfl, rfl, IntMulOk.of_left (intBits_le_64 (by decide) (by decide)), _, rfl, _, rfl, p, _, _, _, rfl, rfl, SqL.of (g2 _ _ qp), rfl, _, rfl, r0, _, _, _, rfl, rfl, SqT.of (g2 _ _ q0), at3' j3, _, _, rfl, rfl, okM ((bd1 (k := 4)).mul (bd_cmp bt.r0 _)) (bd_cmp bt.r0 _), k _ (Same.refl _)⟩
      · exact ⟨_, rfl, _, rfl, so, _, _, _, rfl, rfl, SqL.of (g2 _ _ qs), rfl, _, rfl, _, rfl, p, _, _, _, rfl, rfl, SqL.of (g2 _ _ qp), rfl, _, rfl, r1, _, _, _, rfl, rfl, SqT.of (g2 _ _ q1), at3' k3', _, _, rfl, rfl, okM bc1 (bd_cmp bt.r1 _), _, rfl, _, rfl, p, _, _, _, rfl, rfl, SqL.of (g2 _ _ qp), rfl, _, rfl, r1, _, _, _, rfl, rfl, SqT.of (g2 _ _ q1), at3' j3, _, _, rfl, rfl, okM (bc1.mul (bd_cmp bt.r1 _)) (bd_cmp bt.r1 _), k _ (Same.refl _)⟩
      · exact ⟨_, rfl, _, rfl, so, _, _, _, rfl, rfl, SqL.of (g2 _ _ qs), rfl, _, rfl, _, rfl, p, _, _, _, rfl, rfl, SqL.of (g2 _ _ qp), rfl, _, rfl, r2, _, _, _, rfl, rfl, SqT.of (g2 _ _ q2), at3' k3', _, _, rfl, rfl, okM bc2 (bd_cmp bt.r2 _), _, rfl, _, rfl, p, _, _, _, rfl, rfl, SqL.of (g2 _ _ qp), rfl, _, rfl, r2, _, _, _, rfl, rfl, SqT.of (g2 _ _ q2), at3' j3, _, _, rfl, rfl, okM (bc2.mul (bd_cmp bt.r2 _)) (bd_cmp bt.r2 _), k _ (Same.refl _)⟩
    intro ls H2 g2 _ hls
    refine ⟨ls, [cfP t' c1 c2 i 0, cfP t' c1 c2 i 1, cfP t' c1 c2 i 2], rfl, hls, ?_⟩
    refine ⟨_, rfl, .inl ⟨rfl, _, SqL.of (g2 _ _ el)⟩, _, rfl, _, rfl, _, rfl, rfl, .inr ⟨_, rfl, ?_⟩⟩
    refine ⟨_, _, rfl, rfl, _, _, rfl, rfl, IntMulOk.of_right (intBits_le_64 (by split <;> decide) (by split <;> decide)), l, _, _, rfl, rfl, g2 _ _ el, (by rw [List.length_map, List.length_range]; have := (List.getElem?_eq_some_iff.mp hx).1; simp at this; exact Nat.lt_of_lt_of_le this (by decide)), _, _, _, rfl, fun b o hb h => by rw [upd_ne hb]; exact g2 _ _ (sx b o hb h), ?_⟩
    rw [List.range_succ, List.map_append]
    exact upd_same
  · rintro σ H' ⟨_, _, _, rfl, sx, el⟩
    obtain ⟨e0, e1, e2, e3, e4, e5⟩ := cf_all t' c1 c2
    refine ⟨_, rfl, l, _, rfl, .inl ⟨SqL.of el, fun z nz => q z _ c1 c2 ?_ ?_ (bf_sqf bt bc1 bc2) n1 n2⟩⟩
    · intro b o hb
      have hb1 := gs _ _ hb
      exact same_new nz _ _ _ (sx _ _ (hn hb1) (gf _ _ hb1))
    · unfold S6
      rw [← e0, ← e1, ← e2, ← e3, ← e4, ← e5]
      exact upd_same
theorem ok_right {f : Addr} {fd : FuncData} (F : Fun K "_law_right" "_law_right" s_right f fd) (T : Txt K mg t) (H_many : Has P w K mg base CX0 3 "_law_many" ["_law_form_here", "_law_line"] (spMany)) (H_is_spot : Has P w K mg base CX0 3 "_law_is_spot" ["_law_found"] (spIsSpot)) (H_dot : Has P w K mg base CX0 1 "_law_dot" ["_law_one", "_law_other"] (spRp)) (H_worth : Has P w K mg base CX0 1 "_law_worth" ["_law_form_here", "_law_spot_here"] (spLw)) : FnOk P w K mg base CX0 4 f fd ["_law_found", "_law_form_here", "_law_line"] (spRight) := by
  obtain ⟨f_many, d_many, G_many, b_many, k_many, m_many⟩ := H_many
  obtain ⟨f_is_spot, d_is_spot, G_is_spot, b_is_spot, k_is_spot, m_is_spot⟩ := H_is_spot
  obtain ⟨f_dot, d_dot, G_dot, b_dot, k_dot, m_dot⟩ := H_dot
  obtain ⟨f_worth, d_worth, G_worth, b_worth, k_worth, m_worth⟩ := H_worth
  refine F.ok sc_right (fun vs H Q E h => ?_) (fun cdv A outer s H vs Q E hr h => ?_)
  · obtain ⟨_, _, _, _, _, _, _, rfl, _⟩ := h
    rfl
  obtain ⟨f', q', lr, F, l, ws, Ps, rfl, hF, hl, bf, bl', nl, M, hf, tu, bP, q⟩ := h
  have hr_many := hr.mono (show 3 ≤ 3 by decide)
  have hr_is_spot := hr.mono (show 3 ≤ 3 by decide)
  have hr_dot := hr.mono (show 1 ≤ 3 by decide)
  have hr_worth := hr.mono (show 1 ≤ 3 by decide)
  have hu64 := hu64_of hr
  refine ⟨_, pss_cons (ps_if (PW.pt (pw_or (pt_not (pt_val (pe_callB call_isi rfl T.z_isinstance b_isi (pa_cons (pv 0) (pa_cons (pe_bltn (v := .ty "list") rfl T.z_list b_list rfl) pa_nil))) (fun _ => rfl))) (pw_or1 (pt_cmpR op_ne (pe_callB call_len_seq rfl T.z_len PySem.boot_len (pa_cons (pv 0) pa_nil)) (pe_call G_many hr_many rfl m_many k_many b_many .nil pass0 (pa_cons (pv 1) (pa_cons (pv 2) pa_nil))) (nomark _))))) (pss_one (ps_ret pe_bl)) pss_nil)
    (pss_cons (ps_for PassesOwn.never rfl (pi_list (pv 0)) (pg_name (i := 3) sc_right.nd rfl (Or.inl rfl)) (pss_one (ps_if (PW.pt (pw_or (pt_not (pt_val (pe_call G_is_spot hr_is_spot rfl m_is_spot k_is_spot b_is_spot .nil pass0 (pa_cons (pv 3) pa_nil)) (fun _ => rfl))) (pw_or (pt_cmpR op_ne (pe_call G_dot hr_dot rfl m_dot k_dot b_dot .nil pass0 (pa_cons (pv 2) (pa_cons (pv 3) pa_nil))) pe_int (nomark _)) (pw_or1 (pt_cmpR op_ne (pe_call G_worth hr_worth rfl m_worth k_worth b_worth .nil pass0 (pa_cons (pv 1) (pa_cons (pv 3) pa_nil))) pe_int (nomark _)))))) (pss_one (ps_ret pe_bl)) pss_nil)))
    (pss_one (ps_ret (pe_or (pe_cmpR op_lt (pe_callB call_len_seq rfl T.z_len PySem.boot_len (pa_cons (pv 0) pa_nil)) pe_int (nomark _)) (pe_one (pe_cmpR (op_ltT (Nat.lt_of_le_of_lt (Nat.le_add_right _ 64) hu64)) (pe_ix ix_list (pv 0) pe_int (fun _ _ => rfl)) (pe_ix ix_list (pv 0) pe_int (fun _ _ => rfl)) (nomark _))))))), ?_⟩
  refine ⟨_, rfl, _, _, _, _, rfl, .inr ⟨_, rfl⟩, .of (.lst hf), rfl, _, rfl, iteF ?_⟩
  refine ⟨_, rfl, f', _, rfl, .inl (SqL.of hf), _, rfl, _, rfl, q', lr, F, l, Ps, rfl, hF, hl, bf, bl', nl, M, fun H1 g1 => ⟨rfl, _, rfl, iteNS (congrArg V.int (by rw [tu.len])) ?_⟩⟩
  have tl := tu.len
  refine ⟨_, rfl, f', rfl, ⟨_, SqL.of (g1 _ _ hf)⟩, for_list (xs := ws) (fun i σ H' => ∃ o : Option V, σ = [some (.ref f'), some (.ref q'), some (.ref lr), o] ∧ Same H H') ⟨none, rfl, g1⟩ ?_ ?_ ?_⟩
  · rintro i σ H' hi ⟨_, rfl, g⟩
    exact SqL.of (g _ _ hf)
  · rintro i x σ H' hx ⟨o, rfl, g⟩
    obtain ⟨r, P', rfl, eP, hP⟩ := tu.get hx
    have mP := List.mem_of_getElem? eP
    obtain ⟨L, on, w0⟩ := (M.on P').mpr mP
    refine ⟨_, rfl, r, P', rfl, g _ _ hP, L, bP P' mP, fun H2 g2 => ?_⟩
    have g02 := g.trans g2
    refine ⟨_, rfl, iteF ⟨_, rfl, _, rfl, lr, r, l, P', rfl, g02 _ _ hl, g02 _ _ hP, bl'.mono', (bP P' mP).mono', rfl, _, rfl, iteNS (congrArg V.int on) ?_⟩⟩
    refine ⟨_, rfl, _, rfl, q', r, F, P', rfl, g02 _ _ hF, g02 _ _ hP, bf.mono, bP P' mP, rfl, _, rfl, iteNS (congrArg V.int ((lw_eq F P').trans w0)) ?_⟩
    exact ⟨some (.ref r), rfl, g02⟩
  · rintro σ H' ⟨o, rfl, g⟩
    refine ⟨_, rfl, f', _, rfl, .inl (SqL.of (g _ _ hf)), _, _, rfl, rfl, ?_⟩
    cases M with
    | none _ _ => cases tu; exact ⟨_, rfl, iteT (q _ g)⟩
    | one _ _ => cases tu with
      | cons a b => cases b; exact ⟨_, rfl, iteT (q _ g)⟩
    | two _ _ lt _ => cases tu with
      | cons a b => cases b with
        | cons c d =>
          cases d
          refine ⟨_, rfl, iteF ⟨_, rfl, f', _, _, _, rfl, rfl, SqL.of (g _ _ hf), rfl, _, rfl, f', _, _, _, rfl, rfl, SqL.of (g _ _ hf), rfl, _, _, [_, _, _], [_, _, _], rfl, rfl, SqT.of (g _ _ a), SqT.of (g _ _ c), ?_⟩⟩
          rw [(lex3 _ _).mpr lt]
          exact q _ g
theorem ok_law {f : Addr} {fd : FuncData} (F : Fun K "law" "law" s_law f fd) (T : Txt K mg t) (H_cell_at : Has P w K mg base CX0 1 "_law_cell_at" ["_law_script", "_law_k"] (spCell K)) (H_rows : Has P w K mg base CX0 2 "_law_rows" ["_law_script", "_law_start", "_law_way", "_law_great"] (spRows K)) (H_form : Has P w K mg base CX0 1 "_law_form" ["_law_rows_here", "_law_times_here"] (spForm)) (H_times : Has P w K mg base CX0 1 "_law_times" ["_law_cell"] (spTimes)) (H_pair : Has P w K mg base CX0 1 "_law_pair" ["_law_one", "_law_other", "_law_way"] (spPair)) (H_spot : Has P w K mg base CX0 3 "_law_spot" ["_law_rows_here", "_law_s", "_law_t"] (spSpot)) (H_beside : Has P w K mg base CX0 1 "_law_beside" ["_law_one", "_law_other"] (spCr)) (H_slope : Has P w K mg base CX0 1 "_law_slope" ["_law_form_here", "_law_spot_here"] (spSlope)) (H_squares : Has P w K mg base CX0 1 "_law_squares" ["_law_rows_here", "_law_number"] (spSqs)) (H_line_met : Has P w K mg base CX0 5 "line_met" ["Q", "line"] (spMet)) (H_right : Has P w K mg base CX0 4 "_law_right" ["_law_found", "_law_form_here", "_law_line"] (spRight)) : FnOk P w K mg base CX0 6 f fd ["_law_script"] (spLaw K) := by
  obtain ⟨f_cell_at, d_cell_at, G_cell_at, b_cell_at, k_cell_at, m_cell_at⟩ := H_cell_at
  obtain ⟨f_rows, d_rows, G_rows, b_rows, k_rows, m_rows⟩ := H_rows
  obtain ⟨f_form, d_form, G_form, b_form, k_form, m_form⟩ := H_form
  obtain ⟨f_times, d_times, G_times, b_times, k_times, m_times⟩ := H_times
  obtain ⟨f_pair, d_pair, G_pair, b_pair, k_pair, m_pair⟩ := H_pair
  obtain ⟨f_spot, d_spot, G_spot, b_spot, k_spot, m_spot⟩ := H_spot
  obtain ⟨f_beside, d_beside, G_beside, b_beside, k_beside, m_beside⟩ := H_beside
  obtain ⟨f_slope, d_slope, G_slope, b_slope, k_slope, m_slope⟩ := H_slope
  obtain ⟨f_squares, d_squares, G_squares, b_squares, k_squares, m_squares⟩ := H_squares
  obtain ⟨f_line_met, d_line_met, G_line_met, b_line_met, k_line_met, m_line_met⟩ := H_line_met
  obtain ⟨f_right, d_right, G_right, b_right, k_right, m_right⟩ := H_right
  refine F.ok sc_law (fun vs H Q E h => ?_) (fun cdv A outer s H vs Q E hr h => ?_)
  · obtain ⟨a, ns, rfl, _⟩ := h
    rfl
  obtain ⟨a, ns, rfl, hS, h63, hb, q⟩ := h
  have hr_cell_at := hr.mono (show 1 ≤ 5 by decide)
  have hr_rows := hr.mono (show 2 ≤ 5 by decide)
  have hr_form := hr.mono (show 1 ≤ 5 by decide)
  have hr_times := hr.mono (show 1 ≤ 5 by decide)
  have hr_pair := hr.mono (show 1 ≤ 5 by decide)
  have hr_spot := hr.mono (show 3 ≤ 5 by decide)
  have hr_beside := hr.mono (show 1 ≤ 5 by decide)
  have hr_slope := hr.mono (show 1 ≤ 5 by decide)
  have hr_squares := hr.mono (show 1 ≤ 5 by decide)
  have hr_line_met := hr.mono (show 5 ≤ 5 by decide)
  have hr_right := hr.mono (show 4 ≤ 5 by decide)
  have hu64 := hu64_of hr
  refine ⟨_, pss_cons (ps_set (i := 1) sc_law.nd rfl (Or.inl rfl) (pe_call G_cell_at hr_cell_at rfl m_cell_at k_cell_at b_cell_at .nil pass0 (pa_cons (pv 0) (pa_cons pe_int pa_nil))))
    (pss_cons (ps_set (i := 2) sc_law.nd rfl (Or.inl rfl) (pe_call G_rows hr_rows rfl m_rows k_rows b_rows .nil pass0 (pa_cons (pv 0) (pa_cons pe_int (pa_cons (pv 1) (pa_cons (pe_op op_pow pe_int pe_int) pa_nil))))))
    (pss_cons (ps_set (i := 3) sc_law.nd rfl (Or.inl rfl) (pe_call G_form hr_form rfl m_form k_form b_form .nil pass0 (pa_cons (pv 2) (pa_cons (pe_call G_times hr_times rfl m_times k_times b_times .nil pass0 (pa_cons (pe_op op_fdiv (pv 1) pe_int) pa_nil)) pa_nil))))
    (pss_cons (ps_asg (pe_call G_pair hr_pair rfl m_pair k_pair b_pair .nil pass0 (pa_cons (pe_call G_cell_at hr_cell_at rfl m_cell_at k_cell_at b_cell_at .nil pass0 (pa_cons (pv 0) (pa_cons pe_int pa_nil))) (pa_cons (pe_call G_cell_at hr_cell_at rfl m_cell_at k_cell_at b_cell_at .nil pass0 (pa_cons (pv 0) (pa_cons pe_int pa_nil))) (pa_cons (pe_op op_fdiv (pv 1) pe_int) pa_nil)))) (pg_tup rfl (pgs_cons (pg_name (i := 12) sc_law.nd rfl (Or.inl rfl)) (pgs_cons (pg_name (i := 13) sc_law.nd rfl (Or.inl rfl)) pgs_nil))))
    (pss_cons (ps_asg (pe_call G_pair hr_pair rfl m_pair k_pair b_pair .nil pass0 (pa_cons (pe_call G_cell_at hr_cell_at rfl m_cell_at k_cell_at b_cell_at .nil pass0 (pa_cons (pv 0) (pa_cons pe_int pa_nil))) (pa_cons (pe_call G_cell_at hr_cell_at rfl m_cell_at k_cell_at b_cell_at .nil pass0 (pa_cons (pv 0) (pa_cons pe_int pa_nil))) (pa_cons (pe_op op_fdiv (pv 1) pe_int) pa_nil)))) (pg_tup rfl (pgs_cons (pg_name (i := 14) sc_law.nd rfl (Or.inl rfl)) (pgs_cons (pg_name (i := 15) sc_law.nd rfl (Or.inl rfl)) pgs_nil))))
    (pss_cons (ps_set (i := 4) sc_law.nd rfl (Or.inl rfl) (pe_call G_spot hr_spot rfl m_spot k_spot b_spot .nil pass0 (pa_cons (pv 2) (pa_cons (pv 12) (pa_cons (pv 13) pa_nil)))))
    (pss_cons (ps_set (i := 5) sc_law.nd rfl (Or.inl rfl) (pe_call G_spot hr_spot rfl m_spot k_spot b_spot .nil pass0 (pa_cons (pv 2) (pa_cons (pv 14) (pa_cons (pv 15) pa_nil)))))
    (pss_cons (ps_set (i := 6) sc_law.nd rfl (Or.inl rfl) (pe_call G_cell_at hr_cell_at rfl m_cell_at k_cell_at b_cell_at .nil pass0 (pa_cons (pv 0) (pa_cons pe_int pa_nil))))
    (pss_cons (ps_set (i := 7) sc_law.nd rfl (Or.inl rfl) (pe_callB call_sortedTL rfl T.z_sorted b_sorted (pa_cons (pe_lst (pa_cons (pv 4) (pa_cons (pv 5) pa_nil))) pa_nil)))
    (pss_cut (ps_set (i := 8) sc_law.nd rfl (Or.inl rfl) (pe_call G_beside hr_beside rfl m_beside k_beside b_beside .nil pass0 (pa_cons (pv 4) (pa_cons (pv 5) pa_nil))))
    (pss_cut (ps_if (PW.pt (pw_or (pt_cmpR (op_eqD hu64) (pv 4) (pv 5) (nomark _)) (pw_or1 (pt_cmpR op_eq (pe_op op_mod (pv 6) pe_int) pe_int (nomark _))))) (pss_cons (ps_set (i := 7) sc_law.nd rfl (Or.inl rfl) (pe_lst (pa_cons (pv 4) pa_nil)))
    (pss_one (ps_set (i := 8) sc_law.nd rfl (Or.inl rfl) (pe_call G_slope hr_slope rfl m_slope k_slope b_slope .nil pass0 (pa_cons (pv 3) (pa_cons (pv 4) pa_nil)))))) pss_nil)
    (pss_cut (ps_if (pt_cmpR op_gt (pe_op op_mod (pv 6) pe_int) pe_int (nomark _)) (pss_cons (ps_set (i := 7) sc_law.nd rfl (Or.inl rfl) pe_non)
    (pss_cons (ps_set (i := 16) sc_law.nd rfl (Or.inr rfl) (pe_ix ix_list (pe_lst (pa_cons pe_int (pa_cons pe_int (pa_cons (pe_op op_pow pe_int pe_int) pa_nil)))) (pe_op op_mod (pe_op op_fdiv (pv 6) pe_int) pe_int) (fun _ _ => rfl)))
    (pss_cons (ps_setC0 (k := 17) sc_law.nd rfl (Or.inl rfl) rfl rfl (CompScope.gen (cl := [("_law_script", _)]) ["_law_script"] [0] [(".0", .local), ("_law_k", .local), ("_law_cell_at", .globalImplicit), ("_law_script", .cell)] rfl (by decide +kernel) (by decide +kernel) rfl rfl (by intro p hp; simp only [List.mem_cons, List.not_mem_nil, or_false] at hp; rcases hp with rfl <;> rfl) rfl (by intro p hp h; simp only [List.mem_cons, List.not_mem_nil, or_false] at hp; rcases hp with rfl | rfl | rfl | rfl <;> first | rfl | (rcases h with h | h <;> cases h)) (by decide) (by decide +kernel) rfl (by intro p hp; simp only [List.zip_cons_cons, List.zip_nil_left, List.mem_cons, List.not_mem_nil, or_false] at hp; rcases hp with rfl <;> exact ⟨rfl, rfl⟩)) (pi_range1 rfl T.z_range (pa_cons pe_int pa_nil)) (fun C s0 H0 fp pins => pe_op op_mulG (pe_call G_cell_at hr_cell_at rfl m_cell_at k_cell_at b_cell_at .nil pass0 (pa_cons (pv 1) (pa_cons (pe_op op_add pe_int (pv 0)) pa_nil))) (pe_op op_pow pe_int pe_int)) (Or.inl rfl))
    (pss_one (ps_set (i := 8) sc_law.nd rfl (Or.inl rfl) (pe_callTy call_tuple_of rfl T.z_tuple b_tuple (pa_cons (pe_compC rfl (CompScope.gen (cl := [("_law_most", _)]) ["_law_most"] [16] [(".0", .local), ("_law_number", .local), ("_law_most", .cell)] rfl (by decide +kernel) (by decide +kernel) rfl rfl (by intro p hp; simp only [List.mem_cons, List.not_mem_nil, or_false] at hp; rcases hp with rfl <;> rfl) rfl (by intro p hp h; simp only [List.mem_cons, List.not_mem_nil, or_false] at hp; rcases hp with rfl | rfl | rfl <;> first | rfl | (rcases h with h | h <;> cases h)) (by decide) (by decide +kernel) rfl (by intro p hp; simp only [List.zip_cons_cons, List.zip_nil_left, List.mem_cons, List.not_mem_nil, or_false] at hp; rcases hp with rfl <;> exact ⟨rfl, rfl⟩)) (pi_list (pv 17)) (fun C s0 H0 fp pins => pe_op op_sub (pe_op op_mod (pv 0) (pe_op op_add (pe_op op_mulG pe_int (pv 1)) pe_int)) (pv 1))) pa_nil))))))) pss_nil)
    (pss_cut (ps_if (pt_cmpR op_eq (pe_op op_mod (pv 6) pe_int) pe_int (nomark _)) (pss_one (ps_set (i := 3) sc_law.nd rfl (Or.inl rfl) (pe_call G_squares hr_squares rfl m_squares k_squares b_squares .nil pass0 (pa_cons (pv 2) (pa_cons (pe_op op_fdiv (pv 6) pe_int) pa_nil))))) pss_nil)
    (pss_cut (ps_if (pt_cmpR (op_eqD hu64) (pv 8) (pe_tup (pa_cons pe_int (pa_cons pe_int (pa_cons pe_int pa_nil)))) (nomark _)) (pss_one (ps_set (i := 8) sc_law.nd rfl (Or.inl rfl) (pe_tup (pa_cons pe_int (pa_cons pe_int (pa_cons pe_int pa_nil)))))) pss_nil)
    (pss_cons (ps_set (i := 9) sc_law.nd rfl (Or.inl rfl) (pe_call G_line_met hr_line_met rfl m_line_met k_line_met b_line_met .nil pass0 (pa_cons (pv 3) (pa_cons (pv 8) pa_nil))))
    (pss_cut (ps_if (PW.pt (pw_or (pt_not (pt_val (pe_call G_right hr_right rfl m_right k_right b_right .nil pass0 (pa_cons (pv 9) (pa_cons (pv 3) (pa_cons (pv 8) pa_nil)))) (fun _ => rfl))) (pw_or1 (PW.pt (pw_and (pt_cmpR op_notN (pv 7) pe_non (nomark _)) (pw_and1 (pt_cmpR (op_neD hu64) (pv 9) (pv 7) (nomark _)))))))) (pss_one (ps_ret pe_bl)) pss_nil)
    (pss_cons (ps_set (i := 10) sc_law.nd rfl (Or.inr rfl) (pe_call G_times hr_times rfl m_times k_times b_times .nil pass0 (pa_cons (pe_op op_fdiv (pv 6) pe_int) pa_nil)))
    (pss_cons (ps_set (i := 11) sc_law.nd rfl (Or.inl rfl) (pe_callTy call_list_of rfl T.z_list b_list (pa_cons (pv 9) pa_nil)))
    (pss_cons (ps_expr (pe_bm PySem.F.plainAttrs_list PySem.F.slot_list_append PySem.F.type_list_append mt_append (pv 9) (pa_cons (pe_tup (pa_cons pe_int (pa_cons pe_int (pa_cons pe_int pa_nil)))) pa_nil)))
    (pss_one (ps_ret (pe_and (pe_cmpR (op_eqD hu64) (pe_call G_line_met hr_line_met rfl m_line_met k_line_met b_line_met .nil pass0 (pa_cons (pv 3) (pa_cons (pe_callTy call_tuple_of rfl T.z_tuple b_tuple (pa_cons (pe_compC rfl (CompScope.gen (cl := [("_law_over", _)]) ["_law_over"] [10] [(".0", .local), ("_law_number", .local), ("_law_over", .cell)] rfl (by decide +kernel) (by decide +kernel) rfl rfl (by intro p hp; simp only [List.mem_cons, List.not_mem_nil, or_false] at hp; rcases hp with rfl <;> rfl) rfl (by intro p hp h; simp only [List.mem_cons, List.not_mem_nil, or_false] at hp; rcases hp with rfl | rfl | rfl <;> first | rfl | (rcases h with h | h <;> cases h)) (by decide) (by decide +kernel) rfl (by intro p hp; simp only [List.zip_cons_cons, List.zip_nil_left, List.mem_cons, List.not_mem_nil, or_false] at hp; rcases hp with rfl <;> exact ⟨rfl, rfl⟩)) (pi_tup (pv 8)) (fun C s0 H0 fp pins => pe_op op_mulG (pv 0) (pv 1))) pa_nil)) pa_nil))) (pv 11) (nomark _)) (pe_one (pe_cmpR (op_eqD hu64) (pe_call G_line_met hr_line_met rfl m_line_met k_line_met b_line_met .nil pass0 (pa_cons (pv 3) (pa_cons (pv 8) pa_nil))) (pv 11) (nomark _)))))))))))))))))))))))), ?_⟩
  refine ⟨_, rfl, a, ns, _, rfl, hS, by decide, ?_⟩
  generalize ns.getD (Int.toNat 0) 0 = w
  refine ⟨_, rfl, _, rfl, _, _, rfl, rfl, ⟨by decide, by decide, by decide⟩, a, ns, w, _, rfl, hS, by decide, by decide, fun pr H1 t1 g1 hL bt mt => ?_⟩
  refine ⟨_, rfl, _, rfl, _, _, rfl, rfl, ⟨by decide, by decide⟩, _, rfl, fun H2 g2 => ⟨pr, t1, _, rfl, hL.mono g2, bt, (tv_at _).2.2, fun pf H3 g3 hF => ?_⟩⟩
  have c0 := (tv_at (w / 16)).2.1
  have bF := bf_fm bt (tv_at (w / 16)).2.2
  have nsz : sz (fm t1 (tv (w / 16))) ≠ 0 := by
    rw [sz_fm]
    exact Int.mul_ne_zero (Int.mul_ne_zero (Int.mul_ne_zero c0 c0) c0) (Int.mul_ne_zero mt mt)
  have g13 := g1.trans (g2.trans g3)
  refine ⟨_, rfl, a, ns, _, rfl, g13.seq hS, by decide, _, rfl, a, ns, _, rfl, g13.seq hS, by decide, _, rfl, _, _, rfl, rfl, ⟨by decide, by decide⟩, _, _, _, rfl, fun pp H4 s' u g4 h4 bs bu => ⟨pp, _, rfl, SqT.of h4, rfl, _, _, rfl, _, _, rfl, rfl, ?_⟩⟩
  have g14 := g13.trans g4
  refine ⟨_, rfl, a, ns, _, rfl, g14.seq hS, by decide, _, rfl, a, ns, _, rfl, g14.seq hS, by decide, _, rfl, _, _, rfl, rfl, ⟨by decide, by decide⟩, _, _, _, rfl, fun pp2 H5 s2 u2 g5 h5 bs2 bu2 => ⟨pp2, _, rfl, SqT.of h5, rfl, _, _, rfl, _, _, rfl, rfl, ?_⟩⟩
  have g15 := g14.trans g5
  have hL5 := hL.mono (g2.trans (g3.trans (g4.trans g5)))
  refine ⟨_, rfl, _, rfl, _, rfl, pr, t1, s', u, rfl, hL5, bt, mt, bs.mono (by decide), bu.mono (by decide), fun px H6 X g6 hX lX bX onX => ?_⟩
  refine ⟨_, rfl, _, rfl, _, rfl, pr, t1, s2, u2, rfl, hL5.mono g6, bt, mt, bs2.mono (by decide), bu2.mono (by decide), fun py H7 Y g7 hY lY bY onY => ?_⟩
  have g17 := g15.trans (g6.trans g7)
  refine ⟨_, rfl, a, ns, _, rfl, g17.seq hS, by decide, ?_⟩
  generalize ns.getD (Int.toNat 14) 0 = kd
  have hF7 := (g4.trans (g5.trans (g6.trans g7))) _ _ hF
  have hX7 := g7 _ _ hX
  have hL7 := hL5.mono (g6.trans g7)
  have wX := onX (tv (w / 16))
  have wY := onY (tv (w / 16))
  generalize fm t1 (tv (w / 16)) = F at *
  refine ⟨_, rfl, _, rfl, (by show 2 ≤ sizeLine; decide), fun lo nlo => ?_⟩
  have f1 := same_new nlo (.lst [.ref px, .ref py])
  refine ⟨lo, px, py, X.x, Y.x, [X.y, X.z], [Y.y, Y.z], rfl, SqL.of upd_same, SqT.of (f1 _ _ hX7), SqT.of (f1 _ _ hY), rfl, fun du ndu => ?_⟩
  generalize hg : upd _ du _ = H8
  have f2 : Same (upd H7 lo (.lst [.ref px, .ref py])) H8 := by rw [← hg]; exact same_new ndu _
  have hdu : H8 du = some (.lst (if HT.lexLt [Y.x, Y.y, Y.z] [X.x, X.y, X.z] = true then [.ref py, .ref px] else [.ref px, .ref py])) := by rw [← hg]; exact upd_same
  clear hg
  have g78 := f1.trans f2
  have hX8 := g78 _ _ hX7
  have hY8 := g78 _ _ hY
  refine ⟨fun σ' H' => ∃ pl : Addr, σ' = [some (.ref a), some (.int w), some (.ref pr), some (.ref pf), some (.ref px), some (.ref py), some (.int kd), some (.ref du), some (.ref pl), none, none, none, some (.int s'), some (.int u), some (.int s2), some (.int u2), none, none] ∧ Same H8 H' ∧ S3 H' pl (cr X Y), ?_, ?_⟩
  · exact ⟨_, rfl, _, rfl, px, py, X, Y, rfl, hX8, hY8, bX.mono', bY.mono', fun pl H9 g9 hl9 => ⟨pl, rfl, g9, hl9⟩⟩
  rintro _ H9 ⟨pl, rfl, g9, hl9⟩
  have g79 := g78.trans g9
  have hF9 := g79 _ _ hF7
  have hX9 := g9 _ _ hX8
  have hY9 := g9 _ _ hY8
  have hL9 := hL7.mono g79
  have hdu9 := g9 _ _ hdu
  refine ⟨fun σ' H' => ∃ (dv : V) (pl : Addr) (l : P3), σ' = [some (.ref a), some (.int w), some (.ref pr), some (.ref pf), some (.ref px), some (.ref py), some (.int kd), some dv, some (.ref pl), none, none, none, some (.int s'), some (.int u), some (.int s2), some (.int u2), none, none] ∧ Same H9 H' ∧ S3 H' pl l ∧ N3 l ∧ BP 150 l ∧ Due H' dv F l, ?_, ?_⟩
  · have last : ∀ (du1 : Addr), H9 du1 = none → ∀ (z : Addr) (H' : Hp), Same (upd H9 du1 (.lst [.ref px])) H' → S3 H' z (tb (sl F) X) → ∃ (dv : V) (pl : Addr) (l : P3), [some (V.ref a), some (.int w), some (.ref pr), some (.ref pf), some (.ref px), some (.ref py), some (.int kd), some (.ref du1), some (.ref z), none, none, none, some (.int s'), some (.int u), some (.int s2), some (.int u2), none, none] = [some (V.ref a), some (.int w), some (.ref pr), some (.ref pf), some (.ref px), some (.ref py), some (.int kd), some dv, some (.ref pl), none, none, none, some (.int s'), some (.int u), some (.int s2), some (.int u2), none, none] ∧ Same H9 H' ∧ S3 H' pl l ∧ N3 l ∧ BP 150 l ∧ Due H' dv F l := fun du1 nd z H' g hz =>
      have gd := same_new nd (.lst [.ref px])
      ⟨.ref du1, z, tb (sl F) X, rfl, gd.trans g, hz, tan_nz nsz lX, (bd_tb (bd_sl bF) bX).mono', .inr ⟨du1, [.ref px], [X], rfl, g _ _ upd_same, .cons ((gd.trans g) _ _ hX9) .nil, tan_nz nsz lX, fun Ps M => M.only (tan_on lX wX) fun Z hZ => tan_only nsz lX wX hZ⟩⟩
    refine ⟨_, rfl, _, rfl, _, _, DA3 hX9, DA3 hY9, rfl, rfl, _, rfl, ite2 (fun c => ?_) (fun c => ?_)⟩
    · refine ⟨_, rfl, (by show 1 ≤ sizeLine; decide), fun d1 nd1 => ?_⟩
      have gd := same_new nd1 (.lst [.ref px])
      exact ⟨_, rfl, _, rfl, pf, px, F, X, rfl, gd _ _ hF9, gd _ _ hX9, bF.mono, bX.mono', fun z H' g hz => last d1 nd1 z H' g hz⟩
    have ne : X ≠ Y := fun z => by
      rw [eqv3, decide_eq_true z] at c
      exact c rfl
    refine ⟨_, rfl, _, _, rfl, rfl, (by show (0 : Int) < 4; decide), rfl, _, rfl, ite2 (fun c2 => ?_) (fun c2 => ?_)⟩
    · refine ⟨_, rfl, (by show 1 ≤ sizeLine; decide), fun d1 nd1 => ?_⟩
      have gd := same_new nd1 (.lst [.ref px])
      exact ⟨_, rfl, _, rfl, pf, px, F, X, rfl, gd _ _ hF9, gd _ _ hX9, bF.mono, bX.mono', fun z H' g hz => last d1 nd1 z H' g hz⟩
    have nl : N3 (cr X Y) := Classical.byContradiction fun n => ne (low_uniq lX lY (n3_not n))
    obtain ⟨o1, o2⟩ := cr_on lX lY wX wY
    refine ⟨.ref du, pl, cr X Y, rfl, Same.refl _, hl9, nl, (bd_cr2 bX bY).mono', .inr ⟨du, _, if HT.lexLt [Y.x, Y.y, Y.z] [X.x, X.y, X.z] = true then [Y, X] else [X, Y], rfl, hdu9, ?_, nl, fun Ps M => ?_⟩⟩
    · split
      · exact .cons hY9 (.cons hX9 .nil)
      · exact .cons hX9 (.cons hY9 .nil)
    · split
      · rename_i c3
        exact M.pair o2 o1 ((lex3 Y X).mp c3)
      · rename_i c3
        exact M.pair o1 o2 (lt3_tri ne fun z => c3 ((lex3 Y X).mpr z))
  rintro _ H10 ⟨dv, pl1, l1, rfl, g10, hl10, nl1, bl1, due1⟩
  have gA := g17.trans (g79.trans g10)
  refine ⟨fun σ' H' => ∃ (dv : V) (pl : Addr) (l : P3) (om os : Option V), σ' = [some (.ref a), some (.int w), some (.ref pr), some (.ref pf), some (.ref px), some (.ref py), some (.int kd), some dv, some (.ref pl), none, none, none, some (.int s'), some (.int u), some (.int s2), some (.int u2), om, os] ∧ Same H10 H' ∧ S3 H' pl l ∧ BP 150 l ∧ ((kd % 4 ≤ 1 ∧ Due H' dv F l) ∨ dv = .non), ?_, ?_⟩
  · refine ⟨_, rfl, _, _, rfl, rfl, (by show (0 : Int) < 4; decide), _, _, rfl, rfl, _, rfl, ite2 (fun c => ?_) (fun c => ?_)⟩
    · refine ⟨_, _, rfl, rfl, ⟨by decide, by decide, by decide⟩, (by show 3 ≤ sizeLine; decide), fun p3 n3 => ?_⟩
      have f3 := same_new n3 (.lst [.int 3, .int 40, .int (10 ^ Int.toNat 6)])
      have pick : ∃ m : Int, atI [V.int 3, .int 40, .int (10 ^ Int.toNat 6)] (kd / 4 % 3) = some (.int m) ∧ 0 ≤ m ∧ m ≤ 1000000 := by
        have h : kd / 4 % 3 = 0 ∨ kd / 4 % 3 = 1 ∨ kd / 4 % 3 = 2 := by omega
        rcases h with e | e | e <;> rw [e]
        · exact ⟨3, rfl, by decide, by decide⟩
        · exact ⟨40, rfl, by decide, by decide⟩
        · exact ⟨10 ^ Int.toNat 6, rfl, by decide, by decide⟩
      obtain ⟨m, em, m0, m1⟩ := pick
      refine ⟨_, rfl, _, _, rfl, rfl, ⟨by decide, by decide⟩, _, _, rfl, rfl, (by show (0 : Int) < 3; decide), p3, _, _, _, rfl, rfl, SqL.of upd_same, em, ?_⟩
      refine ⟨3, rfl, by decide, by decide, comp_rangeF 3 (by decide) (fun i => .int (ns.getD (15 + (0 + (i : Int))).toNat 0 * 67867967 ^ Int.toNat 2)) ?_ ?_⟩
      · intro i H' Q' hi g k
        exact ⟨_, rfl, _, rfl, _, _, rfl, rfl, a, ns, _, rfl, (gA.trans (f3.trans g)).seq hS, by omega, _, _, rfl, rfl, ⟨by decide, by decide, by decide⟩, _, _, rfl, rfl, IntMulOk.of_right (intBits_le_64 (by decide) (by decide)), k _ (Same.refl _)⟩
      intro ls H11 g11 _ hls
      generalize hx0 : ns.getD (15 + (0 + ((0 : Nat) : Int))).toNat 0 * 67867967 ^ Int.toNat 2 = x0 at hls
      refine ⟨_, rfl, ls, rfl, ⟨_, SqL.of hls⟩, comp_listF (SqL.of hls) (by show 3 < sizeLine; decide) (fun v => match v with | .int n => .int (n % (2 * m + 1) - m) | v => v) (fun H' g => SqL.of (g _ _ hls)) ?_ ?_⟩
      · intro i v H' Q' hv g k
        obtain ⟨n, _, rfl⟩ : ∃ n : Int, n = n ∧ v = .int n := by
          obtain ⟨j, _, rfl⟩ := List.mem_map.mp (List.mem_of_getElem? hv)
          exact ⟨_, rfl, rfl⟩
        exact ⟨_, rfl, _, rfl, _, _, rfl, rfl, ok2, _, _, rfl, rfl, _, _, rfl, rfl, (by show (0 : Int) < 2 * m + 1; omega), _, rfl, _, _, rfl, rfl, k _ (Same.refl _)⟩
      intro lt H12 g12 _ hlt
      refine ⟨lt, _, rfl, .inl ⟨SqL.of hlt, fun z nz => ?_⟩⟩
      exact ⟨.non, z, ⟨_, _, _⟩, _, _, rfl, f3.trans (g11.trans (g12.trans (same_new nz _))), upd_same, ⟨(in_bp m0 m1).mono (by omega), (in_bp m0 m1).mono (by omega), (in_bp m0 m1).mono (by omega)⟩, .inr rfl⟩
    · have c' : ¬ kd % 4 > 1 := of_decide_eq_false (Bool.eq_false_iff.mpr c)
      exact ⟨dv, pl1, l1, none, none, rfl, Same.refl _, hl10, bl1, .inl ⟨by omega, due1⟩⟩
  rintro _ H11 ⟨dv2, pl2, l2, om, os, rfl, g11, hl11, bl2, due2⟩
  have hF11 := (g10.trans g11) _ _ hF9
  have hL11 := hL9.mono (g10.trans g11)
  refine ⟨fun σ' H' => ∃ (pf2 : Addr) (F2 : F6), σ' = [some (.ref a), some (.int w), some (.ref pr), some (.ref pf2), some (.ref px), some (.ref py), some (.int kd), some dv2, some (.ref pl2), none, none, none, some (.int s'), some (.int u), some (.int s2), some (.int u2), om, os] ∧ Same H11 H' ∧ S6 H' pf2 F2 ∧ BF 50 F2 ∧ sz F2 ≠ 0 ∧ Due H' dv2 F2 l2, ?_, ?_⟩
  · refine ⟨_, rfl, _, _, rfl, rfl, (by show (0 : Int) < 4; decide), rfl, _, rfl, ite2 (fun c => ?_) (fun c => ?_)⟩
    · have c' : kd % 4 = 3 := int_inj (of_decide_eq_true c)
      have dn : dv2 = .non := by
        rcases due2 with ⟨z, _⟩ | z
        · omega
        · exact z
      refine ⟨_, rfl, _, rfl, _, _, rfl, rfl, ⟨by decide, by decide⟩, pr, t1, _, rfl, hL11, bt, fun r H' c1 c2 g hr' bq n1 n2 => ⟨r, _, rfl, g, hr', bq, ?_, .inl dn⟩⟩
      rw [sz_sqf]
      exact Int.mul_ne_zero (Int.mul_ne_zero (Int.mul_ne_zero (by decide) n1) n2) (Int.mul_ne_zero mt mt)
    · refine ⟨pf, F, rfl, Same.refl _, hF11, bF, nsz, ?_⟩
      rcases due2 with ⟨_, z⟩ | z
      · exact z
      · exact .inl z
  rintro _ H12 ⟨pf2, F2, rfl, g12, hF12, bF2, nsz2, due3⟩
  have hl12 := g12 _ _ hl11
  refine ⟨fun σ' H' => ∃ (pl3 : Addr) (l3 : P3), σ' = [some (.ref a), some (.int w), some (.ref pr), some (.ref pf2), some (.ref px), some (.ref py), some (.int kd), some dv2, some (.ref pl3), none, none, none, some (.int s'), some (.int u), some (.int s2), some (.int u2), om, os] ∧ Same H12 H' ∧ S3 H' pl3 l3 ∧ N3 l3 ∧ BP 150 l3 ∧ Due H' dv2 F2 l3, ?_, ?_⟩
  · refine ⟨_, rfl, (by show 3 ≤ sizeLine; decide), fun pz npz => ?_⟩
    have fz := same_new npz (t3 ⟨0, 0, 0⟩)
    have hzz : S3 (upd H12 pz (t3 ⟨0, 0, 0⟩)) pz ⟨0, 0, 0⟩ := upd_same
    refine ⟨_, _, DA3 (fz _ _ hl12), DA3 hzz, rfl, rfl, _, rfl, ite2 (fun c => ?_) (fun c => ?_)⟩
    · rw [eqv3] at c
      have c' : l2 = ⟨0, 0, 0⟩ := of_decide_eq_true c
      refine ⟨(by show 3 ≤ sizeLine; decide), fun pn npn => ⟨pn, ⟨0, 1, 0⟩, rfl, fz.trans (same_new npn _), upd_same, .inr (.inl (by decide)), ⟨bd0, bd1, bd0⟩, ?_⟩⟩
      rcases due3 with z | ⟨_, _, _, _, _, _, n3, _⟩
      · exact .inl z
      · rw [c'] at n3
        unfold N3 at n3
        simp at n3
    · rw [eqv3] at c
      have nl : N3 l2 := Classical.byContradiction fun n => c (decide_eq_true (n3_not n))
      exact ⟨pl2, l2, rfl, fz, fz _ _ hl12, nl, bl2, due3.mono fz⟩
  rintro _ H13 ⟨pl3, l3, rfl, g13', hl13, nl3, bl3, due4⟩
  have hF13 := g13' _ _ hF12
  refine ⟨_, rfl, _, rfl, pf2, pl3, F2, l3, rfl, hF13, hl13, bF2.mono, bl3.mono', nl3, nsz2, fun fr H14 ws Ps g14' nfr hfr tu M bP => ?_⟩
  have hF14 := g14' _ _ hF13
  have hl14 := g14' _ _ hl13
  have due5 := due4.mono g14'
  refine ⟨fun σ' H' => σ' = [some (.ref a), some (.int w), some (.ref pr), some (.ref pf2), some (.ref px), some (.ref py), some (.int kd), some dv2, some (.ref pl3), some (.ref fr), none, none, some (.int s'), some (.int u), some (.int s2), some (.int u2), om, os] ∧ Same H14 H', ?_, ?_⟩
  · refine ⟨_, rfl, _, rfl, _, rfl, fr, pf2, pl3, F2, l3, ws, Ps, rfl, hF14, hl14, bF2.mono, bl3.mono', nl3, M, hfr, tu, bP, fun H15 g15' => ?_⟩
    refine ⟨_, rfl, iteF ⟨_, rfl, rfl, ?_⟩⟩
    rcases due5 with rfl | ⟨du1, vs1, Ds, rfl, hd, td, _, ed⟩
    · exact ⟨_, rfl, iteF (iteF ⟨rfl, g15'⟩)⟩
    · have e := ed Ps M
      subst e
      obtain ⟨e1, e2⟩ := eqvL M
      refine ⟨_, rfl, iteT ⟨_, rfl, _, rfl, _, _, .lst (g15' _ _ hfr) (tu.mono g15').DAs, .lst (g15' _ _ hd) (td.mono g15').DAs, e2, e2, ?_⟩⟩
      rw [e1]
      exact ⟨_, rfl, iteF ⟨rfl, g15'⟩⟩
  rintro _ H15 ⟨rfl, g15'⟩
  have hfr15 := g15' _ _ hfr
  have tu15 := tu.mono g15'
  refine ⟨_, rfl, _, _, rfl, rfl, ⟨by decide, by decide⟩, _, rfl, fun H16 g16 => ?_⟩
  have ov := tv_at (kd / 144)
  generalize tv (kd / 144) = ovr at *
  refine ⟨_, rfl, fr, ws, rfl, .inl (SqL.of (g16 _ _ hfr15)), fun ke nke => ?_⟩
  have fk := same_new nke (.lst ws)
  have hfr17 := fk _ _ (g16 _ _ hfr15)
  refine ⟨_, rfl, .inl ⟨rfl, _, SqL.of hfr17⟩, (by show 3 ≤ sizeLine; decide), fun pn npn => ?_⟩
  have fn := same_new npn (t3 ⟨0, 0, 1⟩)
  have lw2 : ws.length < sizeLine := by
    have := tu.len
    have h2 : Ps.length ≤ 2 := by cases M <;> simp
    rw [this]
    exact Nat.lt_of_le_of_lt h2 (by decide)
  refine ⟨fr, _, _, rfl, rfl, fn _ _ hfr17, lw2, ?_⟩
  generalize hg : upd _ fr _ = H18
  have g3 : Same H13 H18 := by
    rw [← hg]
    exact same_upd (g14'.trans (g15'.trans (g16.trans (fk.trans fn)))) nfr
  have nek : ke ≠ fr := fun z => by
    subst z
    rw [g16 _ _ hfr15] at nke
    cases nke
  have hke : H18 ke = some (.lst ws) := by
    rw [← hg, upd_ne nek]
    exact fn _ _ upd_same
  have tu18 : Tu H18 ws Ps := by
    rw [← hg]
    exact (tu15.mono (g16.trans (fk.trans fn))).put (fn _ _ hfr17)
  clear hg
  have hF18 := g3 _ _ hF13
  have hl18 : H18 pl3 = some (.tup (v3 l3)) := g3 _ _ hl13
  obtain ⟨e1, e2⟩ := eqvL M
  refine ⟨_, rfl, _, rfl, pl3, rfl, ⟨_, SqT.of hl18⟩, comp_tupF (xs := v3 l3) (SqT.of hl18) (by show 3 < sizeLine; decide) (vmt ovr) (fun H' g => SqT.of (g _ _ hl18)) ?_ ?_⟩
  · intro i v H' Q' hv g k
    obtain ⟨n, rfl, hn⟩ := get3 hv
    exact ⟨_, rfl, _, rfl, _, _, rfl, rfl, okM (bd_get bl3 hn) ov.2.2, k _ (Same.refl _)⟩
  intro lt H19 g19 _ hlt
  refine ⟨lt, _, rfl, .inl ⟨SqL.of hlt, fun z nz => ?_⟩⟩
  have gz := g19.trans (same_new nz (.tup ((v3 l3).map (vmt ovr))))
  have hz : S3 (upd H19 z (.tup ((v3 l3).map (vmt ovr)))) z (tm ovr l3) := by
    rw [← st_eq]
    exact upd_same
  refine ⟨pf2, z, F2, tm ovr l3, rfl, gz _ _ hF18, hz, bF2.mono, (bp_tm ov.2.2 bl3).mono', tm_nz ov.2.1 nl3, nsz2, fun r1 H20 ws1 Ps1 g20 _ hr1 tu1 M1 _ => ?_⟩
  have e3 : Ps1 = Ps := M1.uniq M fun Z => on_tm ov.2.1
  subst e3
  have g18 := gz.trans g20
  refine ⟨_, rfl, _, _, .lst hr1 tu1.DAs, .lst (g18 _ _ hke) (tu18.mono g18).DAs, e2, e2, ?_⟩
  rw [e1]
  refine ⟨_, rfl, iteT ?_⟩
  refine ⟨_, rfl, _, rfl, pf2, pl3, F2, l3, rfl, g18 _ _ hF18, g18 _ _ hl18, bF2.mono, bl3.mono', nl3, nsz2, fun r2 H21 ws2 Ps2 g21 _ hr2 tu2 M2 _ => ?_⟩
  have e4 : Ps2 = Ps1 := M2.uniq M fun Z => Iff.rfl
  subst e4
  have g22 := g18.trans g21
  refine ⟨_, rfl, _, _, .lst hr2 tu2.DAs, .lst (g22 _ _ hke) (tu18.mono g22).DAs, e2, e2, ?_⟩
  rw [e1]
  exact q _

end
theorem all_mk {l : PySem.W.OpenLaw} {w : World} {K : PySem.W.Frag} {h : Heap} {mg : Str → Option Value} {fa qgAXES qgAXES_0 qgAXES_1 qgAXES_2 : Addr} (X : K.In h) (G : h.Ns mainGlobals mg) (hfa : mg "law" = some (.ref fa))
    {f1 f2 f3 f4 f5 f6 f7 f8 f9 f10 f11 f12 f13 f14 f15 f16 f17 f18 f19 f20 f21 f22 f23 f24 f25 f26 f27 f28 f29 f30 f31 f32 f33 f34 f35 f36 : Addr} {od1 an1 od2 an2 od3 an3 od4 an4 od5 an5 od6 an6 od7 an7 od8 an8 od9 an9 od10 an10 od11 an11 od12 an12 od13 an13 od14 an14 od15 an15 od16 an16 od17 an17 od18 an18 od19 an19 od20 an20 od21 an21 od22 an22 od23 an23 od24 an24 od25 an25 od26 an26 od27 an27 od28 an28 od29 an29 od30 an30 od31 an31 od32 an32 od33 an33 od34 an34 od35 an35 od36 an36 : Option Addr} {sl1 sl2 sl3 sl4 sl5 sl6 sl7 sl8 sl9 sl10 sl11 sl12 sl13 sl14 sl15 sl16 sl17 sl18 sl19 sl20 sl21 sl22 sl23 sl24 sl25 sl26 sl27 sl28 sl29 sl30 sl31 sl32 sl33 sl34 sl35 sl36 : Array (Option Value)} {oc1 kV1 dc1 pm1 cd1 ct1 oc2 kV2 dc2 pm2 cd2 ct2 oc3 kV3 dc3 pm3 cd3 ct3 oc4 kV4 dc4 pm4 cd4 ct4 oc5 kV5 dc5 pm5 cd5 ct5 oc6 kV6 dc6 pm6 cd6 ct6 oc7 kV7 dc7 pm7 cd7 ct7 oc8 kV8 dc8 pm8 cd8 ct8 oc9 kV9 dc9 pm9 cd9 ct9 oc10 kV10 dc10 pm10 cd10 ct10 oc11 kV11 dc11 pm11 cd11 ct11 oc12 kV12 dc12 pm12 cd12 ct12 oc13 kV13 dc13 pm13 cd13 ct13 oc14 kV14 dc14 pm14 cd14 ct14 oc15 kV15 dc15 pm15 cd15 ct15 oc16 kV16 dc16 pm16 cd16 ct16 oc17 kV17 dc17 pm17 cd17 ct17 oc18 kV18 dc18 pm18 cd18 ct18 oc19 kV19 dc19 pm19 cd19 ct19 oc20 kV20 dc20 pm20 cd20 ct20 oc21 kV21 dc21 pm21 cd21 ct21 oc22 kV22 dc22 pm22 cd22 ct22 oc23 kV23 dc23 pm23 cd23 ct23 oc24 kV24 dc24 pm24 cd24 ct24 oc25 kV25 dc25 pm25 cd25 ct25 oc26 kV26 dc26 pm26 cd26 ct26 oc27 kV27 dc27 pm27 cd27 ct27 oc28 kV28 dc28 pm28 cd28 ct28 oc29 kV29 dc29 pm29 cd29 ct29 oc30 kV30 dc30 pm30 cd30 ct30 oc31 kV31 dc31 pm31 cd31 ct31 oc32 kV32 dc32 pm32 cd32 ct32 oc33 kV33 dc33 pm33 cd33 ct33 oc34 kV34 dc34 pm34 cd34 ct34 oc35 kV35 dc35 pm35 cd35 ct35 oc36 kV36 dc36 pm36 cd36 ct36 : Value}
    (a1 : PySem.W.nsIn K mainGlobals "row_less" = some (some (.ref f1))) (l1 : K.lookup f1 = some ⟨oc1, od1, .func (PySem.W.fnOf "row_less" "row_less" (defArgs s_row_less) (defBody s_row_less) (defScope s_row_less) .none kV1 dc1 pm1 an1 cd1 ct1), sl1⟩) (g1 : PySem.W.codeIn K cd1 "row_less" = true) (k1 : PySem.W.keepIn K (.ref f1) = true)
    (a2 : PySem.W.nsIn K mainGlobals "shares_of" = some (some (.ref f2))) (l2 : K.lookup f2 = some ⟨oc2, od2, .func (PySem.W.fnOf "shares_of" "shares_of" (defArgs s_shares_of) (defBody s_shares_of) (defScope s_shares_of) .none kV2 dc2 pm2 an2 cd2 ct2), sl2⟩) (g2 : PySem.W.codeIn K cd2 "shares_of" = true) (k2 : PySem.W.keepIn K (.ref f2) = true)
    (a3 : PySem.W.nsIn K mainGlobals "slopes_of" = some (some (.ref f3))) (l3 : K.lookup f3 = some ⟨oc3, od3, .func (PySem.W.fnOf "slopes_of" "slopes_of" (defArgs s_slopes_of) (defBody s_slopes_of) (defScope s_slopes_of) .none kV3 dc3 pm3 an3 cd3 ct3), sl3⟩) (g3 : PySem.W.codeIn K cd3 "slopes_of" = true) (k3 : PySem.W.keepIn K (.ref f3) = true)
    (a4 : PySem.W.nsIn K mainGlobals "size_of" = some (some (.ref f4))) (l4 : K.lookup f4 = some ⟨oc4, od4, .func (PySem.W.fnOf "size_of" "size_of" (defArgs s_size_of) (defBody s_size_of) (defScope s_size_of) .none kV4 dc4 pm4 an4 cd4 ct4), sl4⟩) (g4 : PySem.W.codeIn K cd4 "size_of" = true) (k4 : PySem.W.keepIn K (.ref f4) = true)
    (a5 : PySem.W.nsIn K mainGlobals "crossing_of" = some (some (.ref f5))) (l5 : K.lookup f5 = some ⟨oc5, od5, .func (PySem.W.fnOf "crossing_of" "crossing_of" (defArgs s_crossing_of) (defBody s_crossing_of) (defScope s_crossing_of) .none kV5 dc5 pm5 an5 cd5 ct5), sl5⟩) (g5 : PySem.W.codeIn K cd5 "crossing_of" = true) (k5 : PySem.W.keepIn K (.ref f5) = true)
    (a6 : PySem.W.nsIn K mainGlobals "stretched" = some (some (.ref f6))) (l6 : K.lookup f6 = some ⟨oc6, od6, .func (PySem.W.fnOf "stretched" "stretched" (defArgs s_stretched) (defBody s_stretched) (defScope s_stretched) .none kV6 dc6 pm6 an6 cd6 ct6), sl6⟩) (g6 : PySem.W.codeIn K cd6 "stretched" = true) (k6 : PySem.W.keepIn K (.ref f6) = true)
    (a7 : PySem.W.nsIn K mainGlobals "refuse_flat" = some (some (.ref f7))) (l7 : K.lookup f7 = some ⟨oc7, od7, .func (PySem.W.fnOf "refuse_flat" "refuse_flat" (defArgs s_refuse_flat) (defBody s_refuse_flat) (defScope s_refuse_flat) .none kV7 dc7 pm7 an7 cd7 ct7), sl7⟩) (g7 : PySem.W.codeIn K cd7 "refuse_flat" = true) (k7 : PySem.W.keepIn K (.ref f7) = true)
    (a8 : PySem.W.nsIn K mainGlobals "row_product" = some (some (.ref f8))) (l8 : K.lookup f8 = some ⟨oc8, od8, .func (PySem.W.fnOf "row_product" "row_product" (defArgs s_row_product) (defBody s_row_product) (defScope s_row_product) .none kV8 dc8 pm8 an8 cd8 ct8), sl8⟩) (g8 : PySem.W.codeIn K cd8 "row_product" = true) (k8 : PySem.W.keepIn K (.ref f8) = true)
    (a9 : PySem.W.nsIn K mainGlobals "turned_by" = some (some (.ref f9))) (l9 : K.lookup f9 = some ⟨oc9, od9, .func (PySem.W.fnOf "turned_by" "turned_by" (defArgs s_turned_by) (defBody s_turned_by) (defScope s_turned_by) .none kV9 dc9 pm9 an9 cd9 ct9), sl9⟩) (g9 : PySem.W.codeIn K cd9 "turned_by" = true) (k9 : PySem.W.keepIn K (.ref f9) = true)
    (a10 : PySem.W.nsIn K mainGlobals "worth_of" = some (some (.ref f10))) (l10 : K.lookup f10 = some ⟨oc10, od10, .func (PySem.W.fnOf "worth_of" "worth_of" (defArgs s_worth_of) (defBody s_worth_of) (defScope s_worth_of) .none kV10 dc10 pm10 an10 cd10 ct10), sl10⟩) (g10 : PySem.W.codeIn K cd10 "worth_of" = true) (k10 : PySem.W.keepIn K (.ref f10) = true)
    (a11 : PySem.W.nsIn K mainGlobals "added" = some (some (.ref f11))) (l11 : K.lookup f11 = some ⟨oc11, od11, .func (PySem.W.fnOf "added" "added" (defArgs s_added) (defBody s_added) (defScope s_added) .none kV11 dc11 pm11 an11 cd11 ct11), sl11⟩) (g11 : PySem.W.codeIn K cd11 "added" = true) (k11 : PySem.W.keepIn K (.ref f11) = true)
    (a12 : PySem.W.nsIn K mainGlobals "lowest_point" = some (some (.ref f12))) (l12 : K.lookup f12 = some ⟨oc12, od12, .func (PySem.W.fnOf "lowest_point" "lowest_point" (defArgs s_lowest_point) (defBody s_lowest_point) (defScope s_lowest_point) .none kV12 dc12 pm12 an12 cd12 ct12), sl12⟩) (g12 : PySem.W.codeIn K cd12 "lowest_point" = true) (k12 : PySem.W.keepIn K (.ref f12) = true)
    (a13 : PySem.W.nsIn K mainGlobals "above_root" = some (some (.ref f13))) (l13 : K.lookup f13 = some ⟨oc13, od13, .func (PySem.W.fnOf "above_root" "above_root" (defArgs s_above_root) (defBody s_above_root) (defScope s_above_root) .none kV13 dc13 pm13 an13 cd13 ct13), sl13⟩) (g13 : PySem.W.codeIn K cd13 "above_root" = true) (k13 : PySem.W.keepIn K (.ref f13) = true)
    (a14 : PySem.W.nsIn K mainGlobals "root_of" = some (some (.ref f14))) (l14 : K.lookup f14 = some ⟨oc14, od14, .func (PySem.W.fnOf "root_of" "root_of" (defArgs s_root_of) (defBody s_root_of) (defScope s_root_of) .none kV14 dc14 pm14 an14 cd14 ct14), sl14⟩) (g14 : PySem.W.codeIn K cd14 "root_of" = true) (k14 : PySem.W.keepIn K (.ref f14) = true)
    (a15 : PySem.W.nsIn K mainGlobals "off_curve" = some (some (.ref f15))) (l15 : K.lookup f15 = some ⟨oc15, od15, .func (PySem.W.fnOf "off_curve" "off_curve" (defArgs s_off_curve) (defBody s_off_curve) (defScope s_off_curve) .none kV15 dc15 pm15 an15 cd15 ct15), sl15⟩) (g15 : PySem.W.codeIn K cd15 "off_curve" = true) (k15 : PySem.W.keepIn K (.ref f15) = true)
    (a16 : PySem.W.nsIn K mainGlobals "corners_on" = some (some (.ref f16))) (l16 : K.lookup f16 = some ⟨oc16, od16, .func (PySem.W.fnOf "corners_on" "corners_on" (defArgs s_corners_on) (defBody s_corners_on) (defScope s_corners_on) .none kV16 dc16 pm16 an16 cd16 ct16), sl16⟩) (g16 : PySem.W.codeIn K cd16 "corners_on" = true) (k16 : PySem.W.keepIn K (.ref f16) = true)
    (a17 : PySem.W.nsIn K mainGlobals "line_met" = some (some (.ref f17))) (l17 : K.lookup f17 = some ⟨oc17, od17, .func (PySem.W.fnOf "line_met" "line_met" (defArgs s_line_met) (defBody s_line_met) (defScope s_line_met) .none kV17 dc17 pm17 an17 cd17 ct17), sl17⟩) (g17 : PySem.W.codeIn K cd17 "line_met" = true) (k17 : PySem.W.keepIn K (.ref f17) = true)
    (a18 : PySem.W.nsIn K mainGlobals "_law_cell_at" = some (some (.ref f18))) (l18 : K.lookup f18 = some ⟨oc18, od18, .func (PySem.W.fnOf "_law_cell_at" "_law_cell_at" (defArgs s_cell_at) (defBody s_cell_at) (defScope s_cell_at) .none kV18 dc18 pm18 an18 cd18 ct18), sl18⟩) (g18 : PySem.W.codeIn K cd18 "_law_cell_at" = true) (k18 : PySem.W.keepIn K (.ref f18) = true)
    (a19 : PySem.W.nsIn K mainGlobals "_law_shared" = some (some (.ref f19))) (l19 : K.lookup f19 = some ⟨oc19, od19, .func (PySem.W.fnOf "_law_shared" "_law_shared" (defArgs s_shared) (defBody s_shared) (defScope s_shared) .none kV19 dc19 pm19 an19 cd19 ct19), sl19⟩) (g19 : PySem.W.codeIn K cd19 "_law_shared" = true) (k19 : PySem.W.keepIn K (.ref f19) = true)
    (a20 : PySem.W.nsIn K mainGlobals "_law_lowest" = some (some (.ref f20))) (l20 : K.lookup f20 = some ⟨oc20, od20, .func (PySem.W.fnOf "_law_lowest" "_law_lowest" (defArgs s_lowest) (defBody s_lowest) (defScope s_lowest) .none kV20 dc20 pm20 an20 cd20 ct20), sl20⟩) (g20 : PySem.W.codeIn K cd20 "_law_lowest" = true) (k20 : PySem.W.keepIn K (.ref f20) = true)
    (a21 : PySem.W.nsIn K mainGlobals "_law_beside" = some (some (.ref f21))) (l21 : K.lookup f21 = some ⟨oc21, od21, .func (PySem.W.fnOf "_law_beside" "_law_beside" (defArgs s_beside) (defBody s_beside) (defScope s_beside) .none kV21 dc21 pm21 an21 cd21 ct21), sl21⟩) (g21 : PySem.W.codeIn K cd21 "_law_beside" = true) (k21 : PySem.W.keepIn K (.ref f21) = true)
    (a22 : PySem.W.nsIn K mainGlobals "_law_dot" = some (some (.ref f22))) (l22 : K.lookup f22 = some ⟨oc22, od22, .func (PySem.W.fnOf "_law_dot" "_law_dot" (defArgs s_dot) (defBody s_dot) (defScope s_dot) .none kV22 dc22 pm22 an22 cd22 ct22), sl22⟩) (g22 : PySem.W.codeIn K cd22 "_law_dot" = true) (k22 : PySem.W.keepIn K (.ref f22) = true)
    (a23 : PySem.W.nsIn K mainGlobals "_law_rows" = some (some (.ref f23))) (l23 : K.lookup f23 = some ⟨oc23, od23, .func (PySem.W.fnOf "_law_rows" "_law_rows" (defArgs s_rows) (defBody s_rows) (defScope s_rows) .none kV23 dc23 pm23 an23 cd23 ct23), sl23⟩) (g23 : PySem.W.codeIn K cd23 "_law_rows" = true) (k23 : PySem.W.keepIn K (.ref f23) = true)
    (a24 : PySem.W.nsIn K mainGlobals "_law_form" = some (some (.ref f24))) (l24 : K.lookup f24 = some ⟨oc24, od24, .func (PySem.W.fnOf "_law_form" "_law_form" (defArgs s_form) (defBody s_form) (defScope s_form) .none kV24 dc24 pm24 an24 cd24 ct24), sl24⟩) (g24 : PySem.W.codeIn K cd24 "_law_form" = true) (k24 : PySem.W.keepIn K (.ref f24) = true)
    (a25 : PySem.W.nsIn K mainGlobals "_law_spot" = some (some (.ref f25))) (l25 : K.lookup f25 = some ⟨oc25, od25, .func (PySem.W.fnOf "_law_spot" "_law_spot" (defArgs s_spot) (defBody s_spot) (defScope s_spot) .none kV25 dc25 pm25 an25 cd25 ct25), sl25⟩) (g25 : PySem.W.codeIn K cd25 "_law_spot" = true) (k25 : PySem.W.keepIn K (.ref f25) = true)
    (a26 : PySem.W.nsIn K mainGlobals "_law_worth" = some (some (.ref f26))) (l26 : K.lookup f26 = some ⟨oc26, od26, .func (PySem.W.fnOf "_law_worth" "_law_worth" (defArgs s_worth) (defBody s_worth) (defScope s_worth) .none kV26 dc26 pm26 an26 cd26 ct26), sl26⟩) (g26 : PySem.W.codeIn K cd26 "_law_worth" = true) (k26 : PySem.W.keepIn K (.ref f26) = true)
    (a27 : PySem.W.nsIn K mainGlobals "_law_cross" = some (some (.ref f27))) (l27 : K.lookup f27 = some ⟨oc27, od27, .func (PySem.W.fnOf "_law_cross" "_law_cross" (defArgs s_cross) (defBody s_cross) (defScope s_cross) .none kV27 dc27 pm27 an27 cd27 ct27), sl27⟩) (g27 : PySem.W.codeIn K cd27 "_law_cross" = true) (k27 : PySem.W.keepIn K (.ref f27) = true)
    (a28 : PySem.W.nsIn K mainGlobals "_law_is_spot" = some (some (.ref f28))) (l28 : K.lookup f28 = some ⟨oc28, od28, .func (PySem.W.fnOf "_law_is_spot" "_law_is_spot" (defArgs s_is_spot) (defBody s_is_spot) (defScope s_is_spot) .none kV28 dc28 pm28 an28 cd28 ct28), sl28⟩) (g28 : PySem.W.codeIn K cd28 "_law_is_spot" = true) (k28 : PySem.W.keepIn K (.ref f28) = true)
    (a29 : PySem.W.nsIn K mainGlobals "_law_times" = some (some (.ref f29))) (l29 : K.lookup f29 = some ⟨oc29, od29, .func (PySem.W.fnOf "_law_times" "_law_times" (defArgs s_times) (defBody s_times) (defScope s_times) .none kV29 dc29 pm29 an29 cd29 ct29), sl29⟩) (g29 : PySem.W.codeIn K cd29 "_law_times" = true) (k29 : PySem.W.keepIn K (.ref f29) = true)
    (a30 : PySem.W.nsIn K mainGlobals "_law_pair" = some (some (.ref f30))) (l30 : K.lookup f30 = some ⟨oc30, od30, .func (PySem.W.fnOf "_law_pair" "_law_pair" (defArgs s_pair) (defBody s_pair) (defScope s_pair) .none kV30 dc30 pm30 an30 cd30 ct30), sl30⟩) (g30 : PySem.W.codeIn K cd30 "_law_pair" = true) (k30 : PySem.W.keepIn K (.ref f30) = true)
    (a31 : PySem.W.nsIn K mainGlobals "_law_root" = some (some (.ref f31))) (l31 : K.lookup f31 = some ⟨oc31, od31, .func (PySem.W.fnOf "_law_root" "_law_root" (defArgs s_root) (defBody s_root) (defScope s_root) .none kV31 dc31 pm31 an31 cd31 ct31), sl31⟩) (g31 : PySem.W.codeIn K cd31 "_law_root" = true) (k31 : PySem.W.keepIn K (.ref f31) = true)
    (a32 : PySem.W.nsIn K mainGlobals "_law_many" = some (some (.ref f32))) (l32 : K.lookup f32 = some ⟨oc32, od32, .func (PySem.W.fnOf "_law_many" "_law_many" (defArgs s_many) (defBody s_many) (defScope s_many) .none kV32 dc32 pm32 an32 cd32 ct32), sl32⟩) (g32 : PySem.W.codeIn K cd32 "_law_many" = true) (k32 : PySem.W.keepIn K (.ref f32) = true)
    (a33 : PySem.W.nsIn K mainGlobals "_law_right" = some (some (.ref f33))) (l33 : K.lookup f33 = some ⟨oc33, od33, .func (PySem.W.fnOf "_law_right" "_law_right" (defArgs s_right) (defBody s_right) (defScope s_right) .none kV33 dc33 pm33 an33 cd33 ct33), sl33⟩) (g33 : PySem.W.codeIn K cd33 "_law_right" = true) (k33 : PySem.W.keepIn K (.ref f33) = true)
    (a34 : PySem.W.nsIn K mainGlobals "_law_squares" = some (some (.ref f34))) (l34 : K.lookup f34 = some ⟨oc34, od34, .func (PySem.W.fnOf "_law_squares" "_law_squares" (defArgs s_squares) (defBody s_squares) (defScope s_squares) .none kV34 dc34 pm34 an34 cd34 ct34), sl34⟩) (g34 : PySem.W.codeIn K cd34 "_law_squares" = true) (k34 : PySem.W.keepIn K (.ref f34) = true)
    (a35 : PySem.W.nsIn K mainGlobals "_law_slope" = some (some (.ref f35))) (l35 : K.lookup f35 = some ⟨oc35, od35, .func (PySem.W.fnOf "_law_slope" "_law_slope" (defArgs s_slope) (defBody s_slope) (defScope s_slope) .none kV35 dc35 pm35 an35 cd35 ct35), sl35⟩) (g35 : PySem.W.codeIn K cd35 "_law_slope" = true) (k35 : PySem.W.keepIn K (.ref f35) = true)
    (a36 : PySem.W.nsIn K mainGlobals "law" = some (some (.ref f36))) (l36 : K.lookup f36 = some ⟨oc36, od36, .func (PySem.W.fnOf "law" "law" (defArgs s_law) (defBody s_law) (defScope s_law) .none kV36 dc36 pm36 an36 cd36 ct36), sl36⟩) (g36 : PySem.W.codeIn K cd36 "law" = true) (k36 : PySem.W.keepIn K (.ref f36) = true)
    (xm_AXES : PySem.W.nsIn K mainGlobals "AXES" = some (some (.ref qgAXES)))
    {odgAXES : Option Addr} {ngAXES : Nat} {slgAXES : Array (Option Value)} 
    (xk_AXES : K.lookup qgAXES = some ⟨.type "tuple", odgAXES, .seq #[.ref qgAXES_0, .ref qgAXES_1, .ref qgAXES_2] ngAXES, slgAXES⟩)
    {odgAXES_0 : Option Addr} {ngAXES_0 : Nat} {slgAXES_0 : Array (Option Value)} {tkgAXES_0_0 tkgAXES_0_1 tkgAXES_0_2 : Tok}
    (xk_AXES_0 : K.lookup qgAXES_0 = some ⟨.type "tuple", odgAXES_0, .seq #[.int 1 tkgAXES_0_0, .int 0 tkgAXES_0_1, .int 0 tkgAXES_0_2] ngAXES_0, slgAXES_0⟩)
    {odgAXES_1 : Option Addr} {ngAXES_1 : Nat} {slgAXES_1 : Array (Option Value)} {tkgAXES_1_0 tkgAXES_1_1 tkgAXES_1_2 : Tok}
    (xk_AXES_1 : K.lookup qgAXES_1 = some ⟨.type "tuple", odgAXES_1, .seq #[.int 0 tkgAXES_1_0, .int 1 tkgAXES_1_1, .int 0 tkgAXES_1_2] ngAXES_1, slgAXES_1⟩)
    {odgAXES_2 : Option Addr} {ngAXES_2 : Nat} {slgAXES_2 : Array (Option Value)} {tkgAXES_2_0 tkgAXES_2_1 tkgAXES_2_2 : Tok}
    (xk_AXES_2 : K.lookup qgAXES_2 = some ⟨.type "tuple", odgAXES_2, .seq #[.int 0 tkgAXES_2_0, .int 0 tkgAXES_2_1, .int 1 tkgAXES_2_2] ngAXES_2, slgAXES_2⟩)
    (xi_ib : PySem.W.kitOne K (.type "int") (.type "bool") = some false)
    (xz_isinstance : PySem.W.nsIn K mainGlobals "isinstance" = some none)
    (xz_int : PySem.W.nsIn K mainGlobals "int" = some none)
    (xz_bool : PySem.W.nsIn K mainGlobals "bool" = some none)
    (xz_len : PySem.W.nsIn K mainGlobals "len" = some none)
    (xz_range : PySem.W.nsIn K mainGlobals "range" = some none)
    (xz_tuple : PySem.W.nsIn K mainGlobals "tuple" = some none)
    (xz_all : PySem.W.nsIn K mainGlobals "all" = some none)
    (xz_abs : PySem.W.nsIn K mainGlobals "abs" = some none)
    (xz_any : PySem.W.nsIn K mainGlobals "any" = some none)
    (xz_sum : PySem.W.nsIn K mainGlobals "sum" = some none)
    (xz_zip : PySem.W.nsIn K mainGlobals "zip" = some none)
    (xz_list : PySem.W.nsIn K mainGlobals "list" = some none)
    (xz_set : PySem.W.nsIn K mainGlobals "set" = some none)
    (xz_sorted : PySem.W.nsIn K mainGlobals "sorted" = some none)
    : ∃ fd : FuncData, (∀ (s : Shared) (v : Value), BindsTo s fd ⟨[v], []⟩ [("_law_script", v)]) ∧ ∀ base : Heap, K.In base → base.Ns mainGlobals mg → FnOk l.prog w K mg base CX0 6 fa fd ["_law_script"] (spLaw K) := by
  have e := hfa.symm.trans (PySem.W.mg_of X G a36)
  cases e
  have T : Txt K mg ⟨qgAXES, qgAXES_0, qgAXES_1, qgAXES_2⟩ := ⟨PySem.W.mg_of X G xm_AXES, TupK.mk xk_AXES (by show 3 ≤ sizeLine; decide) (.cons rfl (.cons rfl (.cons rfl .nil))), TupK.mk xk_AXES_0 (by show 3 ≤ sizeLine; decide) (.cons ⟨_, rfl⟩ (.cons ⟨_, rfl⟩ (.cons ⟨_, rfl⟩ .nil))), TupK.mk xk_AXES_1 (by show 3 ≤ sizeLine; decide) (.cons ⟨_, rfl⟩ (.cons ⟨_, rfl⟩ (.cons ⟨_, rfl⟩ .nil))), TupK.mk xk_AXES_2 (by show 3 ≤ sizeLine; decide) (.cons ⟨_, rfl⟩ (.cons ⟨_, rfl⟩ (.cons ⟨_, rfl⟩ .nil))), xi_ib, PySem.W.mg_none_of X G xz_isinstance, PySem.W.mg_none_of X G xz_int, PySem.W.mg_none_of X G xz_bool, PySem.W.mg_none_of X G xz_len, PySem.W.mg_none_of X G xz_range, PySem.W.mg_none_of X G xz_tuple, PySem.W.mg_none_of X G xz_all, PySem.W.mg_none_of X G xz_abs, PySem.W.mg_none_of X G xz_any, PySem.W.mg_none_of X G xz_sum, PySem.W.mg_none_of X G xz_zip, PySem.W.mg_none_of X G xz_list, PySem.W.mg_none_of X G xz_set, PySem.W.mg_none_of X G xz_sorted⟩
  have F1 := fun_mk (st := s_row_less) l1 g1 k1
  have b1 := F1.binds (ps := ["row", "taken", "times"]) fun _ _ _ _ _ _ => byL3 fun _ _ _ => rfl
  have F2 := fun_mk (st := s_shares_of) l2 g2 k2
  have b2 := F2.binds (ps := ["one", "other"]) fun _ _ _ _ _ _ => byL2 fun _ _ => rfl
  have F3 := fun_mk (st := s_slopes_of) l3 g3 k3
  have b3 := F3.binds (ps := ["Q"]) fun _ _ _ _ _ _ => byL1 fun _ => rfl
  have F4 := fun_mk (st := s_size_of) l4 g4 k4
  have b4 := F4.binds (ps := ["Q"]) fun _ _ _ _ _ _ => byL1 fun _ => rfl
  have F5 := fun_mk (st := s_crossing_of) l5 g5 k5
  have b5 := F5.binds (ps := ["one", "other"]) fun _ _ _ _ _ _ => byL2 fun _ _ => rfl
  have F6 := fun_mk (st := s_stretched) l6 g6 k6
  have b6 := F6.binds (ps := ["P", "times"]) fun _ _ _ _ _ _ => byL2 fun _ _ => rfl
  have F7 := fun_mk (st := s_refuse_flat) l7 g7 k7
  have b7 := F7.binds (ps := ["Q"]) fun _ _ _ _ _ _ => byL1 fun _ => rfl
  have F8 := fun_mk (st := s_row_product) l8 g8 k8
  have b8 := F8.binds (ps := ["row", "P"]) fun _ _ _ _ _ _ => byL2 fun _ _ => rfl
  have F9 := fun_mk (st := s_turned_by) l9 g9 k9
  have b9 := F9.binds (ps := ["table", "P"]) fun _ _ _ _ _ _ => byL2 fun _ _ => rfl
  have F10 := fun_mk (st := s_worth_of) l10 g10 k10
  have b10 := F10.binds (ps := ["Q", "P"]) fun _ _ _ _ _ _ => byL2 fun _ _ => rfl
  have F11 := fun_mk (st := s_added) l11 g11 k11
  have b11 := F11.binds (ps := ["one", "other"]) fun _ _ _ _ _ _ => byL2 fun _ _ => rfl
  have F12 := fun_mk (st := s_lowest_point) l12 g12 k12
  have b12 := F12.binds (ps := ["P"]) fun _ _ _ _ _ _ => byL1 fun _ => rfl
  have F13 := fun_mk (st := s_above_root) l13 g13 k13
  have b13 := F13.binds (ps := ["number"]) fun _ _ _ _ _ _ => byL1 fun _ => rfl
  have F14 := fun_mk (st := s_root_of) l14 g14 k14
  have b14 := F14.binds (ps := ["number"]) fun _ _ _ _ _ _ => byL1 fun _ => rfl
  have F15 := fun_mk (st := s_off_curve) l15 g15 k15
  have b15 := F15.binds (ps := ["Q", "points"]) fun _ _ _ _ _ _ => byL2 fun _ _ => rfl
  have F16 := fun_mk (st := s_corners_on) l16 g16 k16
  have b16 := F16.binds (ps := ["Q", "line"]) fun _ _ _ _ _ _ => byL2 fun _ _ => rfl
  have F17 := fun_mk (st := s_line_met) l17 g17 k17
  have b17 := F17.binds (ps := ["Q", "line"]) fun _ _ _ _ _ _ => byL2 fun _ _ => rfl
  have F18 := fun_mk (st := s_cell_at) l18 g18 k18
  have b18 := F18.binds (ps := ["_law_script", "_law_k"]) fun _ _ _ _ _ _ => byL2 fun _ _ => rfl
  have F19 := fun_mk (st := s_shared) l19 g19 k19
  have b19 := F19.binds (ps := ["_law_numbers"]) fun _ _ _ _ _ _ => byL1 fun _ => rfl
  have F20 := fun_mk (st := s_lowest) l20 g20 k20
  have b20 := F20.binds (ps := ["_law_numbers"]) fun _ _ _ _ _ _ => byL1 fun _ => rfl
  have F21 := fun_mk (st := s_beside) l21 g21 k21
  have b21 := F21.binds (ps := ["_law_one", "_law_other"]) fun _ _ _ _ _ _ => byL2 fun _ _ => rfl
  have F22 := fun_mk (st := s_dot) l22 g22 k22
  have b22 := F22.binds (ps := ["_law_one", "_law_other"]) fun _ _ _ _ _ _ => byL2 fun _ _ => rfl
  have F23 := fun_mk (st := s_rows) l23 g23 k23
  have b23 := F23.binds (ps := ["_law_script", "_law_start", "_law_way", "_law_great"]) fun _ _ _ _ _ _ => byL4 fun _ _ _ _ => rfl
  have F24 := fun_mk (st := s_form) l24 g24 k24
  have b24 := F24.binds (ps := ["_law_rows_here", "_law_times_here"]) fun _ _ _ _ _ _ => byL2 fun _ _ => rfl
  have F25 := fun_mk (st := s_spot) l25 g25 k25
  have b25 := F25.binds (ps := ["_law_rows_here", "_law_s", "_law_t"]) fun _ _ _ _ _ _ => byL3 fun _ _ _ => rfl
  have F26 := fun_mk (st := s_worth) l26 g26 k26
  have b26 := F26.binds (ps := ["_law_form_here", "_law_spot_here"]) fun _ _ _ _ _ _ => byL2 fun _ _ => rfl
  have F27 := fun_mk (st := s_cross) l27 g27 k27
  have b27 := F27.binds (ps := ["_law_form_here", "_law_one", "_law_other"]) fun _ _ _ _ _ _ => byL3 fun _ _ _ => rfl
  have F28 := fun_mk (st := s_is_spot) l28 g28 k28
  have b28 := F28.binds (ps := ["_law_found"]) fun _ _ _ _ _ _ => byL1 fun _ => rfl
  have F29 := fun_mk (st := s_times) l29 g29 k29
  have b29 := F29.binds (ps := ["_law_cell"]) fun _ _ _ _ _ _ => byL1 fun _ => rfl
  have F30 := fun_mk (st := s_pair) l30 g30 k30
  have b30 := F30.binds (ps := ["_law_one", "_law_other", "_law_way"]) fun _ _ _ _ _ _ => byL3 fun _ _ _ => rfl
  have F31 := fun_mk (st := s_root) l31 g31 k31
  have b31 := F31.binds (ps := ["_law_number"]) fun _ _ _ _ _ _ => byL1 fun _ => rfl
  have F32 := fun_mk (st := s_many) l32 g32 k32
  have b32 := F32.binds (ps := ["_law_form_here", "_law_line"]) fun _ _ _ _ _ _ => byL2 fun _ _ => rfl
  have F33 := fun_mk (st := s_right) l33 g33 k33
  have b33 := F33.binds (ps := ["_law_found", "_law_form_here", "_law_line"]) fun _ _ _ _ _ _ => byL3 fun _ _ _ => rfl
  have F34 := fun_mk (st := s_squares) l34 g34 k34
  have b34 := F34.binds (ps := ["_law_rows_here", "_law_number"]) fun _ _ _ _ _ _ => byL2 fun _ _ => rfl
  have F35 := fun_mk (st := s_slope) l35 g35 k35
  have b35 := F35.binds (ps := ["_law_form_here", "_law_spot_here"]) fun _ _ _ _ _ _ => byL2 fun _ _ => rfl
  have F36 := fun_mk (st := s_law) l36 g36 k36
  refine ⟨PySem.W.fnOf "law" "law" (defArgs s_law) (defBody s_law) (defScope s_law) .none kV36 dc36 pm36 an36 cd36 ct36, fun s v => .of_eq rfl, fun base _ _ => ?_⟩
  have H_row_less : Has l.prog w K mg base CX0 1 "row_less" ["row", "taken", "times"] (spRow) := ⟨f1, _, ok_row_less F1 T , b1, k1, PySem.W.mg_of X G a1⟩
  have H_shares_of : Has l.prog w K mg base CX0 2 "shares_of" ["one", "other"] (spShares) := ⟨f2, _, ok_shares_of F2 T H_row_less, b2, k2, PySem.W.mg_of X G a2⟩
  have H_slopes_of : Has l.prog w K mg base CX0 1 "slopes_of" ["Q"] (spSl) := ⟨f3, _, ok_slopes_of F3 T , b3, k3, PySem.W.mg_of X G a3⟩
  have H_size_of : Has l.prog w K mg base CX0 1 "size_of" ["Q"] (spSize) := ⟨f4, _, ok_size_of F4 T , b4, k4, PySem.W.mg_of X G a4⟩
  have H_crossing_of : Has l.prog w K mg base CX0 1 "crossing_of" ["one", "other"] (spCrK K) := ⟨f5, _, ok_crossing_of F5 T , b5, k5, PySem.W.mg_of X G a5⟩
  have H_stretched : Has l.prog w K mg base CX0 1 "stretched" ["P", "times"] (spStr K) := ⟨f6, _, ok_stretched F6 T , b6, k6, PySem.W.mg_of X G a6⟩
  have H_refuse_flat : Has l.prog w K mg base CX0 2 "refuse_flat" ["Q"] (spFlat) := ⟨f7, _, ok_refuse_flat F7 T H_size_of, b7, k7, PySem.W.mg_of X G a7⟩
  have H_row_product : Has l.prog w K mg base CX0 1 "row_product" ["row", "P"] (spRpK K) := ⟨f8, _, ok_row_product F8 T , b8, k8, PySem.W.mg_of X G a8⟩
  have H_turned_by : Has l.prog w K mg base CX0 2 "turned_by" ["table", "P"] (spTbK K) := ⟨f9, _, ok_turned_by F9 T H_row_product, b9, k9, PySem.W.mg_of X G a9⟩
  have H_worth_of : Has l.prog w K mg base CX0 1 "worth_of" ["Q", "P"] (spWoK K) := ⟨f10, _, ok_worth_of F10 T , b10, k10, PySem.W.mg_of X G a10⟩
  have H_added : Has l.prog w K mg base CX0 1 "added" ["one", "other"] (spAddK K) := ⟨f11, _, ok_added F11 T , b11, k11, PySem.W.mg_of X G a11⟩
  have H_lowest_point : Has l.prog w K mg base CX0 3 "lowest_point" ["P"] (spLowS K) := ⟨f12, _, ok_lowest_point F12 T H_shares_of, b12, k12, PySem.W.mg_of X G a12⟩
  have H_above_root : Has l.prog w K mg base CX0 1 "above_root" ["number"] (spAbove) := ⟨f13, _, ok_above_root F13 T , b13, k13, PySem.W.mg_of X G a13⟩
  have H_root_of : Has l.prog w K mg base CX0 2 "root_of" ["number"] (spRootF) := ⟨f14, _, ok_root_of F14 T H_above_root, b14, k14, PySem.W.mg_of X G a14⟩
  have H_off_curve : Has l.prog w K mg base CX0 2 "off_curve" ["Q", "points"] (spOff K) := ⟨f15, _, ok_off_curve F15 T H_added H_worth_of, b15, k15, PySem.W.mg_of X G a15⟩
  have H_corners_on : Has l.prog w K mg base CX0 4 "corners_on" ["Q", "line"] (spCorL) := ⟨f16, _, ok_corners_on F16 T H_crossing_of H_off_curve H_lowest_point H_slopes_of H_turned_by, b16, k16, PySem.W.mg_of X G a16⟩
  have H_line_met : Has l.prog w K mg base CX0 5 "line_met" ["Q", "line"] (spMet) := ⟨f17, _, ok_line_met F17 T H_refuse_flat H_corners_on H_worth_of H_root_of H_stretched H_added H_lowest_point, b17, k17, PySem.W.mg_of X G a17⟩
  have H_cell_at : Has l.prog w K mg base CX0 1 "_law_cell_at" ["_law_script", "_law_k"] (spCell K) := ⟨f18, _, ok_cell_at F18 T , b18, k18, PySem.W.mg_of X G a18⟩
  have H_shared : Has l.prog w K mg base CX0 1 "_law_shared" ["_law_numbers"] (spShared) := ⟨f19, _, ok_shared F19 T , b19, k19, PySem.W.mg_of X G a19⟩
  have H_lowest : Has l.prog w K mg base CX0 2 "_law_lowest" ["_law_numbers"] (spLow) := ⟨f20, _, ok_lowest F20 T H_shared, b20, k20, PySem.W.mg_of X G a20⟩
  have H_beside : Has l.prog w K mg base CX0 1 "_law_beside" ["_law_one", "_law_other"] (spCr) := ⟨f21, _, ok_beside F21 T , b21, k21, PySem.W.mg_of X G a21⟩
  have H_dot : Has l.prog w K mg base CX0 1 "_law_dot" ["_law_one", "_law_other"] (spRp) := ⟨f22, _, ok_dot F22 T , b22, k22, PySem.W.mg_of X G a22⟩
  have H_rows : Has l.prog w K mg base CX0 2 "_law_rows" ["_law_script", "_law_start", "_law_way", "_law_great"] (spRows K) := ⟨f23, _, ok_rows F23 T H_cell_at H_dot H_beside, b23, k23, PySem.W.mg_of X G a23⟩
  have H_form : Has l.prog w K mg base CX0 1 "_law_form" ["_law_rows_here", "_law_times_here"] (spForm) := ⟨f24, _, ok_form F24 T , b24, k24, PySem.W.mg_of X G a24⟩
  have H_spot : Has l.prog w K mg base CX0 3 "_law_spot" ["_law_rows_here", "_law_s", "_law_t"] (spSpot) := ⟨f25, _, ok_spot F25 T H_beside H_lowest, b25, k25, PySem.W.mg_of X G a25⟩
  have H_worth : Has l.prog w K mg base CX0 1 "_law_worth" ["_law_form_here", "_law_spot_here"] (spLw) := ⟨f26, _, ok_worth F26 T , b26, k26, PySem.W.mg_of X G a26⟩
  have H_cross : Has l.prog w K mg base CX0 2 "_law_cross" ["_law_form_here", "_law_one", "_law_other"] (spCross) := ⟨f27, _, ok_cross F27 T H_worth, b27, k27, PySem.W.mg_of X G a27⟩
  have H_is_spot : Has l.prog w K mg base CX0 3 "_law_is_spot" ["_law_found"] (spIsSpot) := ⟨f28, _, ok_is_spot F28 T H_lowest, b28, k28, PySem.W.mg_of X G a28⟩
  have H_times : Has l.prog w K mg base CX0 1 "_law_times" ["_law_cell"] (spTimes) := ⟨f29, _, ok_times F29 T , b29, k29, PySem.W.mg_of X G a29⟩
  have H_pair : Has l.prog w K mg base CX0 1 "_law_pair" ["_law_one", "_law_other", "_law_way"] (spPair) := ⟨f30, _, ok_pair F30 T , b30, k30, PySem.W.mg_of X G a30⟩
  have H_root : Has l.prog w K mg base CX0 1 "_law_root" ["_law_number"] (spLRoot) := ⟨f31, _, ok_root F31 T , b31, k31, PySem.W.mg_of X G a31⟩
  have H_many : Has l.prog w K mg base CX0 3 "_law_many" ["_law_form_here", "_law_line"] (spMany) := ⟨f32, _, ok_many F32 T H_beside H_worth H_cross H_root, b32, k32, PySem.W.mg_of X G a32⟩
  have H_right : Has l.prog w K mg base CX0 4 "_law_right" ["_law_found", "_law_form_here", "_law_line"] (spRight) := ⟨f33, _, ok_right F33 T H_many H_is_spot H_dot H_worth, b33, k33, PySem.W.mg_of X G a33⟩
  have H_squares : Has l.prog w K mg base CX0 1 "_law_squares" ["_law_rows_here", "_law_number"] (spSqs) := ⟨f34, _, ok_squares F34 T , b34, k34, PySem.W.mg_of X G a34⟩
  have H_slope : Has l.prog w K mg base CX0 1 "_law_slope" ["_law_form_here", "_law_spot_here"] (spSlope) := ⟨f35, _, ok_slope F35 T , b35, k35, PySem.W.mg_of X G a35⟩
  exact ok_law F36 T H_cell_at H_rows H_form H_times H_pair H_spot H_beside H_slope H_squares H_line_met H_right
theorem walk {l : PySem.W.OpenLaw} {q : Program} {loose : List Str} {XP : (Str → Option Value) → Heap → Prop} {YP : World → Heap → Prop} {d : DefRec} {K : Params → PySem.W.Frag} (hn : l.most = some 63) (hdf : d.params.defaults = [])
    (hY : ∀ (w : World) (h : Heap), YP w h → (K w.params).In h)
    (F : ∀ (w : World) (mg : Str → Option Value) (fa : Addr) (h : Heap), (K w.params).In h → h.Ns mainGlobals mg → mg d.name = some (.ref fa) →
      ∃ fd : FuncData, (∀ (s : Shared) (u : Value), BindsTo s fd ⟨[u], []⟩ [("_law_script", u)]) ∧ ∀ base : Heap, (K w.params).In base → base.Ns mainGlobals mg → FnOk l.prog w (K w.params) mg base CX0 6 fa fd ["_law_script"] (spLaw (K w.params))) :
    PySem.W.WalkO q loose XP YP l.row.toRowW d [] (fun f vs => PySem.call f vs) :=
  L2.walk_b (n := 63) (k := 6) (x := "_law_script") (CX := fun _ => CX0) (sp := fun w => spLaw (K w.params)) hn (by decide) hdf ⟨rfl, by decide, by decide⟩ hY F (fun _ _ a ns hl hb hS => ⟨a, ns, rfl, hS, hl, hb, fun _ => rfl⟩) fun _ _ _ _ _ z => z
end K55
def PySem.W.Fast.tw11993868263536409716 : Unit := ()
def PySem.W.Fast.tw12796928356409490006 : Unit := ()
def PySem.W.Fast.tw9093968400987858171 : Unit := ()
def PySem.W.Fast.tw13773940323128417611 : Unit := ()
def PySem.W.Fast.tw12902904370663439167 : Unit := ()
def PySem.W.Fast.tw14903916593820045690 : Unit := ()
def PySem.W.Fast.tw15153953097011673879 : Unit := ()
def PySem.W.Fast.tw339816704759153375 : Unit := ()
def PySem.W.Fast.tw17521743640461106429 : Unit := ()
def PySem.W.Fast.tw9755754348607877719 : Unit := ()
def PySem.W.Fast.tw13717361153694594561 : Unit := ()
def PySem.W.Fast.tw13975680902667032862 : Unit := ()
def PySem.W.Fast.tw15169501577036502476 : Unit := ()
open PySem PySem.W PyProof.Rows
set_option maxRecDepth 100000 in
set_option maxHeartbeats 0 in
theorem PySem.Challenge.cw_conicplaces_k55_lines_met_holds : PySem.Challenge.rw_conicplaces_k55_lines_met.Holds := by
  w_on; o_law; k_head; (case hw => w_witness2)
  k_fill
  refine K55.walk (l := PySem.Challenge.rw_conicplaces_k55_lines_met) rfl rfl (fun w h Y => PySem.W.kIn_of Y) ?F
  case F =>
    intro w mg fa h KX G hmg
    refine' K55.all_mk KX G hmg ?a1 ?l1 ?g1 ?k1 ?a2 ?l2 ?g2 ?k2 ?a3 ?l3 ?g3 ?k3 ?a4 ?l4 ?g4 ?k4 ?a5 ?l5 ?g5 ?k5 ?a6 ?l6 ?g6 ?k6 ?a7 ?l7 ?g7 ?k7 ?a8 ?l8 ?g8 ?k8 ?a9 ?l9 ?g9 ?k9 ?a10 ?l10 ?g10 ?k10 ?a11 ?l11 ?g11 ?k11 ?a12 ?l12 ?g12 ?k12 ?a13 ?l13 ?g13 ?k13 ?a14 ?l14 ?g14 ?k14 ?a15 ?l15 ?g15 ?k15 ?a16 ?l16 ?g16 ?k16 ?a17 ?l17 ?g17 ?k17 ?a18 ?l18 ?g18 ?k18 ?a19 ?l19 ?g19 ?k19 ?a20 ?l20 ?g20 ?k20 ?a21 ?l21 ?g21 ?k21 ?a22 ?l22 ?g22 ?k22 ?a23 ?l23 ?g23 ?k23 ?a24 ?l24 ?g24 ?k24 ?a25 ?l25 ?g25 ?k25 ?a26 ?l26 ?g26 ?k26 ?a27 ?l27 ?g27 ?k27 ?a28 ?l28 ?g28 ?k28 ?a29 ?l29 ?g29 ?k29 ?a30 ?l30 ?g30 ?k30 ?a31 ?l31 ?g31 ?k31 ?a32 ?l32 ?g32 ?k32 ?a33 ?l33 ?g33 ?k33 ?a34 ?l34 ?g34 ?k34 ?a35 ?l35 ?g35 ?k35 ?a36 ?l36 ?g36 ?k36 ?xm_AXES ?xk_AXES ?xk_AXES_0 ?xk_AXES_1 ?xk_AXES_2 ?xi_ib ?xz_isinstance ?xz_int ?xz_bool ?xz_len ?xz_range ?xz_tuple ?xz_all ?xz_abs ?xz_any ?xz_sum ?xz_zip ?xz_list ?xz_set ?xz_sorted
    (case a1 => k_is)
    (case l1 => k_is)
    (case g1 => k_is)
    (case k1 => k_is)
    (case a2 => k_is)
    (case l2 => k_is)
    (case g2 => k_is)
    (case k2 => k_is)
    (case a3 => k_is)
    (case l3 => k_is)
    (case g3 => k_is)
    (case k3 => k_is)
    (case a4 => k_is)
    (case l4 => k_is)
    (case g4 => k_is)
    (case k4 => k_is)
    (case a5 => k_is)
    (case l5 => k_is)
    (case g5 => k_is)
    (case k5 => k_is)
    (case a6 => k_is)
    (case l6 => k_is)
    (case g6 => k_is)
    (case k6 => k_is)
    (case a7 => k_is)
    (case l7 => k_is)
    (case g7 => k_is)
    (case k7 => k_is)
    (case a8 => k_is)
    (case l8 => k_is)
    (case g8 => k_is)
    (case k8 => k_is)
    (case a9 => k_is)
    (case l9 => k_is)
    (case g9 => k_is)
    (case k9 => k_is)
    (case a10 => k_is)
    (case l10 => k_is)
    (case g10 => k_is)
    (case k10 => k_is)
    (case a11 => k_is)
    (case l11 => k_is)
    (case g11 => k_is)
    (case k11 => k_is)
    (case a12 => k_is)
    (case l12 => k_is)
    (case g12 => k_is)
    (case k12 => k_is)
    (case a13 => k_is)
    (case l13 => k_is)
    (case g13 => k_is)
    (case k13 => k_is)
    (case a14 => k_is)
    (case l14 => k_is)
    (case g14 => k_is)
    (case k14 => k_is)
    (case a15 => k_is)
    (case l15 => k_is)
    (case g15 => k_is)
    (case k15 => k_is)
    (case a16 => k_is)
    (case l16 => k_is)
    (case g16 => k_is)
    (case k16 => k_is)
    (case a17 => k_is)
    (case l17 => k_is)
    (case g17 => k_is)
    (case k17 => k_is)
    (case a18 => k_is)
    (case l18 => k_is)
    (case g18 => k_is)
    (case k18 => k_is)
    (case a19 => k_is)
    (case l19 => k_is)
    (case g19 => k_is)
    (case k19 => k_is)
    (case a20 => k_is)
    (case l20 => k_is)
    (case g20 => k_is)
    (case k20 => k_is)
    (case a21 => k_is)
    (case l21 => k_is)
    (case g21 => k_is)
    (case k21 => k_is)
    (case a22 => k_is)
    (case l22 => k_is)
    (case g22 => k_is)
    (case k22 => k_is)
    (case a23 => k_is)
    (case l23 => k_is)
    (case g23 => k_is)
    (case k23 => k_is)
    (case a24 => k_is)
    (case l24 => k_is)
    (case g24 => k_is)
    (case k24 => k_is)
    (case a25 => k_is)
    (case l25 => k_is)
    (case g25 => k_is)
    (case k25 => k_is)
    (case a26 => k_is)
    (case l26 => k_is)
    (case g26 => k_is)
    (case k26 => k_is)
    (case a27 => k_is)
    (case l27 => k_is)
    (case g27 => k_is)
    (case k27 => k_is)
    (case a28 => k_is)
    (case l28 => k_is)
    (case g28 => k_is)
    (case k28 => k_is)
    (case a29 => k_is)
    (case l29 => k_is)
    (case g29 => k_is)
    (case k29 => k_is)
    (case a30 => k_is)
    (case l30 => k_is)
    (case g30 => k_is)
    (case k30 => k_is)
    (case a31 => k_is)
    (case l31 => k_is)
    (case g31 => k_is)
    (case k31 => k_is)
    (case a32 => k_is)
    (case l32 => k_is)
    (case g32 => k_is)
    (case k32 => k_is)
    (case a33 => k_is)
    (case l33 => k_is)
    (case g33 => k_is)
    (case k33 => k_is)
    (case a34 => k_is)
    (case l34 => k_is)
    (case g34 => k_is)
    (case k34 => k_is)
    (case a35 => k_is)
    (case l35 => k_is)
    (case g35 => k_is)
    (case k35 => k_is)
    (case a36 => k_is)
    (case l36 => k_is)
    (case g36 => k_is)
    (case k36 => k_is)
    (case xm_AXES => k_is)
    (case xk_AXES => k_is)
    (case xk_AXES_0 => k_is)
    (case xk_AXES_1 => k_is)
    (case xk_AXES_2 => k_is)
    (case xi_ib => kernel_rfl)
    (case xz_isinstance => k_is)
    (case xz_int => k_is)
    (case xz_bool => k_is)
    (case xz_len => k_is)
    (case xz_range => k_is)
    (case xz_tuple => k_is)
    (case xz_all => k_is)
    (case xz_abs => k_is)
    (case xz_any => k_is)
    (case xz_sum => k_is)
    (case xz_zip => k_is)
    (case xz_list => k_is)
    (case xz_set => k_is)
    (case xz_sorted => k_is)
