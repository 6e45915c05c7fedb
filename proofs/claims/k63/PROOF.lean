import PyProof.Rows.All
import KE.KIntText
import KE.KxAffix
import KE.KxText
import PyProof.FString
import PyProof.ListRange
import PyProof.Rows.CatFin
import PyProof.Rows.StrClose5
import PyProof.Rows.StrJoinMade
import PyProof.Rows.StrSplitCount
import PyProof.Rows.StrWeight2
import PyProof.SliceStr2
import PyProof.StrBlockI
import PyProof.StrBlockL
import PyProof.StrCalls
import PyProof.StrCalls2
import PyProof.StrLawsChain
import PyProof.StrLoop
import PyProof.StrWalks
import KE.KTabLook
import PyProof.StrBlock2
import Wide.All
import OpenK.AllK
import Wide.FinOn
import Lean
import PyProof.EqAt
import PyProof.EqKinds
import PyProof.TupleCall
import PyProof.CompFree
import PyProof.ConsumeWalk
import PyProof.CompMap
import KE.IntBitsLaws
import KE.KDictSum
import PyProof.Rows.EqDataRows
import PyProof.Rows.SortWalk
import KE.KLcPair
import PyProof.Cells
import PyProof.SumAny
import PyProof.ZipIter
import PyProof.EnumIter
import PyProof.Rows.ZipGen
import PyProof.Rows.FactsT2
import PyProof.WalkInts
import PyProof.SeqI3
import KE.KEqSeq
import PyProof.Rows.Range3
import PyProof.Rows.ChunkLeaf
import PyProof.InstStoreFacts
import PyProof.ExcClass3
import PyProof.ExcInit
import PyProof.Rows.InDataRows
import PySem.Challenge.RW_conicplaces_k63_curves_by_names
set_option Elab.async false
set_option linter.all false
set_option maxRecDepth 100000
set_option maxHeartbeats 4000000
namespace L2
open PySem PySem.Spec PyProof.Rows
def Still (A : Around) (h : Heap) : Prop := A.handled = none ∨ ∃ (e : Addr) (o : Obj) (vs : Array Value), A.handled = some (.ref e) ∧ h.get? e = some o ∧ o.data = .fields vs ∧ vs[2]? = some .none
theorem Still.mono {A : Around} {h h' : Heap} (S : Still A h) (k : ∀ e o, A.handled = some (.ref e) → h.get? e = some o → h'.get? e = some o) : Still A h' := by
  rcases S with z | ⟨e, o, vs, hh, he, r⟩
  · exact .inl z
  · exact .inr ⟨e, o, vs, hh, k e o hh he, r⟩
theorem Still.in1 {A : Around} {h : Heap} (S : Still A h) : Still A.in1 h := S
theorem plain_unchain : plainId "proto.unchain" = true := by decide +kernel
theorem entry_unchain : entryFor table "proto.unchain" = some Builtin.«proto.unchain» := entryFor_of_tree (by kernel_rfl)
section
variable {P : Program} {w : World} {A : Around} {E : Value → Shared → Prop} {s : Shared}
theorem raiseNew_still {α : Type} {x : Addr} {ox : Obj} {vx : Array Value} {Q : α → Shared → Prop} (S : Still A s.heap) (hx : s.heap.get? x = some ox) (hd : ox.data = .fields vx) (sz : 2 < vx.size) (nx : A.handled ≠ some (.ref x))
    (q : ∀ h' o', Heap.SameBut x s.heap h' → h'.get? x = some o' → o'.cls = ox.cls → E (.ref x) { s with heap := h' }) : wpAny (model P w) A (raiseNew (.ref x) : Sem α) Q E s := by
  simp only [raiseNew]
  refine wpAny_bind (wpAny_handled ?_)
  rcases S with hn | ⟨e, o, vs, hh, he, hdo, h2⟩
  · rw [hn]
    exact wpAny_bind (wpAny_pure (wpAny_throw (q s.heap ox (Heap.SameBut.refl _ _) hx rfl)))
  · rw [hh] at nx ⊢
    have ne : e ≠ x := fun z => nx (by rw [z])
    have nb : (Value.ref e != Value.ref x) = true := by
      simp [ne]
    simp only [nb, if_true]
    refine wpAny_bind (wpAny_holding (wpAny_runValue (codeAny_builtin entry_unchain ?_)))
    rw [Around.under_plainId plain_unchain _]
    show wpAny _ _ (field (.ref e) 2 >>= _) _ _ s
    refine wpAny_bind (wpAny_field he hdo (x := .none) h2 ?_)
    simp only [beq_self_eq_true, if_true]
    refine wpAny_pure ?_
    show wpAny _ _ (updateField x 2 (.ref e) >>= _) _ _ s
    refine wpAny_bind ?_
    unfold updateField
    refine wpAny_bind (wpAny_load hx ?_)
    rw [hd]
    simp only [sz, if_true]
    refine wpAny_update hx (wpAny_throw (q _ _ (Heap.SameBut.update ..) (Heap.get?_update_self _ hx (Obj.isFreed_of_fields (Obj.data_mapFields hd _))) (Obj.cls_mapFields ..)))
theorem Still.ne_new {A : Around} {h : Heap} (S : Still A h) {x : Addr} (hx : h.objs.size ≤ x) : A.handled ≠ some (.ref x) := by
  rcases S with z | ⟨e, o, vs, hh, he, _⟩
  · rw [z]
    intro c
    cases c
  · rw [hh]
    intro c
    cases c
    exact Nat.not_lt.mpr hx (Heap.lt_size he)
theorem stop_still {α : Type} {Q : α → Shared → Prop} (S : Still A s.heap) (q : ∀ h' e, (∀ b o, s.heap.get? b = some o → h'.get? b = some o) → (∃ o, h'.get? e = some o ∧ o.cls = .type "StopIteration") → E (.ref e) { s with heap := h' }) :
    wpAny (model P w) A (newExc (.type "StopIteration") ([] : List Value) >>= fun e => (raiseNew e : Sem α)) Q E s := by
  refine wpAny_bind ?_
  simp only [newExc, newTuple]
  refine wpAny_bind (wpAny_newObj_type ?_ (by size_fits)); refine wpAny_bind (m := firstArgMember _ _) (wpAny_of_eq (a := Value.none) (by first | rfl | (simp only [firstArgMember]; rfl)) ?_)
  refine wpAny_newObj_type ?_ (by size_fits)
  have up : ∀ (a b : Obj) c o, s.heap.get? c = some o → ((s.heap.push a).push b).get? c = some o := fun a b c o e => Heap.get?_push_of_some _ (Heap.get?_push_of_some _ e)
  refine raiseNew_still (S.mono fun e o _ h => up _ _ e o h) (Heap.get?_push_size _ rfl) rfl (by simp <;> omega) (S.ne_new (by simp only [Heap.size_push]; exact Nat.le_succ _)) fun h' o' sb ho hc => ?_
  refine q h' _ (fun b o e => ?_) ⟨o', ho, hc⟩
  have lt := Heap.lt_size e
  rw [sb.2 b (fun z => by rw [z] at lt; simp only [Heap.size_push] at lt; exact Nat.not_lt.mpr (Nat.le_succ _) lt)]
  exact up _ _ b o e
theorem list_end_still {it l : Addr} {i : Nat} {items : Array Value} {Q : Option Value → Shared → Prop} (S : Still A s.heap) (ni : A.handled ≠ some (.ref it)) (hit : s.heap.IsListIter it l i) (hl : s.heap.IsList l items) (hx : items[i]? = none)
    (q : ∀ h', Heap.ExtBut it s.heap h' → Q none { s with heap := h' }) : wpAny (model P w) A (pyNext (.ref it)) Q E s := by
  obtain ⟨o, ho, hc, hd⟩ := id hit
  obtain ⟨ol, hol, _, nl, hdl⟩ := hl
  unfold pyNext
  refine wpAny_bind (wpAny_attempt (wpAny_callSpecial?_slot (name := Str.ofString "__next__") hit.typeIs slot_listiter_next (wpAny_call_entry slot_listiter_next hit.typeIs entry_listiter_next ?_ (args_listiter_next _))))
  show wpAny _ _ (field (.ref it) 0 >>= _) _ _ s
  refine wpAny_bind (wpAny_field ho hd (x := .ref l) rfl ?_)
  show wpAny _ _ (if (Value.ref l == Value.none) = true then _ else _) _ _ s
  rw [if_neg (show ¬ ((Value.ref l == Value.none) = true) from Bool.false_ne_true)]
  show wpAny _ _ (field (.ref it) 1 >>= _) _ _ s
  refine wpAny_bind (wpAny_field ho hd (x := .int i 0) rfl (wpAny_bind (wpAny_seqItems hol hdl ?_)))
  simp only [Int.toNat_natCast, hx]
  refine wpAny_bind (wpAny_rule (wpAny_bind (wpAny_setField ho hd (by simp) ?_)))
  refine stop_still (A := A.in1) (S.in1.mono fun e o' hh h => ?_) fun h' e k he => ?_
  · exact (Heap.SameBut.update ..).extBut _ _ (fun z => ni (by rw [← z]; exact hh)) h
  · obtain ⟨oe, e1, e2⟩ := he
    refine wpAny_bind (wpAny_isInstance (T := "StopIteration") (b := true) ⟨oe, e1, e2⟩ isSubtype_stop ?_)
    exact wpAny_pure (q _ fun b o' nb h => k _ _ ((Heap.SameBut.update ..).extBut _ _ nb h))
theorem tuple_end_still {it l : Addr} {i : Nat} {items : Array Value} {Q : Option Value → Shared → Prop} (S : Still A s.heap) (ni : A.handled ≠ some (.ref it)) (hit : s.heap.IsTupleIter it l i) (hl : s.heap.IsTuple l items) (hx : items[i]? = none)
    (q : ∀ h', Heap.ExtBut it s.heap h' → Q none { s with heap := h' }) : wpAny (model P w) A (pyNext (.ref it)) Q E s := by
  obtain ⟨o, ho, hc, hd⟩ := id hit
  obtain ⟨ol, hol, _, nl, hdl⟩ := hl
  unfold pyNext
  refine wpAny_bind (wpAny_attempt (wpAny_callSpecial?_slot (name := Str.ofString "__next__") hit.typeIs F.slot_tuple_iterator_next (wpAny_call_entry F.slot_tuple_iterator_next hit.typeIs F.entry_tuple_iterator_next ?_ (F.args_tuple_iterator_next_1 _))))
  show wpAny _ _ (field (.ref it) 0 >>= _) _ _ s
  refine wpAny_bind (wpAny_field ho hd (x := .ref l) rfl ?_)
  show wpAny _ _ (if (Value.ref l == Value.none) = true then _ else _) _ _ s
  rw [if_neg (show ¬ ((Value.ref l == Value.none) = true) from Bool.false_ne_true)]
  show wpAny _ _ (field (.ref it) 1 >>= _) _ _ s
  refine wpAny_bind (wpAny_field ho hd (x := .int i 0) rfl (wpAny_bind (wpAny_seqItems hol hdl ?_)))
  simp only [Int.toNat_natCast, hx]
  refine wpAny_bind (wpAny_rule (wpAny_bind (wpAny_setField ho hd (by simp) ?_)))
  refine stop_still (A := A.in1) (S.in1.mono fun e o' hh h => ?_) fun h' e k he => ?_
  · exact (Heap.SameBut.update ..).extBut _ _ (fun z => ni (by rw [← z]; exact hh)) h
  · obtain ⟨oe, e1, e2⟩ := he
    refine wpAny_bind (wpAny_isInstance (T := "StopIteration") (b := true) ⟨oe, e1, e2⟩ isSubtype_stop ?_)
    exact wpAny_pure (q _ fun b o' nb h => k _ _ ((Heap.SameBut.update ..).extBut _ _ nb h))
theorem range_end_still {it : Addr} {x left step : Int} {Q : Option Value → Shared → Prop} (S : Still A s.heap) (hit : IsRangeIter s.heap it x left step) (hleft : left ≤ 0)
    (q : ∀ h', Heap.ExtBut it s.heap h' → Q none { s with heap := h' }) : wpAny (model P w) A (pyNext (.ref it)) Q E s := by
  have hT : s.TypeIs (.ref it) "range_iterator" := ⟨_, hit, rfl⟩
  unfold pyNext
  refine wpAny_bind (wpAny_attempt (wpAny_callSpecial?_slot (name := Str.ofString "__next__") hT F.slot_range_iterator_next (wpAny_call_entry F.slot_range_iterator_next hT F.entry_range_iterator_next ?_ (F.args_range_iterator_next_1 _))))
  show wpAny _ _ (field (.ref it) 0 >>= _) _ _ s
  refine wpAny_bind (wpAny_field hit rfl (x := rawInt x) rfl ?_)
  show wpAny _ _ (field (.ref it) 1 >>= _) _ _ s
  refine wpAny_bind (wpAny_field hit rfl (x := rawInt left) rfl ?_)
  show wpAny _ _ (field (.ref it) 2 >>= _) _ _ s
  refine wpAny_bind (wpAny_field hit rfl (x := rawInt step) rfl ?_)
  show wpAny _ _ (if left ≤ 0 then _ else _) _ _ s
  rw [if_pos hleft]
  refine wpAny_bind (wpAny_rule ?_)
  refine wpAny_bind ?_
  refine stop_still (A := A.in1) S.in1 fun h' e k he => ?_
  obtain ⟨oe, e1, e2⟩ := he
  refine wpAny_bind (wpAny_isInstance (T := "StopIteration") (b := true) ⟨oe, e1, e2⟩ isSubtype_stop ?_)
  exact wpAny_pure (q _ fun b o' _ h => k _ _ h)
theorem tnext_end_still {j a : Addr} {i : Nat} {us : Array Value} {Q : Value → Shared → Prop} (S : Still A s.heap) (nj : A.handled ≠ some (.ref j)) (g0 : s.heap.IsTupleIter j a i) (g1 : s.heap.IsTuple a us) (ex : us[i]? = none)
    (q : ∀ h' e, Heap.ExtBut j s.heap h' → (∃ o, h'.get? e = some o ∧ o.cls = .type "StopIteration") → E (.ref e) { s with heap := h' }) : wpAny (model P w) A (Builtin.SmallTypes.nextOf (.ref j)) Q E s := by
  obtain ⟨o1, k1, k2, k3⟩ := id g0
  obtain ⟨o2, k4, _, n2, k5⟩ := g1
  unfold Builtin.SmallTypes.nextOf
  refine wpAny_bind (wpAny_callSpecial?_slot (name := Str.ofString "__next__") g0.typeIs F.slot_tuple_iterator_next (wpAny_call_entry F.slot_tuple_iterator_next g0.typeIs F.entry_tuple_iterator_next ?_ (F.args_tuple_iterator_next_1 _)))
  show wpAny _ _ (field (.ref j) 0 >>= _) _ _ s
  refine wpAny_bind (wpAny_field k1 k3 (x := .ref a) rfl ?_)
  show wpAny _ _ (if (Value.ref a == Value.none) = true then _ else _) _ _ s
  rw [if_neg (show ¬ ((Value.ref a == Value.none) = true) from Bool.false_ne_true)]
  show wpAny _ _ (field (.ref j) 1 >>= _) _ _ s
  refine wpAny_bind (wpAny_field k1 k3 (x := .int i 0) rfl (wpAny_bind (wpAny_seqItems k4 k5 ?_)))
  simp only [Int.toNat_natCast, ex]
  refine wpAny_bind (wpAny_rule (wpAny_bind (wpAny_setField k1 k3 (by simp) ?_)))
  refine stop_still (A := A.in1) (S.in1.mono fun e o' hh h => ?_) fun h' e k he => ?_
  · exact (Heap.SameBut.update ..).extBut _ _ (fun z => nj (by rw [← z]; exact hh)) h
  · exact q h' e (fun b o' nb h => k _ _ ((Heap.SameBut.update ..).extBut _ _ nb h)) he
theorem unpackItems_still {t : Addr} {items : Array Value} {Q : List Value → Shared → Prop} (S : Still A s.heap) (ht : IsTup s.heap t items)
    (q : ∀ h', Heap.ExtBut s.heap.objs.size s.heap h' → Q items.toList { s with heap := h' }) : wpAny (model P w) A (unpackItems (.ref t) items.size none) Q E s := by
  have hlt : t ≠ s.heap.objs.size := by obtain ⟨o, ho, _⟩ := ht; exact Nat.ne_of_lt (Heap.lt_size ho)
  unfold unpackItems
  refine wpAny_bind ?_
  unfold notIterableAtAll
  refine wpAny_bind (wpAny_specialOf ht.typeIs slot_tuple_iter.lookup (wpAny_pure ?_))
  simp only [Bool.false_eq_true, if_false]
  refine wpAny_bind (wpAny_holding (iter_tuple ht ?_))
  refine wpAny_bind (wpAny_holding (draw_tuple hlt items.size 0 _ _ ⟨_, Heap.get?_push_size _ rfl, rfl, rfl⟩ (ht.push _) (by omega) fun h₁ hit₁ hs₁ => ?_))
  rw [show List.take items.size (List.drop 0 items.toList) = items.toList from by rw [List.drop_zero]; exact List.take_of_length_le (by simp), if_neg (by simp)]
  have ht₁ : IsTup h₁ t items := (ht.push _).extBut hs₁.extBut hlt
  have nn := S.ne_new (Nat.le_refl _)
  have S1 : Still A h₁ := S.mono fun e o hh he => hs₁.extBut _ _ (fun z => nn (by rw [← z]; exact hh)) (Heap.get?_push_of_some _ he)
  refine wpAny_bind (wpAny_holding (tuple_end_still S1 nn hit₁ (show h₁.IsTuple t items from ht₁) (by simp) fun h₂ he₂ => ?_))
  simp only [Option.isSome_none, Bool.false_eq_true, if_false]
  exact wpAny_pure (q h₂ fun b o hb e => he₂ b o hb (hs₁.extBut b o hb (Heap.get?_push_of_some _ e)))
theorem assign_Tuple_still {env : Env} {elts : List Expr} {x1} {pos : Pos} {t : Addr} {items : Array Value} {Q : Unit → Shared → Prop} (S : Still A s.heap) (ht : IsTup s.heap t items)
    (hn : (assignEach elts env).length = items.size) (hstar : (assignEach elts env).findIdx? (·.1) = none)
    (h : ∀ h', Heap.ExtBut s.heap.objs.size s.heap h' → wpAny (model P w) A (assignInOrder ((assignEach elts env).map (·.2)) items.toList) Q E { s with heap := h' }) :
    wpAny (model P w) A (assign (.Tuple elts x1 pos) env (.ref t)) Q E s := by
  rw [assign_Tuple]
  refine wpAny_bind (wpAny_standAt ?_)
  unfold unpack
  rw [hn, hstar]
  exact wpAny_bind (wpAny_holding (unpackItems_still S ht h))
end
theorem walks_list_still {P : Program} {w : World} {A : Around} {e : Addr} {o : Obj} {vs : Array Value} (hh : A.handled = some (.ref e)) (hd : o.data = .fields vs) (h2 : vs[2]? = some .none) (I ax : Addr) (hne : ax ≠ I) (nI : e ≠ I) (items : Array Value) :
    Walks P w A I [I, ax, e] [I] items.size (fun i v => items[i]? = some v) (fun i h => h.IsListIter I ax i ∧ h.IsList ax items ∧ h.get? e = some o) where
  sub := fun b hb => by simp at hb; simp [hb]
  frame := fun _ _ _ st hk => ⟨st.1.at fun o e => hk I (by simp) o e, st.2.1.at fun o e => hk ax (by simp) o e, hk e (by simp) _ st.2.2⟩
  item := fun i s Q E hi st q => by
    refine wpAny_pyNext_list_item st.1 st.2.1 (x := items[i]) (by simp [hi]) fun h' hit' hs' => ?_
    exact q _ h' s.toks (by simp [hi]) ⟨hit', st.2.1.extBut hs'.extBut hne, hs'.extBut _ _ nI st.2.2⟩ fun b o hb e => hs'.extBut b o (fun h => hb (by simp [h])) e
  done := fun s Q E st q => list_end_still (.inr ⟨e, o, vs, hh, st.2.2, hd, h2⟩) (by rw [hh]; intro c; cases c; exact nI rfl) st.1 st.2.1 (by simp) fun h' he' => q h' s.toks fun b o hb e => he' b o (fun h => hb (by simp [h])) e
  self := fun _ _ _ _ st q => wpAny_pyIter_listiter st.1 q
theorem walks_list_any {P : Program} {w : World} {A : Around} {h0 : Heap} (S : Still A h0) (I ax : Addr) (hne : ax ≠ I) (nI : A.handled ≠ some (.ref I)) (items : Array Value) :
    ∃ (fp : List Addr) (st : Nat → Heap → Prop), Walks P w A I fp [I] items.size (fun i v => items[i]? = some v) st ∧ (∀ h, h.IsListIter I ax 0 → h.IsList ax items → (∀ b o, h0.get? b = some o → h.get? b = some o) → st 0 h) ∧
      ∀ b ∈ fp, b = I ∨ b = ax ∨ ∃ o, h0.get? b = some o := by
  rcases S with z | ⟨e, o, vs, hh, he, hd, h2⟩
  · exact ⟨_, _, Walks.list z I ax hne items, fun h a b _ => ⟨a, b⟩, fun b hb => by
      have : b = I ∨ b = ax := by simpa using hb
      rcases this with r | r
      · exact .inl r
      · exact .inr (.inl r)⟩
  · refine ⟨_, _, walks_list_still hh hd h2 I ax hne (fun z => nI (by rw [hh, z])) items, fun h a b k => ⟨a, b, k _ _ he⟩, fun b hb => ?_⟩
    have : b = I ∨ b = ax ∨ b = e := by simpa using hb
    rcases this with r | r | r
    · exact .inl r
    · exact .inr (.inl r)
    · exact .inr (.inr ⟨o, by rw [r]; exact he⟩)
theorem range_item_still {P : Program} {w : World} {A : Around} {E : Value → Shared → Prop} {s : Shared} {it : Addr} {a c : Int} {n i : Nat} {Q : Option Value → Shared → Prop} (hi : i < n) (st : IsRangeIter s.heap it (a + (i : Nat) * c) ((n : Int) - (i : Nat)) c)
    (q : ∀ v h' tk, (∃ t, v = .int (a + (i : Nat) * c) t) → IsRangeIter h' it (a + ((i + 1 : Nat) : Int) * c) ((n : Int) - ((i + 1 : Nat) : Int)) c → (∀ b o, b ∉ [it] → s.heap.get? b = some o → h'.get? b = some o) → Q (some v) { s with heap := h', toks := tk }) :
    wpAny (model P w) A (pyNext (.ref it)) Q E s := by
  refine wpAny_pyNext_range_item st (by omega) fun h1 it1 s1 => ?_
  refine q _ h1 _ ⟨_, rfl⟩ ?_ fun b o nb x => s1.extBut b o (fun z => nb (by simp [z])) x
  have e1 : a + ((i + 1 : Nat) : Int) * c = a + (i : Int) * c + c := by push_cast; rw [Int.add_mul, Int.one_mul, Int.add_assoc]
  have e2 : (n : Int) - ((i + 1 : Nat) : Int) = (n : Int) - (i : Int) - 1 := by push_cast; omega
  rw [e1, e2]
  exact it1
end L2

namespace L2
open PySem PySem.Spec PyProof.Rows

abbrev Key := Sum Int Str
def keyIs : Key → Value → Bool
  | .inl k, v => Value.isInt k v
  | .inr x, v => Value.isStrOf x v
def keyH (w : World) : Key → Int
  | .inl k => hashInt k
  | .inr x => hashStr w x
theorem keyIs_shape : ∀ {k : Key} {v : Value}, keyIs k v = true → (∃ i t, k = Sum.inl i ∧ v = Value.int i t) ∨ (∃ x t, k = Sum.inr x ∧ v = Value.str x t)
  | .inl i, v, h => by
    obtain ⟨t, e⟩ := Value.isInt_shape (k := i) (v := v) h
    exact .inl ⟨i, t, rfl, e⟩
  | .inr x, v, h => by
    obtain ⟨t, e⟩ := Value.isStrOf_shape (x := x) (v := v) h
    exact .inr ⟨x, t, rfl, e⟩
theorem keyIs_int (i : Int) (t : Tok) : keyIs (.inl i) (.int i t) = true := by simp [keyIs, Value.isInt]
theorem keyIs_str (x : Str) (t : Tok) : keyIs (.inr x) (.str x t) = true := by simp [keyIs, Value.isStrOf]
theorem key_ll (a b : Int) : decide ((Sum.inl a : Key) = Sum.inl b) = (a == b) := by
  by_cases e : a = b
  · subst e; simp
  · have h : ¬ (Sum.inl a : Key) = Sum.inl b := fun q => e (Sum.inl.inj q)
    rw [decide_eq_false h]
    exact (beq_eq_false_iff_ne.mpr e).symm
theorem key_rr (a b : Str) : decide ((Sum.inr a : Key) = Sum.inr b) = decide (a = b) := by
  by_cases e : a = b
  · subst e; simp
  · have h : ¬ (Sum.inr a : Key) = Sum.inr b := fun q => e (Sum.inr.inj q)
    rw [decide_eq_false h, decide_eq_false e]
theorem key_lr (a : Int) (b : Str) : decide ((Sum.inl a : Key) = Sum.inr b) = false := decide_eq_false (fun q => nomatch q)
theorem key_rl (a : Str) (b : Int) : decide ((Sum.inr a : Key) = Sum.inl b) = false := decide_eq_false (fun q => nomatch q)

def mixKind (prog : Program) (w : World) : PySem.KeyKind prog w Key where
  is := keyIs
  hash := keyH w
  inj := fun v a b ha hb => by
    rcases keyIs_shape ha with ⟨i, t, rfl, rfl⟩ | ⟨x, t, rfl, rfl⟩
    · rcases keyIs_shape hb with ⟨j, u, rfl, e⟩ | ⟨y, u, rfl, e⟩
      · injection e with e1 _; rw [e1]
      · exact nomatch e
    · rcases keyIs_shape hb with ⟨j, u, rfl, e⟩ | ⟨y, u, rfl, e⟩
      · exact nomatch e
      · injection e with e1 _; rw [e1]
  byValue := fun k v h => by
    rcases keyIs_shape h with ⟨i, t, rfl, rfl⟩ | ⟨x, t, rfl, rfl⟩ <;> rfl
  pyHash := fun hv h => by
    rcases keyIs_shape hv with ⟨i, t, rfl, rfl⟩ | ⟨x, t, rfl, rfl⟩
    · exact wpAny_pyHash_int h
    · exact wpAny_pyHash_str h
  eqBool := fun hu hv h => by
    rcases keyIs_shape hu with ⟨i, t, rfl, rfl⟩ | ⟨x, t, rfl, rfl⟩
    · rcases keyIs_shape hv with ⟨j, u, rfl, rfl⟩ | ⟨y, u, rfl, rfl⟩
      · rw [key_ll] at h; exact wpAny_eqBool_int h
      · rw [key_lr] at h; exact SeqAt.EqAt.int_str i t y u _ _ _ _ h
    · rcases keyIs_shape hv with ⟨j, u, rfl, rfl⟩ | ⟨y, u, rfl, rfl⟩
      · rw [key_rl] at h; exact SeqAt.EqAt.str_int x t j u _ _ _ _ h
      · rw [key_rr] at h; exact wpAny_eqBool_str h
  «strs» := fun k x t v h => by
    rcases keyIs_shape h with ⟨i, u, rfl, e⟩ | ⟨y, u, rfl, e⟩
    · exact nomatch e
    · injection e with e1 _
      subst e1
      cases v <;> rfl

theorem mixKind_int (prog : Program) (w : World) (i : Int) (t : Tok) : (mixKind prog w).is (.inl i) (.int i t) = true := keyIs_int i t
theorem mixKind_str (prog : Program) (w : World) (x : Str) (t : Tok) : (mixKind prog w).is (.inr x) (.str x t) = true := keyIs_str x t
end L2

namespace L2
open PySem PySem.Spec PyProof.Rows

inductive V where
  | non | bl (b : Bool) | int (i : Int) | str (x : Str) | byt (b : Array UInt8) | flt (b : UInt64) | ref (a : Addr) | ty (n : String)
  deriving DecidableEq

def RelV : V → Value → Prop
  | .non, u => u = Value.none
  | .bl b, u => u = Value.bool b
  | .int i, u => ∃ t, u = Value.int i t
  | .str x, u => ∃ t, u = Value.str x t
  | .byt b, u => ∃ t, u = Value.bytes b t
  | .flt b, u => ∃ t, u = Value.float b t
  | .ref a, u => u = Value.ref a
  | .ty n, u => u = Value.type n

abbrev Vals : List V → List Value → Prop := Paired RelV
theorem Vals.length {xs : List V} {us : List Value} (r : Vals xs us) : xs.length = us.length := Paired.length r
theorem Vals.get : ∀ {xs : List V} {us : List Value} {i : Nat} {x : V}, Vals xs us → xs[i]? = some x → ∃ u, us[i]? = some u ∧ RelV x u
  | _, _, _, _, .nil, e => by simp at e
  | _, _, 0, _, .cons r _, e => by simp at e; subst e; exact ⟨_, rfl, r⟩
  | _, _, i + 1, x, .cons _ t, e => by
    obtain ⟨u, h1, h2⟩ := Vals.get (i := i) (x := x) t (by simpa using e)
    exact ⟨u, by simpa using h1, h2⟩
theorem Vals.append : ∀ {xs ys : List V} {us ws : List Value}, Vals xs us → Vals ys ws → Vals (xs ++ ys) (us ++ ws)
  | _, _, _, _, .nil, s => s
  | _, _, _, _, .cons r t, s => .cons r (Vals.append t s)
theorem Vals.take : ∀ {xs : List V} {us : List Value} (n : Nat), Vals xs us → Vals (xs.take n) (us.take n)
  | _, _, 0, _ => .nil
  | _, _, _ + 1, .nil => .nil
  | _, _, n + 1, .cons r t => .cons r (Vals.take n t)
theorem Vals.drop : ∀ {xs : List V} {us : List Value} (n : Nat), Vals xs us → Vals (xs.drop n) (us.drop n)
  | _, _, 0, r => r
  | _, _, _ + 1, .nil => .nil
  | _, _, n + 1, .cons _ t => Vals.drop n t
theorem Vals.none_of : ∀ {xs : List V} {us : List Value} {i : Nat}, Vals xs us → xs[i]? = none → us[i]? = none := fun {xs us i} r e => by
  have h1 := r.length
  have h2 : xs.length ≤ i := List.getElem?_eq_none_iff.mp e
  exact List.getElem?_eq_none_iff.mpr (by omega)

def RelO : Option V → Option Value → Prop
  | some v, some u => RelV v u
  | none, none => True
  | _, _ => False
def KV {κ : Type} : List (κ × V) → List (κ × Value) → Prop := Paired fun (p : κ × V) (q : κ × Value) => p.1 = q.1 ∧ RelV p.2 q.2

def kV : Key → V
  | .inl i => .int i
  | .inr x => .str x

inductive HO where
  /-- a list -/
  | lst (xs : List V)
  /-- a tuple (never changes) -/
  | tup (xs : List V)
  /-- a dict whose keys are ints and texts; one whose keys are tuples of ints and texts (the empty one is both) -/
  | dK (kvs : List (Key × V)) | dT (kvs : List (List Key × V))
  /-- a set of ints: its members, its size -/
  | set (S : Int → Bool) (n : Nat)
  /-- an instance of the class at C, its dict at dx, its attributes -/
  | ins (C dx : Addr) (fs : List (Str × V))
  /-- the dict of the instance at x -/
  | own (x : Addr)
  /-- the dict of an exception -/
  | xd (fs : List (Str × V))
  /-- a bound method, f of x -/
  | met (f x : Addr)
  /-- a range object lo, lo + 1, .. below hi -/
  | rng (lo hi : Int)
  /-- a thing that is known to the object (the script; a dict while a loop walks it): read, never written while it is so -/
  | frz (o : Obj) (u : HO)
  /-- a code object's table -/
  | tbl (ps : Array Value)
  /-- any other thing, by what is true of its one object (a def of one's own: SetO a S n := HO.ext fun h => ..) -/
  | ext (φ : Heap → Prop)

abbrev Hp := Addr → Option HO
def upd (H : Hp) (a : Addr) (o : HO) : Hp := fun b => if b = a then some o else H b
theorem upd_same {H : Hp} {a : Addr} {o : HO} : upd H a o a = some o := by unfold upd; rw [if_pos rfl]
theorem upd_ne {H : Hp} {a b : Addr} {o : HO} (h : b ≠ a) : upd H a o b = H b := by unfold upd; rw [if_neg h]
theorem ne_of {H : Hp} {a b : Addr} {o u : HO} (h : H a = some o) (h' : H b = some u) (d : o ≠ u) : a ≠ b := by
  intro e; subst e; rw [h] at h'; exact d (Option.some.inj h')
theorem ne_of_none {H : Hp} {a b : Addr} {o : HO} (h : H a = some o) (h' : H b = none) : a ≠ b := by
  intro e; subst e; rw [h] at h'; cases h'

section
variable (P : Program) (w : World)
def ObjOk (H : Hp) (h : Heap) (a : Addr) : HO → Prop
  | .lst xs => xs.length ≤ sizeLine ∧ ∃ (its : List Value) (n : Nat), Vals xs its ∧ h.get? a = some { cls := .type "list", data := .seq its.toArray n }
  | .tup xs => xs.length ≤ sizeLine ∧ ∃ its : List Value, Vals xs its ∧ IsTup h a its.toArray
  | .dK kvs => kvs.length ≤ sizeLine ∧ (a == sysModules) = false ∧ ∃ vs, KV kvs vs ∧ h.DictOf (mixKind P w) a vs
  | .dT kvs => kvs.length ≤ sizeLine ∧ (a == sysModules) = false ∧ ∃ xs : List (List Key × Addr × Value),
      Paired (fun (p : List Key × V) (q : List Key × Addr × Value) => p.1 = q.1 ∧ H q.2.1 = some (.tup (p.1.map kV)) ∧ RelV p.2 q.2.2) kvs xs ∧
      ∃ o es ep, h.get? a = some o ∧ o.ExactDict ∧ o.data = .dict es ep ∧ es.toList = xs.map (entryOfKey (tupleKind (mixKind P w))) ∧ (xs.map (·.1)).Nodup
  | .set S n => h.SetOf (intKind P w) a S n
  | .ins C dx fs => H dx = some (.own a) ∧ fs.length ≤ 1000 ∧ dx ≠ a ∧ h.get? a = some (PySem.W.instObj C dx) ∧
      ∃ mA, h.Ns1 dx mA ∧ (∀ f, RelO (fs.lookup f) (mA f)) ∧ PySem.Within mA (fs.map (·.1))
  | .own _ => ∃ o, h.get? a = some o
  | .xd fs => ∃ mA, h.Ns1 a mA ∧ ∀ f, RelO (fs.lookup f) (mA f)
  | .rng lo hi => ∃ t u v, h.get? a = some { cls := .type "range", data := .fields #[.int lo t, .int hi u, .int 1 v] }
  | .frz o u => h.get? a = some o ∧ ObjOk H h a u
  | .tbl ps => h.get? a = some { cls := .none, data := .fields ps }
  | .met f x => h.get? a = some (PySem.W.methodObj (.ref f) (.ref x))
  | .ext φ => φ h ∧ (∃ o, h.get? a = some o) ∧ ∀ h1 h2 : Heap, φ h1 → (∀ o, h1.get? a = some o → h2.get? a = some o) → φ h2
def HOk (H : Hp) (h : Heap) : Prop := ∀ a o, H a = some o → ObjOk P w H h a o
end

section
variable {P : Program} {w : World} {H H' : Hp} {h h' : Heap} {a : Addr} {o : HO}
theorem ObjOk.lt (x : ObjOk P w H h a o) : a < h.objs.size := by
  cases o with
  | lst xs => obtain ⟨_, _, _, _, e⟩ := x; exact Heap.lt_size e
  | tup xs => obtain ⟨_, _, _, p⟩ := x; exact p.lt
  | dK kvs => obtain ⟨_, _, _, _, o, _, _, e, _⟩ := x; exact Heap.lt_size e
  | dT kvs => obtain ⟨_, _, _, _, o, _, _, e, _⟩ := x; exact Heap.lt_size e
  | set S n => obtain ⟨o, _, _, _, e, _⟩ := x; exact Heap.lt_size e
  | ins C dx fs => obtain ⟨_, _, _, e, _⟩ := x; exact Heap.lt_size e
  | own y => obtain ⟨_, e⟩ := x; exact Heap.lt_size e
  | xd fs => obtain ⟨_, ⟨_, _, _, e, _⟩, _⟩ := x; exact Heap.lt_size e
  | rng lo hi => obtain ⟨_, _, _, e⟩ := x; exact Heap.lt_size e
  | frz ob u => obtain ⟨e, _⟩ := x; exact Heap.lt_size e
  | tbl ps => exact Heap.lt_size (show h.get? a = some _ from x)
  | met f y => exact Heap.lt_size (show h.get? a = some _ from x)
  | ext φ => obtain ⟨_, ⟨_, e⟩, _⟩ := x; exact Heap.lt_size e
theorem Paired.mapP {α β : Type} {F G : α → β → Prop} : ∀ {l₁ : List α} {l₂ : List β}, Paired F l₁ l₂ → (∀ a b, F a b → G a b) → Paired G l₁ l₂
  | _, _, .nil, _ => .nil
  | _, _, .cons r t, f => .cons (f _ _ r) (Paired.mapP t f)
theorem ObjOk.stay (x : ObjOk P w H h a o) (k : ∀ b u, (b = a ∨ H b = some (.own a)) → h.get? b = some u → h'.get? b = some u)
    (ho : ∀ b, H b = some (.own a) → H' b = some (.own a)) (ht : ∀ b xs, H b = some (.tup xs) → H' b = some (.tup xs)) : ObjOk P w H' h' a o := by
  induction o with
  | lst xs => obtain ⟨z, its, n, r, e⟩ := x; exact ⟨z, its, n, r, k _ _ (.inl rfl) e⟩
  | tup xs => obtain ⟨z, its, r, ob, e, c⟩ := x; exact ⟨z, its, r, ob, k _ _ (.inl rfl) e, c⟩
  | dK kvs => obtain ⟨z, y, vs, r, ob, es, ep, e, c⟩ := x; exact ⟨z, y, vs, r, ob, es, ep, k _ _ (.inl rfl) e, c⟩
  | dT kvs =>
    obtain ⟨z, y, xs, r, ob, es, ep, e, c⟩ := x
    exact ⟨z, y, xs, Paired.mapP r fun p q z => ⟨z.1, ht _ _ z.2.1, z.2.2⟩, ob, es, ep, k _ _ (.inl rfl) e, c⟩
  | set S n => obtain ⟨ob, es, ep, t, e, c⟩ := x; exact ⟨ob, es, ep, t, k _ _ (.inl rfl) e, c⟩
  | ins C dx fs =>
    obtain ⟨d, z, ne, e, mA, ⟨od, es, ep, e2, c⟩, r⟩ := x
    exact ⟨ho _ d, z, ne, k _ _ (.inl rfl) e, mA, ⟨od, es, ep, k _ _ (.inr d) e2, c⟩, r⟩
  | own y => obtain ⟨ob, e⟩ := x; exact ⟨ob, k _ _ (.inl rfl) e⟩
  | xd fs => obtain ⟨mA, ⟨od, es, ep, e, c⟩, r⟩ := x; exact ⟨mA, ⟨od, es, ep, k _ _ (.inl rfl) e, c⟩, r⟩
  | rng lo hi => obtain ⟨t, u, v, e⟩ := x; exact ⟨t, u, v, k _ _ (.inl rfl) e⟩
  | frz ob u ih => obtain ⟨e, q⟩ := x; exact ⟨k _ _ (.inl rfl) e, ih q⟩
  | tbl ps =>
    have e : h.get? a = some { cls := .none, data := .fields ps } := x
    show h'.get? a = some { cls := .none, data := .fields ps }
    exact k a _ (.inl rfl) e
  | met f y =>
    have e : h.get? a = some (PySem.W.methodObj (.ref f) (.ref y)) := x
    show h'.get? a = some (PySem.W.methodObj (.ref f) (.ref y))
    exact k a _ (.inl rfl) e
  | ext φ => obtain ⟨p, ⟨o, e⟩, st⟩ := x; exact ⟨st _ _ p fun o q => k _ _ (.inl rfl) q, ⟨o, k _ _ (.inl rfl) e⟩, st⟩
theorem HOk.lt (x : HOk P w H h) (e : H a = some o) : a < h.objs.size := (x a o e).lt
theorem HOk.fresh (x : HOk P w H h) (e : h.objs.size ≤ a) : H a = none := by
  cases q : H a with
  | none => rfl
  | some u => exact absurd (Nat.lt_of_lt_of_le (x.lt q) e) (Nat.lt_irrefl _)
theorem HOk.kept (x : HOk P w H h) (k : ∀ b u, h.get? b = some u → h'.get? b = some u) : HOk P w H h' := fun a o e =>
  (x a o e).stay (fun b u _ q => k b u q) (fun _ q => q) fun _ _ q => q
theorem HOk.laid (x : HOk P w H h) (k : ∀ b u, h.get? b = some u → h'.get? b = some u) (hp : h.objs.size ≤ a) (new : ObjOk P w (upd H a o) h' a o) : HOk P w (upd H a o) h' := fun b u e => by
  have hn := x.fresh hp
  by_cases hb : b = a
  · subst hb; rw [upd_same] at e; cases e; exact new
  · rw [upd_ne hb] at e
    exact (x b u e).stay (fun c v _ q => k c v q) (fun c q => by rw [upd_ne (ne_of_none q hn)]; exact q) fun c xs q => by rw [upd_ne (ne_of_none q hn)]; exact q
end

def Rd (H : Hp) (a : Addr) (u : HO) : Prop := H a = some u ∨ ∃ o, H a = some (.frz o u)
theorem Rd.ok {P : Program} {w : World} {H : Hp} {h : Heap} {a : Addr} {u : HO} (r : Rd H a u) (x : HOk P w H h) : ObjOk P w H h a u := by
  rcases r with r | ⟨o, r⟩
  · exact x a u r
  · obtain ⟨_, q⟩ := x a _ r
    exact q
def Mut : Option HO → Prop
  | some (.lst _) => True
  | some (.dK _) => True
  | some (.dT _) => True
  | some (.set _ _) => True
  | some (.ins _ _ _) => True
  | some (.ext _) => True
  | _ => False
section
variable {P : Program} {w : World} {H : Hp} {h h' : Heap} {x e : Addr} {o' : HO}
theorem HOk.write (ok : HOk P w H h) (mu : Mut (H x)) (he : e = x ∨ H e = some (.own x)) (k : ∀ b u, b ≠ e → h.get? b = some u → h'.get? b = some u) (heo : ∃ u, h'.get? e = some u)
    (new : ObjOk P w (upd H x o') h' x o') : HOk P w (upd H x o') h' := fun b u q => by
  have nown : ∀ c y, H c = some (.own y) → c ≠ x := fun c y r z => by subst z; rw [r] at mu; exact mu
  have ntup : ∀ c xs, H c = some (.tup xs) → c ≠ x := fun c xs r z => by subst z; rw [r] at mu; exact mu
  by_cases hb : b = x
  · subst hb; rw [upd_same] at q; cases q; exact new
  · rw [upd_ne hb] at q
    by_cases hbe : b = e
    · have q' : H b = some (.own x) := by
        rcases he with z | z
        · exact absurd (hbe.trans z) hb
        · rw [hbe]; exact z
      rw [q] at q'; cases q'
      obtain ⟨v, hv⟩ := heo
      exact ⟨v, by rw [hbe]; exact hv⟩
    · refine (ok b u q).stay (fun c v hc r => k c v ?_ r) (fun c r => by rw [upd_ne (nown c b r)]; exact r) fun c xs r => by rw [upd_ne (ntup c xs r)]; exact r
      rcases hc with rfl | hc
      · exact hbe
      · rintro rfl
        rcases he with z | z
        · exact nown c b hc z
        · rw [hc] at z; cases z; exact hb rfl
end

structure Un (fs ex : List Addr) (H H' : Hp) (h h' : Heap) : Prop where
  keep : ∀ b o, h.get? b = some o → H b = none → b ∉ fs → b ∉ ex → h'.get? b = some o
  slot : ∀ b o, h.get? b = some o → H b = none → b ∈ fs → b ∉ ex → ∃ sl, h'.get? b = some { o with slots := sl }
  free : ∀ b o, h.get? b = some o → H b = none → b ∉ ex → H' b = none
  there : ∀ b o, h.get? b = some o → b ∉ ex → ∃ o', h'.get? b = some o'
  tups : ∀ b xs, H b = some (.tup xs) → H' b = some (.tup xs)
  frzs : ∀ b o u, H b = some (.frz o u) → H' b = some (.frz o u)
  tbls : ∀ b ps, H b = some (.tbl ps) → ∃ more, H' b = some (.tbl (ps ++ more))
section
variable {fs fs' ex ex' : List Addr} {H H1 H2 : Hp} {h h1 h2 h' : Heap} {a x e : Addr} {o : HO}
theorem Un.any (u : Un fs ex H H1 h h1) {b : Addr} {ob : Obj} (q : h.get? b = some ob) (n : H b = none) (hx : b ∉ ex) : ∃ sl, h1.get? b = some { ob with slots := sl } := by
  by_cases hb : b ∈ fs
  · exact u.slot b ob q n hb hx
  · exact ⟨ob.slots, u.keep b ob q n hb hx⟩
theorem Un.kept (k : ∀ b u, h.get? b = some u → h'.get? b = some u) : Un fs ex H H h h' :=
  ⟨fun b ob q _ _ _ => k b ob q, fun b ob q _ _ _ => ⟨ob.slots, k b ob q⟩, fun _ _ _ n _ => n, fun b ob q _ => ⟨ob, k b ob q⟩, fun _ _ q => q, fun _ _ _ q => q, fun _ ps q => ⟨#[], by rw [q]; simp⟩⟩
theorem Un.refl : Un fs ex H H h h := Un.kept fun _ _ q => q
theorem Un.laid (k : ∀ b u, h.get? b = some u → h'.get? b = some u) (hp : h.objs.size ≤ a) (hn : H a = none) : Un fs ex H (upd H a o) h h' where
  keep := fun b u q _ _ _ => k b u q
  slot := fun b u q _ _ _ => ⟨u.slots, k b u q⟩
  free := fun b u q n _ => by rw [upd_ne (Nat.ne_of_lt (Nat.lt_of_lt_of_le (Heap.lt_size q) hp))]; exact n
  there := fun b u q _ => ⟨u, k b u q⟩
  tups := fun b xs q => by rw [upd_ne (ne_of_none q hn)]; exact q
  frzs := fun b u xs q => by rw [upd_ne (ne_of_none q hn)]; exact q
  tbls := fun b ps q => ⟨#[], by rw [upd_ne (ne_of_none q hn), q]; simp⟩
theorem Un.write (mu : Mut (H x)) (he : e = x ∨ H e = some (.own x)) (k : ∀ b u, b ≠ e → h.get? b = some u → h'.get? b = some u) (heo : ∃ u, h'.get? e = some u) : Un fs ex H (upd H x o) h h' := by
  have hx : ∀ b, H b = none → b ≠ x := fun b n z => by subst z; rw [n] at mu; exact mu
  have hb : ∀ b, H b = none → b ≠ e := fun b n z => by
    subst z
    rcases he with r | r
    · exact hx b n r
    · rw [n] at r; cases r
  have hm : ∀ b u, H b = some u → ¬ Mut (some u) → b ≠ x := fun b u q nm z => by subst z; rw [q] at mu; exact nm mu
  refine ⟨fun b u q n _ _ => k b u (hb b n) q, fun b u q n _ _ => ⟨u.slots, k b u (hb b n) q⟩, fun b u q n _ => by rw [upd_ne (hx b n)]; exact n, fun b u q _ => ?_,
    fun b xs q => by rw [upd_ne (hm b _ q fun z => z)]; exact q, fun b u xs q => by rw [upd_ne (hm b _ q fun z => z)]; exact q, fun b ps q => ⟨#[], by rw [upd_ne (hm b _ q fun z => z), q]; simp⟩⟩
  by_cases hbe : b = e
  · subst hbe; exact heo
  · exact ⟨u, k b u hbe q⟩
end

def trk (h : Heap) (H : Hp) : List Addr := (List.range h.objs.size).filter fun a => (H a).isSome
def hidT (h : Heap) (H : Hp) : Heap := PySem.W.hideAll h (trk h H)
theorem hidT_size (h : Heap) (H : Hp) : (hidT h H).objs.size = h.objs.size := PySem.W.hideAll_size _ _
theorem hidT_get {h : Heap} {H : Hp} {b : Addr} {o : Obj} (e : h.get? b = some o) (n : H b = none) : (hidT h H).get? b = some o :=
  PySem.W.hideAll_get _ e fun hm => by
    have q : (H b).isSome = true := (List.mem_filter.mp hm).2
    rw [n] at q; simp at q
theorem of_hidT {h : Heap} {H : Hp} {b : Addr} {o : Obj} (e : (hidT h H).get? b = some o) : h.get? b = some o ∧ H b = none := by
  have e' : h.get? b = some o := PySem.W.of_hideAll (trk h H) e
  refine ⟨e', ?_⟩
  cases q : H b with
  | none => rfl
  | some x =>
    have hm : b ∈ trk h H := List.mem_filter.mpr ⟨List.mem_range.mpr (Heap.lt_size e'), by simp [q]⟩
    have z : (hidT h H).get? b = none := PySem.W.hideAll_none (trk h H) hm
    rw [z] at e; cases e

def allNews (g h : Heap) (L : Addr) : List (Addr × Obj) := (List.range h.objs.size).filterMap fun a => if a = L ∨ (g.get? a).isSome = true then none else (h.get? a).map fun o => (a, o)
def rest (g h : Heap) (L d : Addr) : List (Addr × Obj) := (allNews g h L).filter fun p => decide (p.1 ≠ d)
end L2

namespace L2
open PySem PySem.Spec PyProof.Rows

structure Mod (K : PySem.W.Frag) (mg : Str → Option Value) (base : Heap) : Prop where
  kin : K.In base
  glob : base.Ns mainGlobals mg
  blt : ∃ mb, base.Ns builtinsNs mb ∧ ∀ x : Str, x ≠ "__name__" → mb x = bootBuiltins x
  nolimit : base.NoLimit

structure Cx where
  prog : Program
  w : World
  K : PySem.W.Frag
  mg : Str → Option Value
  base : Heap
  A : Around
  N : List Str
  s₀ : Shared
  H₀ : Hp
  env : Env
  outer : List Env
  stack : List Env
  ex : List Addr
  fn : Str → Bool
  calm : Bool
  still : Bool
  fz : List (Addr × Obj × HO)
  pn : List (Addr × Obj)
  xe : Value → Shared → Prop
def frs (l : List Env) : List Addr := l.filterMap (·.frame)
abbrev Cx.fs (X : Cx) : List Addr := frs X.outer

def Vis (sc : Scope) (x : Str) : Prop := sc.names.lookup x = some .local ∨ sc.names.lookup x = some .cell ∨ sc.names.lookup x = some .free
def Loc (sc : Scope) (x : Str) : Prop := sc.names.lookup x = some .local ∨ sc.names.lookup x = some .cell
def Look (env : Env) (h : Heap) (m : Str → Option Value) (x : Str) (u : Value) : Prop :=
  (env.kindOf x = some .local ∧ m x = some u) ∨ ((env.kindOf x = some .cell ∨ env.kindOf x = some .free) ∧ ∃ c, env.cells.lookup x = some c ∧ h.IsCell c (some u))

structure Cx.Ok (X : Cx) : Prop where
  mod : Mod X.K X.mg X.base
  kind : X.env.scope.kind = .function
  glob : X.env.globals = mainGlobals
  blt : X.env.builtins = builtinsNs
  above : X.s₀.heap.objs.size ≤ X.env.locals
  inj : ∀ x y c, X.env.cells.lookup x = some c → X.env.cells.lookup y = some c → x = y
  has : ∀ x, (X.env.kindOf x = some .cell ∨ X.env.kindOf x = some .free) → ∃ c, X.env.cells.lookup x = some c
  cab : ∀ x c, X.fn x = true → X.env.cells.lookup x = some c → X.s₀.heap.objs.size ≤ c
  hd : X.calm = true → X.A.handled = none
  hs : X.still = true → X.A.handled = none ∨ ∃ e o u vs, X.A.handled = some (.ref e) ∧ (e, o, u) ∈ X.fz ∧ o.data = .fields vs ∧ vs[2]? = some .none
  frames : X.A.frames = some X.stack
  stk : X.stack = X.outer ∨ (X.stack = X.env :: X.outer ∧ X.env.frame = some X.env.locals)
  exf : ∀ b ∈ X.ex, b ≠ X.env.locals ∧ ∀ x c, X.env.cells.lookup x = some c → c ≠ b
  bs : ∀ b o, X.base.get? b = some o → X.s₀.heap.get? b = some o ∧ X.H₀ b = none
  bsz : X.base.objs.size ≤ X.s₀.heap.objs.size
  noex : ∀ b o, X.base.get? b = some o → b ∉ X.ex
  exfs : ∀ b ∈ X.ex, b ∉ X.fs
  funs : X.s₀.heap.FunFrames X.base X.outer
  frf : ∀ b ∈ X.fs, X.H₀ b = none

structure Inv (X : Cx) (pins : List (Addr × Obj)) (σ : List (Option V)) (H : Hp) (s : Shared) : Prop where
  ok : X.Ok
  fzs : ∀ p ∈ X.fz, H p.1 = some (.frz p.2.1 p.2.2)
  os : s.os = X.s₀.os
  bare : AllBare s.gens
  base : Un X.fs X.ex X.H₀ H X.s₀.heap s.heap
  loc : ∃ m, s.heap.Ns X.env.locals m ∧ ∀ (i : Nat) (x : Str) (v : V), X.N[i]? = some x → σ[i]? = some (some v) → Vis X.env.scope x → ∃ u, RelV v u ∧ Look X.env s.heap m x u
  cell : ∀ x c, X.env.cells.lookup x = some c → ∃ v, s.heap.IsCell c v
  free : H X.env.locals = none
  freeC : ∀ x c, X.env.cells.lookup x = some c → H c = none
  pin : ∀ p ∈ X.pn ++ pins, s.heap.get? p.1 = some p.2 ∧ H p.1 = none ∧ p.1 ≠ X.env.locals ∧ p.1 ∉ X.fs ∧ ∀ v, p.2.data ≠ .cell v
  hok : HOk X.prog X.w H s.heap
  len : σ.length = X.N.length

section
variable {X : Cx} {pins : List (Addr × Obj)} {σ : List (Option V)} {H H' : Hp} {s : Shared} {h' : Heap}

theorem Cx.Ok.nofr (ok : X.Ok) {b : Addr} {o : Obj} (e : X.base.get? b = some o) : b ∉ X.fs := fun hb => by
  have := (ok.funs.mem hb).1
  rw [e] at this; cases this
theorem Inv.bs (I : Inv X pins σ H s) : ∀ b o, X.base.get? b = some o → s.heap.get? b = some o ∧ H b = none := fun b o e =>
  ⟨I.base.keep b o (I.ok.bs b o e).1 (I.ok.bs b o e).2 (I.ok.nofr e) (I.ok.noex b o e), I.base.free b o (I.ok.bs b o e).1 (I.ok.bs b o e).2 (I.ok.noex b o e)⟩
theorem Inv.bk (I : Inv X pins σ H s) : ∀ b o, X.base.get? b = some o → s.heap.get? b = some o := fun b o e => (I.bs b o e).1
theorem Inv.mod (I : Inv X pins σ H s) : Mod X.K X.mg X.base := I.ok.mod
theorem Inv.kIn (I : Inv X pins σ H s) : X.K.In s.heap := I.ok.mod.kin.keeps I.bk
theorem Inv.lt (I : Inv X pins σ H s) : X.env.locals < s.heap.objs.size := let ⟨_, hn, _⟩ := I.loc; hn.lt
theorem Inv.sz (I : Inv X pins σ H s) : X.s₀.heap.objs.size ≤ s.heap.objs.size := Nat.le_trans I.ok.above (Nat.le_of_lt I.lt)
theorem Inv.nofs (I : Inv X pins σ H s) {a : Addr} (h : s.heap.objs.size ≤ a) : a ∉ X.fs := fun hb => by
  obtain ⟨_, o, ho, _⟩ := I.ok.funs.mem hb
  exact absurd (Nat.lt_of_lt_of_le (Heap.lt_size ho) (Nat.le_trans I.sz h)) (Nat.lt_irrefl _)
theorem Inv.cne (I : Inv X pins σ H s) : ∀ x c, X.env.cells.lookup x = some c → c ≠ X.env.locals := fun x c e z => by
  obtain ⟨v, o, ho, hd⟩ := I.cell x c e
  obtain ⟨m, ⟨o', es, ep, ho', hd', _⟩, _⟩ := I.loc
  rw [z, ho'] at ho; cases ho; rw [hd'] at hd; cases hd
theorem Inv.funs (I : Inv X pins σ H s) : s.heap.FunFrames X.base X.outer := by
  have all : ∀ (l : List Env), (∀ b ∈ frs l, b ∈ X.fs) → X.s₀.heap.FunFrames X.base l → s.heap.FunFrames X.base l := by
    intro l
    induction l with
    | nil => intro _ _; trivial
    | cons env r ih =>
      intro hs hl
      obtain ⟨hk, ⟨L, o, hf, hn, ho, hd⟩, hr⟩ := hl
      have hL : L ∈ X.fs := hs L (by unfold frs; rw [List.filterMap_cons, hf]; exact List.mem_cons_self)
      obtain ⟨sl, e⟩ := I.base.slot L o ho (I.ok.frf L hL) hL fun z => I.ok.exfs L z hL
      exact ⟨hk, ⟨L, _, hf, hn, e, hd⟩, ih (fun b hb => hs b (by unfold frs; rw [List.filterMap_cons, hf]; exact List.mem_cons_of_mem _ hb)) hr⟩
  exact all X.outer (fun _ hb => hb) I.ok.funs

theorem Inv.stack (I : Inv X pins σ H s) : s.heap.FunFrames X.base X.stack := by
  rcases I.ok.stk with e | ⟨e, hf⟩
  · rw [e]; exact I.funs
  · rw [e]
    obtain ⟨m, hn, _⟩ := I.loc
    refine .cons (by rw [I.ok.kind]; decide) hf hn ?_ I.funs
    exact Heap.get?_none_of_le (Nat.le_trans I.ok.bsz I.ok.above)
theorem Inv.stkSub (I : Inv X pins σ H s) : ∀ b ∈ frs X.stack, b ∈ X.env.locals :: X.fs := fun b hb => by
  rcases I.ok.stk with e | ⟨e, hf⟩
  · rw [e] at hb; exact List.mem_cons_of_mem _ hb
  · rw [e] at hb
    unfold frs at hb
    rw [List.filterMap_cons, hf] at hb
    exact hb
theorem Inv.stkFree (I : Inv X pins σ H s) : ∀ b ∈ frs X.stack, H b = none := fun b hb => by
  rcases List.mem_cons.mp (I.stkSub b hb) with e | hb
  · rw [e]; exact I.free
  · obtain ⟨_, o, ho, _⟩ := I.ok.funs.mem hb
    exact I.base.free b o ho (I.ok.frf b hb) fun z => I.ok.exfs b z hb

theorem Inv.step {g' : Array GenState} {t' : Nat} {d' : Drawn} {ch : List Addr} (I : Inv X pins σ H s)
    (hch : ∀ b ∈ ch, (b ∈ X.ex ∨ X.s₀.heap.objs.size ≤ b) ∧ b ≠ X.env.locals ∧ (∀ x c, X.env.cells.lookup x = some c → c ≠ b) ∧ ∀ p ∈ X.pn ++ pins, p.1 ≠ b)
    (keep : ∀ b o, b ≠ X.env.locals → b ∉ X.fs → b ∉ ch → s.heap.get? b = some o → H b = none → h'.get? b = some o)
    (slot : ∀ b o, b ≠ X.env.locals → b ∈ X.fs → b ∉ ch → s.heap.get? b = some o → H b = none → ∃ sl, h'.get? b = some { o with slots := sl }) (free : ∀ b o, b ∉ ch → s.heap.get? b = some o → H b = none → H' b = none)
    (there : ∀ b o, b ∉ ch → s.heap.get? b = some o → ∃ o', h'.get? b = some o')
    (tups : ∀ b xs, H b = some (.tup xs) → H' b = some (.tup xs)) (frzs : ∀ b o u, H b = some (.frz o u) → H' b = some (.frz o u)) (tbls : ∀ b ps, H b = some (.tbl ps) → ∃ more, H' b = some (.tbl (ps ++ more)))
    (ns : ∀ m, s.heap.Ns X.env.locals m → h'.Ns X.env.locals m) (hok : HOk X.prog X.w H' h') (hg : AllBare g') :
    Inv X pins σ H' { s with heap := h', gens := g', drawn := d', toks := t' } := by
  have neL : ∀ b o, X.s₀.heap.get? b = some o → b ≠ X.env.locals := fun b o e => Nat.ne_of_lt (Nat.lt_of_lt_of_le (Heap.lt_size e) I.ok.above)
  have neC : ∀ b o, X.s₀.heap.get? b = some o → b ∉ X.ex → b ∉ ch := fun b o e hx hb => by
    rcases (hch b hb).1 with z | z
    · exact hx z
    · exact absurd (Nat.lt_of_lt_of_le (Heap.lt_size e) z) (Nat.lt_irrefl _)
  have cellK : ∀ x c, X.env.cells.lookup x = some c → ∀ v, s.heap.IsCell c v → h'.IsCell c v := fun x c e v ⟨o, ho, hd⟩ => by
    have nch : c ∉ ch := fun z => (hch c z).2.2.1 x c e rfl
    by_cases hc : c ∈ X.fs
    · obtain ⟨sl, q⟩ := slot c o (I.cne x c e) hc nch ho (I.freeC x c e)
      exact ⟨_, q, hd⟩
    · exact ⟨o, keep c o (I.cne x c e) hc nch ho (I.freeC x c e), hd⟩
  refine ⟨I.ok, fun p hp => frzs _ _ _ (I.fzs p hp), I.os, hg, ⟨fun b o e n hb hx => ?_, fun b o e n hb hx => ?_, fun b o e n hx => ?_, fun b o e hx => ?_, fun b xs e => tups b xs (I.base.tups b xs e), fun b o xs e => frzs b o xs (I.base.frzs b o xs e), fun b ps e => ?_⟩, ?_, fun x c e => ?_, ?_, fun x c e => ?_, fun p hp => ?_, hok, I.len⟩
  · exact keep b o (neL b o e) hb (neC b o e hx) (I.base.keep b o e n hb hx) (I.base.free b o e n hx)
  · obtain ⟨sl, e1⟩ := I.base.slot b o e n hb hx
    obtain ⟨sl', e2⟩ := slot b _ (neL b o e) hb (neC b o e hx) e1 (I.base.free b o e n hx)
    exact ⟨sl', e2⟩
  · obtain ⟨o', e1⟩ := I.base.there b o e hx
    exact free b o' (neC b o e hx) e1 (I.base.free b o e n hx)
  · obtain ⟨o', e1⟩ := I.base.there b o e hx
    exact there b o' (neC b o e hx) e1
  · obtain ⟨m1, e1⟩ := I.base.tbls b ps e
    obtain ⟨m2, e2⟩ := tbls b _ e1
    exact ⟨m1 ++ m2, by rw [e2, Array.append_assoc]⟩
  · obtain ⟨m, hn, hl⟩ := I.loc
    refine ⟨m, ns m hn, fun i x v e1 e2 e3 => ?_⟩
    obtain ⟨u, r, l⟩ := hl i x v e1 e2 e3
    refine ⟨u, r, ?_⟩
    rcases l with l | ⟨k, c, e, z⟩
    · exact .inl l
    · exact .inr ⟨k, c, e, cellK x c e _ z⟩
  · obtain ⟨v, z⟩ := I.cell x c e
    exact ⟨v, cellK x c e v z⟩
  · obtain ⟨m, ⟨o, _, _, ho, _⟩, _⟩ := I.loc
    exact free _ o (fun z => (hch _ z).2.1 rfl) ho I.free
  · obtain ⟨v, o, ho, hd⟩ := I.cell x c e
    exact free c o (fun z => (hch c z).2.2.1 x c e rfl) ho (I.freeC x c e)
  · obtain ⟨e, n, ne, nf, d⟩ := I.pin p hp
    have nch : p.1 ∉ ch := fun z => (hch p.1 z).2.2.2 p hp rfl
    exact ⟨keep p.1 p.2 ne nf nch e n, free p.1 p.2 nch e n, ne, nf, d⟩
theorem Inv.un {t' : Nat} (I : Inv X pins σ H s) (u : Un X.fs [] H H' s.heap h') (hok : HOk X.prog X.w H' h') : Inv X pins σ H' { s with heap := h', toks := t' } := by
  obtain ⟨m, ⟨o, es, ep, ho, r⟩, _⟩ := id I.loc
  obtain ⟨sl, hL⟩ := u.any ho I.free (by simp)
  exact I.step (g' := s.gens) (d' := s.drawn) (ch := []) (fun _ z => nomatch z) (fun b o _ hb _ e n => u.keep b o e n hb (by simp)) (fun b o _ hb _ e n => u.slot b o e n hb (by simp)) (fun b o _ e n => u.free b o e n (by simp)) (fun b o _ e => u.there b o e (by simp)) u.tups u.frzs u.tbls (fun m' hm => by
    obtain ⟨o', es', ep', ho', r'⟩ := hm
    rw [ho] at ho'; cases ho'
    exact ⟨_, es', ep', hL, r'⟩) hok I.bare
theorem Inv.call {g' : Array GenState} {t' : Nat} {d' : Drawn} {ch : List Addr} (I : Inv X pins σ H s) (u : Un (frs X.stack) ch H H' s.heap h') (hok : HOk X.prog X.w H' h') (hg : AllBare g')
    (hch : ∀ b ∈ ch, (b ∈ X.ex ∨ X.s₀.heap.objs.size ≤ b) ∧ b ≠ X.env.locals ∧ (∀ x c, X.env.cells.lookup x = some c → c ≠ b) ∧ ∀ p ∈ X.pn ++ pins, p.1 ≠ b) :
    Inv X pins σ H' { s with heap := h', gens := g', drawn := d', toks := t' } := by
  obtain ⟨m, ⟨o, es, ep, ho, r⟩, _⟩ := id I.loc
  obtain ⟨sl, hL⟩ := u.any ho I.free fun z => (hch _ z).2.1 rfl
  exact I.step (ch := ch) hch (fun b o hL hb hc e n => u.keep b o e n (fun z => (List.mem_cons.mp (I.stkSub b z)).elim hL hb) hc) (fun b o _ _ hc e n => u.any e n hc) (fun b o hc e n => u.free b o e n hc) (fun b o hc e => u.there b o e hc) u.tups u.frzs u.tbls (fun m' hm => by
    obtain ⟨o', es', ep', ho', r'⟩ := hm
    rw [ho] at ho'; cases ho'
    exact ⟨_, es', ep', hL, r'⟩) hok hg
theorem Inv.turned {t' : Nat} {it : Addr} (I : Inv X pins σ H s) (k : ∀ b o, b ≠ it → s.heap.get? b = some o → h'.get? b = some o) (hn : H it = none) (hL : it ≠ X.env.locals)
    (h1 : it ∈ X.ex ∨ X.s₀.heap.objs.size ≤ it) (h2 : ∀ x c, X.env.cells.lookup x = some c → c ≠ it) (h3 : ∀ p ∈ X.pn ++ pins, p.1 ≠ it) : Inv X pins σ H { s with heap := h', toks := t' } := by
  have nit : ∀ b u, H b = some u → b ≠ it := fun b u e z => by rw [z, hn] at e; cases e
  refine I.step (g' := s.gens) (d' := s.drawn) (ch := [it]) (fun b hb => ?_) (fun b o _ _ hc e _ => k b o (fun z => hc (by simp [z])) e) (fun b o _ _ hc e _ => ⟨o.slots, k b o (fun z => hc (by simp [z])) e⟩) (fun _ _ _ _ n => n)
    (fun b o hc e => ⟨o, k b o (fun z => hc (by simp [z])) e⟩) (fun _ _ e => e) (fun _ _ _ e => e) (fun b ps e => ⟨#[], by rw [e]; simp⟩) (fun m hm => ?_) (fun b u e => ?_) I.bare
  · have e : b = it := by simpa using hb
    subst e
    exact ⟨h1, hL, h2, h3⟩
  · obtain ⟨o, es, ep, ho, r⟩ := hm
    exact ⟨o, es, ep, k _ o (Ne.symm hL) ho, r⟩
  · refine (I.hok b u e).stay (fun c v hc q => k c v ?_ q) (fun _ q => q) fun _ _ q => q
    rcases hc with z | z
    · rw [z]; exact nit b u e
    · exact nit c _ z
theorem Inv.stl (I : Inv X pins σ H s) (hc : X.still = true) : Still X.A s.heap := by
  rcases I.ok.hs hc with z | ⟨e, o, u, vs, hh, hm, r⟩
  · exact .inl z
  · exact .inr ⟨e, o, vs, hh, (I.hok e _ (I.fzs _ hm)).1, r⟩
theorem Inv.stn (I : Inv X pins σ H s) (hc : X.still = true) {b : Addr} (n : H b = none) : X.A.handled ≠ some (.ref b) := by
  rcases I.ok.hs hc with z | ⟨e, o, u, vs, hh, hm, r⟩
  · rw [z]; intro c; cases c
  · rw [hh]; intro c; cases c
    have y := I.fzs _ hm
    have y' : H b = some (.frz o u) := y
    rw [n] at y'; cases y'
theorem Inv.tok (I : Inv X pins σ H s) (t : Nat) : Inv X pins σ H { s with toks := t } := I.un (h' := s.heap) (t' := t) Un.refl I.hok
theorem Inv.kept {t' : Nat} (I : Inv X pins σ H s) (k : ∀ b u, s.heap.get? b = some u → h'.get? b = some u) : Inv X pins σ H { s with heap := h', toks := t' } := I.un (Un.kept k) (I.hok.kept k)
theorem Inv.laid {a : Addr} {o : HO} {t' : Nat} (I : Inv X pins σ H s) (k : ∀ b u, s.heap.get? b = some u → h'.get? b = some u) (hp : s.heap.objs.size ≤ a) (new : ObjOk X.prog X.w (upd H a o) h' a o) :
    Inv X pins σ (upd H a o) { s with heap := h', toks := t' } := I.un (Un.laid k hp (I.hok.fresh hp)) (I.hok.laid k hp new)
theorem Inv.write {x e : Addr} {o : HO} {t' : Nat} (I : Inv X pins σ H s) (mu : Mut (H x)) (he : e = x ∨ H e = some (.own x)) (k : ∀ b u, b ≠ e → s.heap.get? b = some u → h'.get? b = some u) (heo : ∃ u, h'.get? e = some u)
    (new : ObjOk X.prog X.w (upd H x o) h' x o) : Inv X pins σ (upd H x o) { s with heap := h', toks := t' } := I.un (Un.write mu he k heo) (I.hok.write mu he k heo new)
theorem Inv.pins_of {pins' : List (Addr × Obj)} (I : Inv X pins σ H s) (h : ∀ p ∈ pins', s.heap.get? p.1 = some p.2 ∧ H p.1 = none ∧ p.1 ≠ X.env.locals ∧ p.1 ∉ X.fs ∧ ∀ v, p.2.data ≠ .cell v) : Inv X pins' σ H s :=
  ⟨I.ok, I.fzs, I.os, I.bare, I.base, I.loc, I.cell, I.free, I.freeC, fun p hp => (List.mem_append.mp hp).elim (fun z => I.pin p (List.mem_append_left _ z)) (h p), I.hok, I.len⟩

theorem nodup_ix {N : List Str} (hN : N.Nodup) {i j : Nat} {x : Str} (a : N[i]? = some x) (b : N[j]? = some x) : i = j := by
  obtain ⟨h1, e1⟩ := List.getElem?_eq_some_iff.mp a
  obtain ⟨h2, e2⟩ := List.getElem?_eq_some_iff.mp b
  exact (List.getElem_inj hN).mp (e1.trans e2.symm)

theorem store_ok2 {M : Model} {A : Around} {E : Value → Shared → Prop} {i : Nat} {x : Str} {v : V} {u : Value} {Q : Unit → Shared → Prop} (I : Inv X pins σ H s) (hN : X.N.Nodup) (hi : X.N[i]? = some x) (hx : Loc X.env.scope x) (r : RelV v u)
    (h : ∀ s', Inv X pins (σ.set i (some v)) H s' → (∃ a, Heap.SameBut a s.heap s'.heap ∧ (a = X.env.locals ∨ X.env.cells.lookup x = some a)) → Q () s') (hf : X.fn x = true ∨ X.env.scope.names.lookup x = some .local := by first | exact .inl rfl | exact .inr rfl | assumption) : wpAny M A (storeName X.env x u) Q E s := by
  obtain ⟨m, hn, hl⟩ := id I.loc
  have hcls : (X.env.scope.kind == .class || (X.env.scope.kind == .module && X.env.locals != X.env.globals)) = false := by rw [I.ok.kind]; rfl
  have hiσ : i < σ.length := by rw [I.len]; exact (List.getElem?_eq_some_iff.mp hi).1
  have cne := I.cne
  have tracked : ∀ {a : Addr} {h' : Heap}, (∃ o, s.heap.get? a = some o ∧ H a = none) → Heap.SameBut a s.heap h' → HOk X.prog X.w H h' := fun {a h'} ha hs b ob e => by
    obtain ⟨_, _, hfree⟩ := ha
    refine (I.hok b ob e).stay (fun c w' hc q => (hs.2 c ?_).trans q) (fun _ q => q) fun _ _ q => q
    rintro rfl
    rcases hc with rfl | hc
    · rw [hfree] at e; cases e
    · rw [hfree] at hc; cases hc
  rcases hx with hk | hk
  · refine wpAny_storeName_local hk hn (fun h' hn' hs => ?_) hcls
    obtain ⟨oL, _, _, hoL, _⟩ := id hn
    refine h _ ⟨I.ok, I.fzs, I.os, I.bare, ⟨fun b o e n hb hx => ?_, fun b o e n hb hx => ?_, I.base.free, fun b o e hx => ?_, I.base.tups, I.base.frzs, I.base.tbls⟩, ⟨_, hn', fun j y v' e1 e2 e3 => ?_⟩, fun y c e => ?_, I.free, I.freeC, fun p hp => ?_, tracked ⟨oL, hoL, I.free⟩ hs, by simpa using I.len⟩ ⟨_, hs, .inl rfl⟩
    · exact (hs.2 b (Nat.ne_of_lt (Nat.lt_of_lt_of_le (Heap.lt_size e) I.ok.above))).trans (I.base.keep b o e n hb hx)
    · obtain ⟨sl, e1⟩ := I.base.slot b o e n hb hx
      exact ⟨sl, (hs.2 b (Nat.ne_of_lt (Nat.lt_of_lt_of_le (Heap.lt_size e) I.ok.above))).trans e1⟩
    · obtain ⟨o', e1⟩ := I.base.there b o e hx
      exact ⟨o', (hs.2 b (Nat.ne_of_lt (Nat.lt_of_lt_of_le (Heap.lt_size e) I.ok.above))).trans e1⟩
    · by_cases hj : j = i
      · subst hj
        rw [hi] at e1; cases e1
        rw [List.getElem?_set_self hiσ] at e2
        cases e2
        exact ⟨u, r, .inl ⟨hk, by simp⟩⟩
      · rw [List.getElem?_set_ne (Ne.symm hj)] at e2
        obtain ⟨u', r', q⟩ := hl j y v' e1 e2 e3
        refine ⟨u', r', ?_⟩
        rcases q with ⟨k, e⟩ | ⟨k, c, e, z⟩
        · refine .inl ⟨k, ?_⟩
          have : y ≠ x := fun e => hj (nodup_ix hN e1 (e ▸ hi))
          simp [this, e]
        · exact .inr ⟨k, c, e, z.sameBut hs (cne y c e)⟩
    · obtain ⟨w', z⟩ := I.cell y c e
      exact ⟨w', z.sameBut hs (cne y c e)⟩
    · obtain ⟨e, n, ne, nf, d⟩ := I.pin p hp
      exact ⟨(hs.2 p.1 ne).trans e, n, ne, nf, d⟩
  · have hfn : X.fn x = true := by
      rcases hf with z | z
      · exact z
      · rw [z] at hk; cases hk
    obtain ⟨c, hc⟩ := I.ok.has x (.inl hk)
    obtain ⟨w', z⟩ := I.cell x c hc
    refine wpAny_storeName_cell I.ok.kind hk hc z (fun h' hc' hs => ?_)
    obtain ⟨oc, hoc, hocd⟩ := id z
    refine h { s with heap := h' } ⟨I.ok, I.fzs, I.os, I.bare, ⟨fun b o e n hb hx => ?_, fun b o e n hb hx => ?_, I.base.free, fun b o e hx => ?_, I.base.tups, I.base.frzs, I.base.tbls⟩, ⟨m, hn.sameBut hs (Ne.symm (cne x c hc)), fun j y v' e1 e2 e3 => ?_⟩, fun y c' e => ?_, I.free, I.freeC, fun p hp => ?_, tracked ⟨oc, hoc, I.freeC x c hc⟩ hs, by simpa using I.len⟩ ⟨c, hs, .inr hc⟩
    · exact (hs.2 b (Nat.ne_of_lt (Nat.lt_of_lt_of_le (Heap.lt_size e) (I.ok.cab x c hfn hc)))).trans (I.base.keep b o e n hb hx)
    · obtain ⟨sl, e1⟩ := I.base.slot b o e n hb hx
      exact ⟨sl, (hs.2 b (Nat.ne_of_lt (Nat.lt_of_lt_of_le (Heap.lt_size e) (I.ok.cab x c hfn hc)))).trans e1⟩
    · obtain ⟨o', e1⟩ := I.base.there b o e hx
      exact ⟨o', (hs.2 b (Nat.ne_of_lt (Nat.lt_of_lt_of_le (Heap.lt_size e) (I.ok.cab x c hfn hc)))).trans e1⟩
    · by_cases hj : j = i
      · subst hj
        rw [hi] at e1; cases e1
        rw [List.getElem?_set_self hiσ] at e2
        cases e2
        exact ⟨u, r, .inr ⟨.inl hk, c, hc, hc'⟩⟩
      · rw [List.getElem?_set_ne (Ne.symm hj)] at e2
        obtain ⟨u', r', q⟩ := hl j y v' e1 e2 e3
        refine ⟨u', r', ?_⟩
        rcases q with q | ⟨k, c', e, z'⟩
        · exact .inl q
        · refine .inr ⟨k, c', e, z'.sameBut hs ?_⟩
          rintro rfl
          exact hj (nodup_ix hN e1 (I.ok.inj _ _ _ e hc ▸ hi))
    · by_cases hcc : c' = c
      · subst hcc; exact ⟨_, hc'⟩
      · obtain ⟨w2, z2⟩ := I.cell y c' e
        exact ⟨w2, z2.sameBut hs hcc⟩
    · obtain ⟨e, n, ne, nf, d⟩ := I.pin p hp
      refine ⟨(hs.2 p.1 ?_).trans e, n, ne, nf, d⟩
      intro q
      rw [q, hoc] at e
      have q' : oc = p.2 := Option.some.inj e
      exact d w' (by rw [← q']; exact hocd)
theorem store_ok {M : Model} {A : Around} {E : Value → Shared → Prop} {i : Nat} {x : Str} {v : V} {u : Value} {Q : Unit → Shared → Prop} (I : Inv X pins σ H s) (hN : X.N.Nodup) (hi : X.N[i]? = some x) (hx : Loc X.env.scope x) (r : RelV v u)
    (h : ∀ s', Inv X pins (σ.set i (some v)) H s' → Q () s') (hf : X.fn x = true ∨ X.env.scope.names.lookup x = some .local := by first | exact .inl rfl | exact .inr rfl | assumption) : wpAny M A (storeName X.env x u) Q E s :=
  store_ok2 I hN hi hx r (fun s' I' _ => h s' I') hf
theorem Inv.call' {s' : Shared} {ch : List Addr} (I : Inv X pins σ H s) (ho : s'.os = s.os) (u : Un (frs X.stack) ch H H' s.heap s'.heap) (hok : HOk X.prog X.w H' s'.heap) (hg : AllBare s'.gens)
    (hch : ∀ b ∈ ch, (b ∈ X.ex ∨ X.s₀.heap.objs.size ≤ b) ∧ b ≠ X.env.locals ∧ (∀ x c, X.env.cells.lookup x = some c → c ≠ b) ∧ ∀ p ∈ X.pn ++ pins, p.1 ≠ b) : Inv X pins σ H' s' := by
  obtain ⟨h', g', d', t', o'⟩ := s'
  have e : o' = s.os := ho
  subst e
  exact I.call (g' := g') (t' := t') (d' := d') u hok hg hch
end

abbrev XK := Value → Option Addr → Hp → Prop
abbrev St := List (Option V)
abbrev VK := V → Hp → Prop
abbrev TE := St → Hp → VK → Prop
abbrev TT := St → Hp → (Bool → Hp → Prop) → Prop
abbrev TA := St → Hp → (List V → Hp → Prop) → Prop
structure Ends where
  nx : St → Hp → Prop
  rt : VK
  bk : St → Hp → Prop := fun _ _ => False
  ct : St → Hp → Prop := fun _ _ => False
abbrev TS := Ends → St → Hp → Prop

def EP (X : Cx) (pins : List (Addr × Obj)) (σ : St) (Q : VK) (u : Value) (s' : Shared) : Prop := ∃ v H', Inv X pins σ H' s' ∧ RelV v u ∧ Q v H'
def TP (X : Cx) (pins : List (Addr × Obj)) (σ : St) (Q : Bool → Hp → Prop) (b : Bool) (s' : Shared) : Prop := ∃ H', Inv X pins σ H' s' ∧ Q b H'
def AP (X : Cx) (pins : List (Addr × Obj)) (σ : St) (Q : List V → Hp → Prop) (us : List Value) (s' : Shared) : Prop := ∃ vs H', Inv X pins σ H' s' ∧ Vals vs us ∧ Q vs H'
def SP (X : Cx) (pins : List (Addr × Obj)) (D : Ends) (f : Flow) (s' : Shared) : Prop :=
  match f with
  | .next => ∃ σ' H', Inv X pins σ' H' s' ∧ D.nx σ' H'
  | .brk => ∃ σ' H', Inv X pins σ' H' s' ∧ D.bk σ' H'
  | .cont => ∃ σ' H', Inv X pins σ' H' s' ∧ D.ct σ' H'
  | .ret u => ∃ v σ' H', Inv X pins σ' H' s' ∧ RelV v u ∧ D.rt v H'

def PE (X : Cx) (e : Expr) (t : TE) : Prop :=
  ∀ (pins : List (Addr × Obj)) (s : Shared) (σ : St) (H : Hp) (Q : VK), Inv X pins σ H s → t σ H Q → wpAny (model X.prog X.w) X.A (eval e X.env) (EP X pins σ Q) X.xe s
def PT (X : Cx) (e : Expr) (t : TT) : Prop :=
  ∀ (pins : List (Addr × Obj)) (s : Shared) (σ : St) (H : Hp) (Q : Bool → Hp → Prop), Inv X pins σ H s → t σ H Q → wpAny (model X.prog X.w) X.A (isTrue e X.env (eval e X.env)) (TP X pins σ Q) X.xe s
def PW (X : Cx) (e : Expr) (t : TT) : Prop :=
  ∀ (whole : Sem Value) (pins : List (Addr × Obj)) (s : Shared) (σ : St) (H : Hp) (Q : Bool → Hp → Prop), Inv X pins σ H s → t σ H Q → wpAny (model X.prog X.w) X.A (isTrue e X.env whole) (TP X pins σ Q) X.xe s
theorem PW.pt {X : Cx} {e : Expr} {t : TT} (h : PW X e t) : PT X e t := h _
def PA (X : Cx) (es : List Expr) (t : TA) : Prop :=
  ∀ (pos : Pos) (pins : List (Addr × Obj)) (s : Shared) (σ : St) (H : Hp) (Q : List V → Hp → Prop), Inv X pins σ H s → t σ H Q → wpAny (model X.prog X.w) X.A (spliced (backTo pos (starEach es X.env))) (AP X pins σ Q) X.xe s
def PS (X : Cx) (st : Stmt) (t : TS) : Prop :=
  ∀ (pins : List (Addr × Obj)) (s : Shared) (σ : St) (H : Hp) (D : Ends), Inv X pins σ H s → t D σ H → wpAny (model X.prog X.w) X.A (exec st X.env) (SP X pins D) X.xe s
def PSs (X : Cx) (st : List Stmt) (t : TS) : Prop :=
  ∀ (pins : List (Addr × Obj)) (s : Shared) (σ : St) (H : Hp) (D : Ends), Inv X pins σ H s → t D σ H → wpAny (model X.prog X.w) X.A (execs st X.env) (SP X pins D) X.xe s
theorem thn {α : Type} {t : Sem α} {Q Q' : α → Shared → Prop} {M : Model} {A : Around} {E : Value → Shared → Prop} {s : Shared} (h : wpAny M A t Q E s) (hQ : ∀ a s, Q a s → Q' a s) : wpAny M A t Q' E s := wpAny_mono h hQ fun _ _ x => x
end L2

namespace L2
open PySem PySem.Spec PyProof.Rows
section
variable {X : Cx}

def tVar (i : Nat) : TE := fun σ H Q => ∃ v, σ[i]? = some (some v) ∧ Q v H
def tC (v : V) : TE := fun _ H Q => Q v H
theorem pe_var {i : Nat} {x : Str} {pos : Pos} (hN : X.N[i]? = some x) (hv : Vis X.env.scope x) (hd : (x == ("__debug__" : Str)) = false := by decide) (hcd : (x == ("__classdict__" : Str)) = false := by decide) : PE X (.Name x pos) (tVar i) := by
  intro pins s σ H Q I h
  obtain ⟨v, e, h⟩ := h
  obtain ⟨m, hn, hl⟩ := I.loc
  obtain ⟨u, r, l⟩ := hl i x v hN e hv
  have fin : EP X pins σ Q u s := ⟨v, H, I, r, h⟩
  rcases l with ⟨hk, hm⟩ | ⟨hk, c, hc, hcell⟩
  · exact wpAny_Name (wpAny_loadName_local I.ok.kind hk hn hm fin) hd
  · rcases hk with hk | hk
    · exact wpAny_Name (wpAny_loadName_cell I.ok.kind hk hc hcell fin) hd
    · exact wpAny_Name (wpAny_loadName_free I.ok.kind hk hc hcell fin hcd) hd
theorem pe_int {i j pos} : PE X (.Constant (.int i) j pos) (tC (.int i)) := fun _ _ _ H _ I h => wpAny_Constant_int ⟨.int i, H, I.tok _, ⟨_, rfl⟩, h⟩
theorem pe_bl {b j pos} : PE X (.Constant (.bool b) j pos) (tC (.bl b)) := fun _ _ _ H _ I h => Constant_bool ⟨.bl b, H, I, rfl, h⟩
theorem pe_str {x j pos} : PE X (.Constant (.str x) j pos) (tC (.str x)) := fun _ _ _ H _ I h => Calls.Constant_str ⟨.str x, H, I.tok _, ⟨_, rfl⟩, h⟩

def Gl (X : Cx) (x : Str) : Prop := X.env.kindOf x = some .globalImplicit
theorem ld_glob {E : Value → Shared → Prop} {pins : List (Addr × Obj)} {s : Shared} {σ : St} {H : Hp} {x : Str} {u : Value} {pos : Pos} {Q : Value → Shared → Prop} (I : Inv X pins σ H s) (hg : Gl X x) (hm : X.mg x = some u) (h : Q u s)
    (hd : (x == ("__debug__" : Str)) = false := by decide) : wpAny (model X.prog X.w) X.A (eval (.Name x pos) X.env) Q E s :=
  Calls.Name_function_global I.ok.kind hg (Calls.loadGlobal_global (by rw [I.ok.glob]; exact I.mod.glob.keeps I.bk) hm h) hd
theorem ld_blt {E : Value → Shared → Prop} {pins : List (Addr × Obj)} {s : Shared} {σ : St} {H : Hp} {x : Str} {u : Value} {pos : Pos} {Q : Value → Shared → Prop} (I : Inv X pins σ H s) (hg : Gl X x) (hm : X.mg x = none) (hv : bootBuiltins x = some u) (h : Q u s)
    (hn : x ≠ "__name__" := by decide) (hd : (x == ("__debug__" : Str)) = false := by decide) : wpAny (model X.prog X.w) X.A (eval (.Name x pos) X.env) Q E s := by
  obtain ⟨mb, h1, h2⟩ := I.mod.blt
  exact Calls.Name_function_global I.ok.kind hg (Calls.loadGlobal_builtin (by rw [I.ok.glob]; exact I.mod.glob.keeps I.bk) hm (by rw [I.ok.blt]; exact h1.keeps I.bk) ((h2 x hn).trans hv) h) hd
theorem pe_glob {x : Str} {v : V} {u : Value} {pos : Pos} (hg : Gl X x) (hm : X.mg x = some u) (r : RelV v u) (hd : (x == ("__debug__" : Str)) = false := by decide) : PE X (.Name x pos) (tC v) :=
  fun _ _ _ H _ I h => ld_glob I hg hm ⟨v, H, I, r, h⟩ hd
theorem pe_bltn {x : Str} {v : V} {u : Value} {pos : Pos} (hg : Gl X x) (hm : X.mg x = none) (hv : bootBuiltins x = some u) (r : RelV v u) (hn : x ≠ "__name__" := by decide) (hd : (x == ("__debug__" : Str)) = false := by decide) : PE X (.Name x pos) (tC v) :=
  fun _ _ _ H _ I h => ld_blt I hg hm hv ⟨v, H, I, r, h⟩ hn hd

def t2I (ta tb : TE) (k : Int → Int → Hp → Prop) : St → Hp → Prop := fun σ H => ta σ H fun x H1 => tb σ H1 fun y H2 => ∃ i j, x = .int i ∧ y = .int j ∧ k i j H2
def tAdd (ta tb : TE) : TE := fun σ H Q => t2I ta tb (fun i j H2 => Q (.int (i + j)) H2) σ H
def tSub (ta tb : TE) : TE := fun σ H Q => t2I ta tb (fun i j H2 => Q (.int (i - j)) H2) σ H
def tMul (ta tb : TE) : TE := fun σ H Q => t2I ta tb (fun i j H2 => (-(2 ^ 64) < i ∧ i < 2 ^ 64) ∧ Q (.int (i * j)) H2) σ H
variable {a b : Expr} {ta tb : TE} {pos : Pos}
def PC (X : Cx) (op : CmpOp) (a b : Expr) (t : TE) : Prop :=
  ∀ (pins : List (Addr × Obj)) (s : Shared) (σ : St) (H : Hp) (Q : VK), Inv X pins σ H s → t σ H Q →
    wpAny (model X.prog X.w) X.A (eval a X.env) (fun v s₁ => wpAny (model X.prog X.w) X.A (eval b X.env) (fun u s₂ => wpAny (model X.prog X.w) X.A (compareOp op v u) (EP X pins σ Q) X.xe s₂) X.xe s₁) X.xe s
def tCmp (p : Int → Int → Bool) (ta tb : TE) : TE := fun σ H Q => t2I ta tb (fun i j H2 => Q (.bl (p i j)) H2) σ H
abbrev tLt : TE → TE → TE := tCmp fun i j => decide (i < j)
abbrev tLe : TE → TE → TE := tCmp fun i j => decide (i ≤ j)
abbrev tGt : TE → TE → TE := tCmp fun i j => decide (j < i)
abbrev tGe : TE → TE → TE := tCmp fun i j => decide (j ≤ i)
abbrev tEqI : TE → TE → TE := tCmp fun i j => decide (i = j)
abbrev tNeI : TE → TE → TE := tCmp fun i j => !decide (i = j)
def tIsN (ta : TE) : TE := fun σ H Q => ta σ H fun x H1 => Q (.bl (decide (x = .non))) H1
def tNotN (ta : TE) : TE := fun σ H Q => ta σ H fun x H1 => Q (.bl (!decide (x = .non))) H1
def tB (t : TE) : TT := fun σ H Q => t σ H fun x H1 => ∃ c, x = .bl c ∧ Q c H1
theorem pe_cmp {op : CmpOp} {t : TE} (h : PC X op a b t) (h1 : behindInMarks op b = false := by first | exact nobehind _ (by decide) (by decide) | rfl) : PE X (.Compare a [op] [b] pos) t := fun pins s σ H Q I hw => wpAny_Compare1 (h pins s σ H Q I hw) h1
theorem pt_cmp {op : CmpOp} {t : TE} (h : PC X op a b t) (h1 : behindInMarks op b = false := by first | exact nobehind _ (by decide) (by decide) | rfl) : PT X (.Compare a [op] [b] pos) (tB t) := by
  intro pins s σ H Q I hw
  refine wpAny_isTrue_Compare1 (thn (h pins s σ H _ I hw) fun v s1 h1 => thn h1 fun u s2 h2 => thn h2 fun c s3 ⟨x, H1, I1, r1, q1⟩ => ?_) h1
  obtain ⟨d, rfl, q⟩ := q1
  cases r1
  exact wpAny_truthy_bool ⟨H1, I1, q⟩
theorem pt_val {e : Expr} {t : TE} (h : PE X e t) (he : ∀ whole, isTrue e X.env whole = (do let v ← whole; standAt e.pos; holding [v] (truthy v)) := by intro _; rfl) : PT X e (tB t) := by
  intro pins s σ H Q I hw
  refine isTrue_plain (thn (h pins s σ H _ I hw) fun v s1 ⟨x, H1, I1, r1, q1⟩ => ?_) (he _)
  obtain ⟨d, rfl, q⟩ := q1
  cases r1
  exact wpAny_truthy_bool ⟨H1, I1, q⟩

variable {tA tB' : TT} {rest : List Expr}
def tAnd (t u : TT) : TT := fun σ H Q => t σ H fun c H1 => if c = true then u σ H1 Q else Q false H1
def tOr (t u : TT) : TT := fun σ H Q => t σ H fun c H1 => if c = true then Q true H1 else u σ H1 Q
def tNot (t : TT) : TT := fun σ H Q => t σ H fun c H1 => Q (!c) H1
theorem pw_and1 (ha : PT X a tA) : PW X (.BoolOp .And [a] pos) tA := by
  intro wh pins s σ H Q I h
  refine isTrue_and (thn (ha pins s σ H Q I h) fun c s1 e => ?_)
  cases c with
  | true => exact isTrue_and_nil e
  | false => exact e
theorem pw_or1 (ha : PT X a tA) : PW X (.BoolOp .Or [a] pos) tA := by
  intro wh pins s σ H Q I h
  refine isTrue_or (thn (ha pins s σ H Q I h) fun c s1 e => ?_)
  cases c with
  | false => exact isTrue_or_nil e
  | true => exact e
theorem pw_and (ha : PT X a tA) (hb : PW X (.BoolOp .And (b :: rest) pos) tB') : PW X (.BoolOp .And (a :: b :: rest) pos) (tAnd tA tB') := by
  intro wh pins s σ H Q I h
  refine isTrue_and (thn (ha pins s σ H _ I h) fun c s1 ⟨H1, I1, q1⟩ => ?_)
  cases c with
  | true => exact hb wh pins s1 σ H1 Q I1 q1
  | false => exact ⟨H1, I1, q1⟩
theorem pw_or (ha : PT X a tA) (hb : PW X (.BoolOp .Or (b :: rest) pos) tB') : PW X (.BoolOp .Or (a :: b :: rest) pos) (tOr tA tB') := by
  intro wh pins s σ H Q I h
  refine isTrue_or (thn (ha pins s σ H _ I h) fun c s1 ⟨H1, I1, q1⟩ => ?_)
  cases c with
  | true => exact ⟨H1, I1, q1⟩
  | false => exact hb wh pins s1 σ H1 Q I1 q1
theorem pt_not (ha : PT X a tA) : PT X (.UnaryOp .Not a pos) (tNot tA) := by
  intro pins s σ H Q I h
  exact isTrue_not (ha pins s σ H (fun c H1 => Q (!c) H1) I h)
def tAndV (ta tb : TE) : TE := fun σ H Q => ta σ H fun x H1 => ∃ c, x = .bl c ∧ if c = true then tb σ H1 Q else Q (.bl false) H1
def tOrV (ta tb : TE) : TE := fun σ H Q => ta σ H fun x H1 => ∃ c, x = .bl c ∧ if c = true then Q (.bl true) H1 else tb σ H1 Q
def tNotV (ta : TE) : TE := fun σ H Q => ta σ H fun x H1 => ∃ c, x = .bl c ∧ Q (.bl (!c)) H1
theorem pe_one {op} {t : TE} (h : PE X a t) : PE X (.BoolOp op [a] pos) t := fun pins s σ H Q I hw => BoolOp_one (h pins s σ H Q I hw)
theorem pe_and (ha : PE X a ta) (hb : PE X (.BoolOp .And (b :: rest) pos) tb) : PE X (.BoolOp .And (a :: b :: rest) pos) (tAndV ta tb) := by
  intro pins s σ H Q I h
  refine BoolOp_and (thn (ha pins s σ H _ I h) fun v s1 ⟨x, H1, I1, r1, q1⟩ => ?_)
  obtain ⟨c, rfl, q1⟩ := q1
  cases r1
  refine wpAny_truthy_bool ?_
  cases c with
  | true => exact hb pins s1 σ H1 Q I1 q1
  | false => exact ⟨.bl false, H1, I1, rfl, q1⟩
theorem pe_or (ha : PE X a ta) (hb : PE X (.BoolOp .Or (b :: rest) pos) tb) : PE X (.BoolOp .Or (a :: b :: rest) pos) (tOrV ta tb) := by
  intro pins s σ H Q I h
  refine BoolOp_or (thn (ha pins s σ H _ I h) fun v s1 ⟨x, H1, I1, r1, q1⟩ => ?_)
  obtain ⟨c, rfl, q1⟩ := q1
  cases r1
  refine wpAny_truthy_bool ?_
  cases c with
  | false => exact hb pins s1 σ H1 Q I1 q1
  | true => exact ⟨.bl true, H1, I1, rfl, q1⟩
def tIf (t : TT) (ta tb : TE) : TE := fun σ H Q => t σ H fun c H1 => if c = true then ta σ H1 Q else tb σ H1 Q
theorem pe_ifExp {c : Expr} (hc : PT X c tA) (ha : PE X a ta) (hb : PE X b tb) : PE X (.IfExp c a b pos) (tIf tA ta tb) := by
  intro pins s σ H Q I h
  refine wpAny_IfExp (thn (hc pins s σ H _ I h) fun d s1 ⟨H1, I1, q1⟩ => ?_)
  cases d with
  | true => exact ha pins s1 σ H1 Q I1 q1
  | false => exact hb pins s1 σ H1 Q I1 q1
end
end L2

namespace L2
open PySem PySem.Spec PyProof.Rows

def SqL (K : PySem.W.Frag) (H : Hp) (a : Addr) (xs : List V) : Prop :=
  Rd H a (.lst xs) ∨
    ∃ (o : Obj) (its : Array Value) (n : Nat), K.lookup a = some o ∧ o.cls = .type "list" ∧ o.dict = none ∧ o.data = .seq its n ∧ its.size ≤ sizeLine ∧ Vals xs its.toList
def SqT (K : PySem.W.Frag) (H : Hp) (a : Addr) (xs : List V) : Prop :=
  Rd H a (.tup xs) ∨
    ∃ (o : Obj) (its : Array Value) (n : Nat), K.lookup a = some o ∧ o.cls = .type "tuple" ∧ o.data = .seq its n ∧ its.size ≤ sizeLine ∧ Vals xs its.toList
def absV : Value → Option V
  | .none => some .non
  | .bool b => some (.bl b)
  | .int i _ => some (.int i)
  | .str x _ => some (.str x)
  | .bytes b _ => some (.byt b)
  | .float b _ => some (.flt b)
  | .ref a => some (.ref a)
  | .type n => some (.ty n)
  | _ => none
theorem RelV.abs {x : V} {u : Value} (r : RelV x u) : absV u = some x := by
  cases x with
  | non => cases r; rfl
  | bl _ => cases r; rfl
  | int _ => obtain ⟨t, rfl⟩ := r; rfl
  | str _ => obtain ⟨t, rfl⟩ := r; rfl
  | byt _ => obtain ⟨t, rfl⟩ := r; rfl
  | flt _ => obtain ⟨t, rfl⟩ := r; rfl
  | ref _ => cases r; rfl
  | ty _ => cases r; rfl
theorem RelV.inj {x y : V} {u : Value} (r : RelV x u) (q : RelV y u) : x = y := Option.some.inj (r.abs.symm.trans q.abs)
theorem Vals.inj : ∀ {xs ys : List V} {us : List Value}, Vals xs us → Vals ys us → xs = ys
  | _, _, _, .nil, .nil => rfl
  | _, _, _, .cons r t, .cons r' t' => by rw [r.inj r', Vals.inj t t']
section
variable {X : Cx} {pins : List (Addr × Obj)} {σ : St} {H : Hp} {s : Shared} {a : Addr} {xs ys : List V}
theorem SqL.of {K : PySem.W.Frag} (h : H a = some (.lst xs)) : SqL K H a xs := .inl (.inl h)
theorem SqT.of {K : PySem.W.Frag} (h : H a = some (.tup xs)) : SqT K H a xs := .inl (.inl h)
theorem Inv.list (I : Inv X pins σ H s) (h : SqL X.K H a xs) : ∃ its : List Value, Vals xs its ∧ PlainL s.heap a its.toArray ∧ xs.length ≤ sizeLine := by
  rcases h with h | ⟨o, its, n, hk, hc, hd, hs, hz, r⟩
  · obtain ⟨z, its, n, r, e⟩ := h.ok I.hok
    exact ⟨its, r, ⟨_, n, e, rfl, rfl, rfl⟩, z⟩
  · refine ⟨its.toList, r, ⟨o, n, I.kIn a o hk, hc, hd, by simpa using hs⟩, ?_⟩
    have e := r.length
    simp only [Array.length_toList] at e
    omega
theorem Inv.tuple (I : Inv X pins σ H s) (h : SqT X.K H a xs) : ∃ its : List Value, Vals xs its ∧ IsTup s.heap a its.toArray ∧ xs.length ≤ sizeLine := by
  rcases h with h | ⟨o, its, n, hk, hc, hs, hz, r⟩
  · obtain ⟨z, its, r, p⟩ := h.ok I.hok
    exact ⟨its, r, p, z⟩
  · refine ⟨its.toList, r, ⟨o, I.kIn a o hk, hc, n, by simpa using hs⟩, ?_⟩
    have e := r.length
    simp only [Array.length_toList] at e
    omega
theorem Inv.list_inj (I : Inv X pins σ H s) (h : SqL X.K H a xs) (h' : SqL X.K H a ys) : xs = ys := by
  obtain ⟨its, r, ⟨o, n, e, _, _, d⟩, _⟩ := I.list h
  obtain ⟨its', r', ⟨o', n', e', _, _, d'⟩, _⟩ := I.list h'
  rw [e] at e'; cases e'
  rw [d] at d'
  injection d' with d1 _
  have : its = its' := by simpa using congrArg Array.toList d1
  subst this
  exact r.inj r'
theorem Inv.tuple_inj (I : Inv X pins σ H s) (h : SqT X.K H a xs) (h' : SqT X.K H a ys) : xs = ys := by
  obtain ⟨its, r, ⟨o, e, _, n, d⟩, _⟩ := I.tuple h
  obtain ⟨its', r', ⟨o', e', _, n', d'⟩, _⟩ := I.tuple h'
  rw [e] at e'; cases e'
  rw [d] at d'
  injection d' with d1 _
  have : its = its' := by simpa using congrArg Array.toList d1
  subst this
  exact r.inj r'
end

abbrev Cx.wish (X : Cx) (E : Value → Shared → Prop) : Cx := { X with xe := E }
abbrev Cx.nox (X : Cx) : Cx := X.wish fun _ _ => False
theorem Cx.Ok.wish {X : Cx} (ok : X.Ok) (E : Value → Shared → Prop) : (X.wish E).Ok :=
  ⟨ok.mod, ok.kind, ok.glob, ok.blt, ok.above, ok.inj, ok.has, ok.cab, ok.hd, ok.hs, ok.frames, ok.stk, ok.exf, ok.bs, ok.bsz, ok.noex, ok.exfs, ok.funs, ok.frf⟩
theorem Cx.Ok.unwish {X : Cx} {E : Value → Shared → Prop} (ok : (X.wish E).Ok) : X.Ok :=
  ⟨ok.mod, ok.kind, ok.glob, ok.blt, ok.above, ok.inj, ok.has, ok.cab, ok.hd, ok.hs, ok.frames, ok.stk, ok.exf, ok.bs, ok.bsz, ok.noex, ok.exfs, ok.funs, ok.frf⟩
section
variable {X : Cx} {pins : List (Addr × Obj)} {σ : St} {H : Hp} {s : Shared} {E : Value → Shared → Prop}
theorem Inv.wish (I : Inv X pins σ H s) (E : Value → Shared → Prop) : Inv (X.wish E) pins σ H s := ⟨I.ok.wish E, I.fzs, I.os, I.bare, I.base, I.loc, I.cell, I.free, I.freeC, I.pin, I.hok, I.len⟩
theorem Inv.unwish (I : Inv (X.wish E) pins σ H s) : Inv X pins σ H s := ⟨I.ok.unwish, I.fzs, I.os, I.bare, I.base, I.loc, I.cell, I.free, I.freeC, I.pin, I.hok, I.len⟩
theorem SP.unwish {D : Ends} {f : Flow} {s' : Shared} (h : SP (X.wish E) pins D f s') : SP X pins D f s' := by
  cases f with
  | next => obtain ⟨σ', H', I, q⟩ := h; exact ⟨σ', H', I.unwish, q⟩
  | brk => obtain ⟨σ', H', I, q⟩ := h; exact ⟨σ', H', I.unwish, q⟩
  | cont => obtain ⟨σ', H', I, q⟩ := h; exact ⟨σ', H', I.unwish, q⟩
  | ret u => obtain ⟨v, σ', H', I, r, q⟩ := h; exact ⟨v, σ', H', I.unwish, r, q⟩
theorem PSs.nox {st : List Stmt} {t : TS} (h : PSs X.nox st t) : PSs X st t := fun pins s σ H D I hw =>
  wpAny_mono (h pins s σ H D (I.wish _) hw) (fun _ _ q => q.unwish) fun _ _ z => False.elim z
end

section
variable {X : Cx} {st : Stmt} {rest : List Stmt} {t u : TS} {e : Expr} {te : TE} {pos : Pos}
def tNext : TS := fun D σ H => D.nx σ H
def tSeq (t u : TS) : TS := fun D σ H => t { D with nx := u D } σ H
theorem pss_nil : PSs X [] tNext := fun _ _ σ H _ I h => wpAny_execs_nil ⟨σ, H, I, h⟩
theorem pss_cons (h1 : PS X st t) (h2 : PSs X rest u) : PSs X (st :: rest) (tSeq t u) := by
  intro pins s σ H D I h
  refine wpAny_execs_cons (thn (h1 pins s σ H { D with nx := u D } I h) fun f s1 q => ?_)
  cases f with
  | next =>
    obtain ⟨σ', H', I', q⟩ := q
    exact h2 pins s1 σ' H' D I' q
  | ret v => exact q
  | brk => exact q
  | cont => exact q
theorem pss_one (h1 : PS X st t) : PSs X [st] t := by
  intro pins s σ H D I h
  refine wpAny_execs_cons (thn (h1 pins s σ H D I h) fun f s1 q => ?_)
  cases f with
  | next => exact wpAny_execs_nil q
  | ret v => exact q
  | brk => exact q
  | cont => exact q
def tBreak : TS := fun D σ H => D.bk σ H
def tCont : TS := fun D σ H => D.ct σ H
theorem Inv.quiet {pins : List (Addr × Obj)} {σ : St} {H : Hp} {s : Shared} (I : Inv X pins σ H s) : interactive X.env = false := by simp [interactive, I.ok.kind]
def tDrop (te : TE) : TS := fun D σ H => te σ H fun _ H1 => D.nx σ H1
theorem ps_expr (he : PE X e te) (hs : swapsWith e none pos.line X.env = pure false := by rfl) : PS X (.Expr e pos) (tDrop te) := by
  intro pins s σ H D I h
  exact wpAny_Expr_any (thn (he pins s σ H _ I h) fun v s1 ⟨x, H1, I1, r1, q1⟩ => ⟨σ, H1, I1, q1⟩) I.quiet hs
def tRet (te : TE) : TS := fun D σ H => te σ H D.rt
theorem ps_ret (he : PE X e te) : PS X (.Return (some e) pos) (tRet te) := by
  intro pins s σ H D I h
  exact wpAny_Return_some (thn (he pins s σ H _ I h) fun v s1 ⟨x, H1, I1, r1, q1⟩ => ⟨x, σ, H1, I1, r1, q1⟩)
def tRetN : TS := fun D _ H => D.rt .non H
def tIfS (c : TT) (t u : TS) : TS := fun D σ H => c σ H fun b H1 => if b = true then t D σ H1 else u D σ H1
theorem ps_if {c : Expr} {a b : List Stmt} {tc : TT} (hc : PT X c tc) (ha : PSs X a t) (hb : PSs X b u) : PS X (.If c a b pos) (tIfS tc t u) := by
  intro pins s σ H D I h
  refine wpAny_If (thn (hc pins s σ H _ I h) fun d s1 ⟨H1, I1, q1⟩ => ?_)
  cases d with
  | true => exact ha pins s1 σ H1 D I1 q1
  | false => exact hb pins s1 σ H1 D I1 q1
def tNever : TS := fun _ _ _ => False
theorem pss_never {sts : List Stmt} : PSs X sts tNever := fun _ _ _ _ _ _ h => h.elim
end

abbrev TG := V → St → Hp → (St → Hp → Prop) → Prop
abbrev TGs := List V → St → Hp → (St → Hp → Prop) → Prop
def PG (X : Cx) (target : Expr) (t : TG) : Prop :=
  ∀ (pins : List (Addr × Obj)) (s : Shared) (σ : St) (H : Hp) (v : V) (u : Value) (Q : St → Hp → Prop), Inv X pins σ H s → RelV v u → t v σ H Q →
    wpAny (model X.prog X.w) X.A (assign target X.env u) (fun _ s' => ∃ σ' H', Inv X pins σ' H' s' ∧ Q σ' H') X.xe s
def PGs (X : Cx) (ts : List Expr) (t : TGs) : Prop :=
  ∀ (pins : List (Addr × Obj)) (s : Shared) (σ : St) (H : Hp) (vs : List V) (us : List Value) (Q : St → Hp → Prop), Inv X pins σ H s → Vals vs us → t vs σ H Q →
    wpAny (model X.prog X.w) X.A (assignInOrder ((assignEach ts X.env).map (·.2)) us) (fun _ s' => ∃ σ' H', Inv X pins σ' H' s' ∧ Q σ' H') X.xe s
abbrev TSet := V → V → V → Hp → (Hp → Prop) → Prop
def PSet (X : Cx) (t : TSet) : Prop :=
  ∀ (pins : List (Addr × Obj)) (s : Shared) (σ : St) (H : Hp) (o i v : V) (ov iv u : Value) (Q : Hp → Prop), Inv X pins σ H s → RelV o ov → RelV i iv → RelV v u → t o i v H Q →
    wpAny (model X.prog X.w) X.A (setItem ov iv u) (fun _ s' => ∃ H', Inv X pins σ H' s' ∧ Q H') X.xe s
abbrev TIp := V → V → Hp → VK → Prop
def PIp (X : Cx) (op : Operator) (t : TIp) : Prop :=
  ∀ (pins : List (Addr × Obj)) (s : Shared) (σ : St) (H : Hp) (x y : V) (v u : Value) (Q : VK), Inv X pins σ H s → RelV x v → RelV y u → t x y H Q →
    wpAny (model X.prog X.w) X.A (inplaceOp op v u) (EP X pins σ Q) X.xe s
section
variable {X : Cx} {pos : Pos}
def gName (i : Nat) : TG := fun v σ H Q => Q (σ.set i (some v)) H
theorem pg_name {i : Nat} {x : Str} (hN : X.N.Nodup) (hi : X.N[i]? = some x) (hx : Loc X.env.scope x) (hf : X.fn x = true ∨ X.env.scope.names.lookup x = some .local := by first | exact .inl rfl | exact .inr rfl | assumption) : PG X (.Name x pos) (gName i) := by
  intro pins s σ H v u Q I r h
  exact wpAny_assign_Name (store_ok I hN hi hx r (fun s' I' => ⟨_, H, I', h⟩) hf)
def gNil : TGs := fun vs σ H Q => vs = [] ∧ Q σ H
def gCons (t : TG) (u : TGs) : TGs := fun vs σ H Q => ∃ v r, vs = v :: r ∧ t v σ H fun σ' H' => u r σ' H' Q
theorem pgs_nil : PGs X [] gNil := by
  intro pins s σ H vs us Q I r h
  obtain ⟨e, h⟩ := h
  subst e
  cases r
  exact assignInOrder_nil ⟨σ, H, I, h⟩
theorem pgs_cons {e : Expr} {es : List Expr} {t : TG} {u : TGs} (h1 : PG X e t) (h2 : PGs X es u)
    (hs : (assignEach (e :: es) X.env).map (·.2) = assign e X.env :: (assignEach es X.env).map (·.2) := by rfl) : PGs X (e :: es) (gCons t u) := by
  intro pins s σ H vs us Q I r h
  obtain ⟨v, vr, e1, h⟩ := h
  subst e1
  cases r with
  | cons r rr =>
    rw [hs]
    refine assignInOrder_cons (thn (h1 pins s σ H _ _ _ I r h) fun _ s1 ⟨σ1, H1, I1, q1⟩ => ?_)
    exact h2 pins s1 σ1 H1 _ _ Q I1 rr q1
def gTup (K : PySem.W.Frag) (n : Nat) (t : TGs) : TG := fun v σ H Q => ∃ a xs, v = .ref a ∧ SqT K H a xs ∧ xs.length = n ∧ t xs σ H Q
theorem pg_tup {es : List Expr} {k : Nat} {t : TGs} {n : Nat} (hc : X.still = true) (h : PGs X es t)
    (hn : (assignEach es X.env).length = n := by rfl) (hst : (assignEach es X.env).findIdx? (·.1) = none := by rfl) : PG X (.Tuple es k pos) (gTup X.K n t) := by
  intro pins s σ H v u Q I r hw
  obtain ⟨a, xs, e1, hq, hl, hw⟩ := hw
  subst e1
  cases r
  obtain ⟨its, rv, ht, hz⟩ := I.tuple hq
  refine assign_Tuple_still (I.stl hc) ht (by simp [hn, ← hl, rv.length]) hst fun h' hx => ?_
  have I1 : Inv X pins σ H { s with heap := h' } := I.kept (t' := s.toks) fun b o e => hx b o (Nat.ne_of_lt (Heap.lt_size e)) e
  exact h pins _ σ H xs _ Q I1 (by simpa using rv) hw
def gSub (to ti : TE) (t : TSet) : TG := fun v σ H Q => to σ H fun o H1 => ti σ H1 fun i H2 => t o i v H2 fun H3 => Q σ H3
def tAsg (te : TE) (g : TG) : TS := fun D σ H => te σ H fun x H1 => g x σ H1 D.nx
theorem ps_asg {tg e : Expr} {te : TE} {g : TG} (he : PE X e te) (hg : PG X tg g) (hs : swapsWithSole [tg] e pos.line X.env = pure false := by rfl) (hw : swappedStores [tg] e X.env = pure none := by rfl)
    (h1 : (assignEach [tg] X.env).map (·.2) = [assign tg X.env] := by rfl) : PS X (.Assign [tg] e pos) (tAsg te g) := by
  intro pins s σ H D I h
  refine wpAny_Assign_stores (thn (he pins s σ H _ I h) fun v s1 ⟨x, H1, I1, r1, q1⟩ => ?_) hs hw
  rw [h1]
  exact thn (hg pins s1 σ H1 x v _ I1 r1 q1) fun _ s2 q => q
theorem ps_set {i : Nat} {x : Str} {e : Expr} {te : TE} {pos' : Pos} (hN : X.N.Nodup) (hi : X.N[i]? = some x) (hx : Loc X.env.scope x) (he : PE X e te) (hs : swapsWith e (some (.Name x pos')) pos.line X.env = pure false := by rfl) (hf : X.fn x = true ∨ X.env.scope.names.lookup x = some .local := by first | exact .inl rfl | exact .inr rfl | assumption) :
    PS X (.Assign [.Name x pos'] e pos) (tAsg te (gName i)) := by
  intro pins s σ H D I h
  refine wpAny_Assign_Name (thn (he pins s σ H _ I h) fun v s1 ⟨y, H1, I1, r1, q1⟩ => ?_) hs
  exact store_ok I1 hN hi hx r1 (fun s2 I2 => ⟨_, H1, I2, q1⟩) hf
def tPar (i j : Nat) (ta : TA) : TS := fun D σ H => ta σ H fun vs H1 => ∃ v w, vs = [v, w] ∧ D.nx ((σ.set i (some v)).set j (some w)) H1
def tAug (i : Nat) (te : TE) (ti : TIp) : TS := fun D σ H => ∃ x, σ[i]? = some (some x) ∧ te σ H fun y H1 => ti x y H1 fun z H2 => D.nx (σ.set i (some z)) H2
def tAugS (to ti te : TE) (tget : V → V → Hp → VK → Prop) (tip : TIp) (tset : TSet) : TS := fun D σ H => to σ H fun o H1 => ti σ H1 fun i H2 => tget o i H2 fun x H3 => te σ H3 fun y H4 => tip x y H4 fun z H5 => tset o i z H5 fun H6 => D.nx σ H6
def PGet (X : Cx) (t : V → V → Hp → VK → Prop) : Prop :=
  ∀ (pins : List (Addr × Obj)) (s : Shared) (σ : St) (H : Hp) (o i : V) (ov iv : Value) (Q : VK), Inv X pins σ H s → RelV o ov → RelV i iv → t o i H Q →
    wpAny (model X.prog X.w) X.A (getItem ov iv) (EP X pins σ Q) X.xe s
def ipI (f : Int → Int → Int) : TIp := fun x y H Q => ∃ i j, x = .int i ∧ y = .int j ∧ Q (.int (f i j)) H
end

section
variable {X : Cx} {pos : Pos}
def tWhile (c : TT) (tb : TS) : TS := fun D σ H => ∃ W : Nat → St → Hp → Prop, (∃ m, W m σ H) ∧ ∀ m σ H, W m σ H →
  c σ H fun b H1 => if b = true then ∃ N : St → Hp → Prop, (∀ σ' H', N σ' H' → ∃ m', m' < m ∧ W m' σ' H') ∧ tb { D with nx := N, ct := N, bk := D.nx } σ H1 else D.nx σ H1
end

structure It where
  go : Nat → Hp → Prop
  yld : Nat → Hp → V → Hp → Prop
  stop : Nat → Hp → Prop
def FpOk (X : Cx) (pins : List (Addr × Obj)) (H : Hp) (b : Addr) : Prop :=
  H b = none ∧ b ≠ X.env.locals ∧ b ∉ X.fs ∧ (b ∈ X.ex ∨ X.s₀.heap.objs.size ≤ b) ∧ (∀ x c, X.env.cells.lookup x = some c → c ≠ b) ∧ ∀ p ∈ X.pn ++ pins, p.1 ≠ b
theorem Inv.fpOk {X : Cx} {pins : List (Addr × Obj)} {σ : St} {H H' : Hp} {s : Shared} {b : Addr} (I : Inv X pins σ H s) (hb : s.heap.objs.size ≤ b) (hn : H' b = none) : FpOk X pins H' b := by
  refine ⟨hn, Nat.ne_of_gt (Nat.lt_of_lt_of_le I.lt hb), I.nofs hb, .inr (Nat.le_trans I.sz hb), fun x c e z => ?_, fun p hp z => ?_⟩
  · obtain ⟨v, q⟩ := I.cell x c e
    exact absurd (Nat.lt_of_lt_of_le q.lt (by rw [z]; exact hb)) (Nat.lt_irrefl _)
  · exact absurd (Nat.lt_of_lt_of_le (Heap.lt_size (I.pin p hp).1) (by rw [z]; exact hb)) (Nat.lt_irrefl _)
structure Turn (P : Program) (w : World) (K : PySem.W.Frag) (tg : Expr) (J : It) (fp : List Addr) (it : Addr) (tn : Nat → Heap → Prop) : Prop where
  mem : it ∈ fp
  obj : ∀ i h, tn i h → ∀ b ∈ fp, ∃ o, h.get? b = some o ∧ ∀ v, o.data ≠ .cell v
  keep : ∀ i h h', tn i h → (∀ b ∈ fp, ∀ o, h.get? b = some o → h'.get? b = some o) → tn i h'
  item : ∀ (X : Cx), X.prog = P → X.w = w → X.K = K → X.still = true → ∀ (i : Nat) (pins : List (Addr × Obj)) (s : Shared) (σ : St) (H : Hp) (E : Value → Shared → Prop), Inv X pins σ H s → (∀ b ∈ fp, FpOk X pins H b) → tn i s.heap → J.go i H →
    wpAny (model P w) X.A (pyNext (.ref it)) (fun r s1 => ∃ u, r = some u ∧
      wpAny (model P w) X.A (letOwnedTupleGo tg (.ref it) u) (fun _ s2 => ∃ x H', Inv X pins σ H' s2 ∧ RelV x u ∧ J.yld i H x H' ∧ tn (i + 1) s2.heap ∧ ∀ b ∈ fp, H' b = none) E s1) E s
  done : ∀ (X : Cx), X.prog = P → X.w = w → X.K = K → X.still = true → ∀ (i : Nat) (pins : List (Addr × Obj)) (s : Shared) (σ : St) (H : Hp) (E : Value → Shared → Prop), Inv X pins σ H s → (∀ b ∈ fp, FpOk X pins H b) → tn i s.heap → J.stop i H →
    wpAny (model P w) X.A (pyNext (.ref it)) (fun r s1 => r = none ∧ Inv X pins σ H s1) E s
  self : ∀ (A : Around) (i : Nat) (s : Shared) (Q : Value → Shared → Prop) (E : Value → Shared → Prop), tn i s.heap → Q (.ref it) s → wpAny (model P w) A (pyIter (.ref it)) Q E s
abbrev TI := St → Hp → (It → Hp → Prop) → Prop
def PIE (X : Cx) (pins : List (Addr × Obj)) (σ : St) (tg : Expr) (R : It → Hp → Prop) (itv : Value) (s2 : Shared) : Prop :=
  ∃ (it : Addr) (fp : List Addr) (tn : Nat → Heap → Prop) (J : It) (H' : Hp), itv = .ref it ∧ Inv X pins σ H' s2 ∧ Turn X.prog X.w X.K tg J fp it tn ∧ tn 0 s2.heap ∧ (∀ b ∈ fp, FpOk X pins H' b) ∧ R J H'
def PI (X : Cx) (tg iter : Expr) (wi : TI) : Prop :=
  ∀ (pins : List (Addr × Obj)) (s : Shared) (σ : St) (H : Hp) (R : It → Hp → Prop), Inv X pins σ H s → wi σ H R →
    wpAny (model X.prog X.w) X.A (eval iter X.env) (fun v s1 => wpAny (model X.prog X.w) X.A (pyIter v) (PIE X pins σ tg R) X.xe s1) X.xe s

theorem go_of {M : Model} {A : Around} {E : Value → Shared → Prop} {s : Shared} {tg : Expr} {it : Addr} {u : Value} {o : Obj} {n : String} {vs : Array Value} {Q : Unit → Shared → Prop} (ho : s.heap.get? it = some o) (hc : o.cls = .type n) (hd : o.data = .fields vs)
    (hn : ["enumerate", "zip", "dict_itemiterator", "dict_reverseitemiterator", "odict_iterator", "itertools.zip_longest", "itertools.pairwise"].contains n = false) (hQ : Q () s) : wpAny M A (letOwnedTupleGo tg (.ref it) u) Q E s := by
  unfold letOwnedTupleGo
  cases tg <;> first
    | exact wpAny_pure hQ
    | (cases u <;> first
        | exact wpAny_pure hQ
        | (refine wpAny_bind (wpAny_load ho ?_)
           rw [hc, hd]
           show wpAny M A (if (["enumerate", "zip", "dict_itemiterator", "dict_reverseitemiterator", "odict_iterator", "itertools.zip_longest", "itertools.pairwise"].contains n && vs[0]? == some (rawInt _)) = true then _ else _) Q E s
           rw [if_neg (by intro h; rw [hn, Bool.false_and] at h; cases h)]
           exact wpAny_pure hQ))

def Itl (K : PySem.W.Frag) (a : Addr) : It :=
  ⟨fun i H => ∃ xs x, SqL K H a xs ∧ xs[i]? = some x, fun i H x H' => H' = H ∧ ∀ xs, SqL K H a xs → xs[i]? = some x, fun i H => ∃ xs, SqL K H a xs ∧ xs.length ≤ i⟩
def Itt (K : PySem.W.Frag) (a : Addr) : It :=
  ⟨fun i H => ∃ xs x, SqT K H a xs ∧ xs[i]? = some x, fun i H x H' => H' = H ∧ ∀ xs, SqT K H a xs → xs[i]? = some x, fun i H => ∃ xs, SqT K H a xs ∧ xs.length ≤ i⟩
def Itr (lo : Int) (n : Nat) : It := ⟨fun i _ => i < n, fun i H x H' => H' = H ∧ x = .int (lo + i), fun i _ => n ≤ i⟩
theorem turn_list {P : Program} {w : World} {K : PySem.W.Frag} {tg : Expr} (a it : Addr) : Turn P w K tg (Itl K a) [it] it (fun i h => h.IsListIter it a i) where
  mem := by simp
  obj := fun i h st b hb => by
    have e : b = it := by simpa using hb
    subst e
    obtain ⟨o, e, c, d⟩ := st
    exact ⟨o, e, fun v z => by rw [d] at z; cases z⟩
  keep := fun i h h' st k => st.at fun o e => k it (by simp) o e
  item := by
    intro X hP hw hK hc i pins s σ H E I hf st hg
    subst hP hw hK
    obtain ⟨xs, x, hq, hx⟩ := hg
    obtain ⟨its, rv, p, hz⟩ := I.list hq
    obtain ⟨u, hu, ru⟩ := rv.get hx
    obtain ⟨f0, f1, f2, f3, f4, f5⟩ := hf it (by simp)
    refine wpAny_pyNext_list_item st p.isList (x := u) (by simpa using hu) fun h' st' sb => ?_
    have I1 : Inv X pins σ H { s with heap := h' } := I.turned (t' := s.toks) (fun b o hb e => (sb.2 b hb).trans e) f0 f1 f3 f4 f5
    obtain ⟨o, e, c, d⟩ := id st'
    exact ⟨u, rfl, go_of (s := { s with heap := h' }) e c d (by decide) ⟨x, H, I1, ru, ⟨rfl, fun ys hy => by rw [I.list_inj hy hq]; exact hx⟩, st', fun b hb => (hf b hb).1⟩⟩
  done := by
    intro X hP hw hK hc i pins s σ H E I hf st hg
    subst hP hw hK
    obtain ⟨xs, hq, hx⟩ := hg
    obtain ⟨its, rv, p, hz⟩ := I.list hq
    obtain ⟨f0, f1, f2, f3, f4, f5⟩ := hf it (by simp)
    have hl := rv.length
    exact list_end_still (I.stl hc) (I.stn hc f0) st p.isList (by simp; omega) fun h' eb => ⟨rfl, I.turned (t' := s.toks) (fun b o hb e => eb b o hb e) f0 f1 f3 f4 f5⟩
  self := fun _ _ _ _ _ st h => wpAny_pyIter_listiter st h
theorem turn_tuple {P : Program} {w : World} {K : PySem.W.Frag} {tg : Expr} (a it : Addr) : Turn P w K tg (Itt K a) [it] it (fun i h => h.IsTupleIter it a i) where
  mem := by simp
  obj := fun i h st b hb => by
    have e : b = it := by simpa using hb
    subst e
    obtain ⟨o, e, c, d⟩ := st
    exact ⟨o, e, fun v z => by rw [d] at z; cases z⟩
  keep := fun i h h' st k => st.at fun o e => k it (by simp) o e
  item := by
    intro X hP hw hK hc i pins s σ H E I hf st hg
    subst hP hw hK
    obtain ⟨xs, x, hq, hx⟩ := hg
    obtain ⟨its, rv, p, hz⟩ := I.tuple hq
    obtain ⟨u, hu, ru⟩ := rv.get hx
    obtain ⟨f0, f1, f2, f3, f4, f5⟩ := hf it (by simp)
    refine wpAny_pyNext_tuple_item st (show s.heap.IsTuple a its.toArray from p) (x := u) (by simpa using hu) fun h' st' sb => ?_
    have I1 : Inv X pins σ H { s with heap := h' } := I.turned (t' := s.toks) (fun b o hb e => (sb.2 b hb).trans e) f0 f1 f3 f4 f5
    obtain ⟨o, e, c, d⟩ := id st'
    exact ⟨u, rfl, go_of (s := { s with heap := h' }) e c d (by decide) ⟨x, H, I1, ru, ⟨rfl, fun ys hy => by rw [I.tuple_inj hy hq]; exact hx⟩, st', fun b hb => (hf b hb).1⟩⟩
  done := by
    intro X hP hw hK hc i pins s σ H E I hf st hg
    subst hP hw hK
    obtain ⟨xs, hq, hx⟩ := hg
    obtain ⟨its, rv, p, hz⟩ := I.tuple hq
    obtain ⟨f0, f1, f2, f3, f4, f5⟩ := hf it (by simp)
    have hl := rv.length
    exact tuple_end_still (I.stl hc) (I.stn hc f0) st (show s.heap.IsTuple a its.toArray from p) (by simp; omega) fun h' eb => ⟨rfl, I.turned (t' := s.toks) (fun b o hb e => eb b o hb e) f0 f1 f3 f4 f5⟩
  self := fun _ _ _ _ _ st h => wpAny_pyIter_tupleiter st h
theorem turn_range {P : Program} {w : World} {K : PySem.W.Frag} {tg : Expr} (it : Addr) (lo : Int) (n : Nat) : Turn P w K tg (Itr lo n) [it] it (fun i h => IsRangeIter h it (lo + (i : Nat) * 1) ((n : Int) - (i : Nat)) 1) where
  mem := by simp
  obj := fun i h st b hb => by
    have e : b = it := by simpa using hb
    subst e
    exact ⟨_, st, fun v z => by
      have z' : Data.fields _ = Data.cell v := z
      cases z'⟩
  keep := fun i h h' st k => k it (by simp) _ st
  item := by
    intro X hP hw hK hc i pins s σ H E I hf st hg
    subst hP hw hK
    obtain ⟨f0, f1, f2, f3, f4, f5⟩ := hf it (by simp)
    refine range_item_still (c := 1) hg st fun v h' tk hv st' kk => ?_
    obtain ⟨t, rfl⟩ := hv
    have I1 : Inv X pins σ H { s with heap := h', toks := tk } := I.turned (fun b o hb e => kk b o (by simpa using hb) e) f0 f1 f3 f4 f5
    refine ⟨_, rfl, go_of (s := { s with heap := h', toks := tk }) (n := "range_iterator") st' rfl rfl (by decide) ⟨.int (lo + i), H, I1, ⟨t, ?_⟩, ⟨rfl, rfl⟩, st', fun b hb => (hf b hb).1⟩⟩
    rw [Int.mul_one]
  done := by
    intro X hP hw hK hc i pins s σ H E I hf st hg
    subst hP hw hK
    obtain ⟨f0, f1, f2, f3, f4, f5⟩ := hf it (by simp)
    exact range_end_still (I.stl hc) st (by have : n ≤ i := hg; omega) fun h' eb => ⟨rfl, I.turned (t' := s.toks) (fun b o hb e => eb b o hb e) f0 f1 f3 f4 f5⟩
  self := fun _ _ _ _ _ st h => wpAny_pyIter_rangeiter st h
end L2

namespace L2
open PySem PySem.Spec PyProof.Rows
section
variable {X : Cx} {tg : Expr}
def iList (K : PySem.W.Frag) (tl : TE) : TI := fun σ H R => tl σ H fun x H1 => ∃ a, x = .ref a ∧ (∃ xs, SqL K H1 a xs) ∧ R (Itl K a) H1
def iTup (K : PySem.W.Frag) (tl : TE) : TI := fun σ H R => tl σ H fun x H1 => ∃ a, x = .ref a ∧ (∃ xs, SqT K H1 a xs) ∧ R (Itt K a) H1
theorem pi_list {l : Expr} {tl : TE} (hl : PE X l tl) : PI X tg l (iList X.K tl) := by
  intro pins s σ H R I h
  refine thn (hl pins s σ H _ I h) fun v s1 ⟨x, H1, I1, r1, q1⟩ => ?_
  obtain ⟨a, e, ⟨xs, hq⟩, q⟩ := q1
  subst e
  cases r1
  obtain ⟨its, rv, p, hz⟩ := I1.list hq
  refine wpAny_pyIter_list p.isList ?_
  refine ⟨s1.heap.objs.size, [s1.heap.objs.size], _, _, H1, rfl, I1.kept (t' := s1.toks) fun b o e => Heap.get?_push_of_some _ e, turn_list a _, ⟨_, Heap.get?_push_size _ rfl, rfl, rfl⟩, fun b hb => ?_, q⟩
  have e : b = s1.heap.objs.size := by simpa using hb
  subst e
  exact I1.fpOk (Nat.le_refl _) (I1.hok.fresh (Nat.le_refl _))
theorem pi_tup {l : Expr} {tl : TE} (hl : PE X l tl) : PI X tg l (iTup X.K tl) := by
  intro pins s σ H R I h
  refine thn (hl pins s σ H _ I h) fun v s1 ⟨x, H1, I1, r1, q1⟩ => ?_
  obtain ⟨a, e, ⟨xs, hq⟩, q⟩ := q1
  subst e
  cases r1
  obtain ⟨its, rv, p, hz⟩ := I1.tuple hq
  refine wpAny_pyIter_tuple (show s1.heap.IsTuple a its.toArray from p) ?_
  refine ⟨s1.heap.objs.size, [s1.heap.objs.size], _, _, H1, rfl, I1.kept (t' := s1.toks) fun b o e => Heap.get?_push_of_some _ e, turn_tuple a _, ⟨_, Heap.get?_push_size _ rfl, rfl, rfl⟩, fun b hb => ?_, q⟩
  have e : b = s1.heap.objs.size := by simpa using hb
  subst e
  exact I1.fpOk (Nat.le_refl _) (I1.hok.fresh (Nat.le_refl _))
theorem range_it {pins : List (Addr × Obj)} {σ : St} {H : Hp} {s : Shared} {R : It → Hp → Prop} {E : Value → Shared → Prop} {lo hi : Int} {t u v : Tok} {tk : Nat} (I : Inv X pins σ H s) (h1 : -(2 ^ 62) ≤ lo) (h2 : lo < 2 ^ 62) (h3 : -(2 ^ 62) ≤ hi) (h4 : hi < 2 ^ 62)
    (q : R (Itr lo (hi - lo).toNat) H) : wpAny (model X.prog X.w) X.A (pyIter (.ref s.heap.objs.size)) (PIE X pins σ tg R) E { s with heap := s.heap.push { cls := .type "range", data := .fields #[.int lo t, .int hi u, .int 1 v] }, toks := tk } := by
  refine wpAny_pyIter_range (IsRange.new ..) (small_one h1 h2 h3 h4) ?_
  have I1 : Inv X pins σ H { s with heap := s.heap.push { cls := .type "range", data := .fields #[.int lo t, .int hi u, .int 1 v] }, toks := tk } := I.kept fun b o e => Heap.get?_push_of_some _ e
  refine ⟨(s.heap.push { cls := .type "range", data := .fields #[.int lo t, .int hi u, .int 1 v] }).objs.size, [(s.heap.push { cls := .type "range", data := .fields #[.int lo t, .int hi u, .int 1 v] }).objs.size], _, _, H, rfl,
    I1.kept (t' := tk) fun b o e => Heap.get?_push_of_some _ e, turn_range _ lo (hi - lo).toNat, ?_, fun b hb => ?_, q⟩
  · have e1 : lo + ((0 : Nat) : Int) * 1 = lo := by simp
    have e2 : (((hi - lo).toNat : Nat) : Int) - ((0 : Nat) : Int) = Builtin.Range.rangeSize lo hi 1 := by rw [rangeSize_one]; split <;> omega
    show IsRangeIter _ _ (lo + ((0 : Nat) : Int) * 1) ((((hi - lo).toNat : Nat) : Int) - ((0 : Nat) : Int)) 1
    rw [e1, e2]
    exact Heap.get?_push_size _ rfl
  · have e : b = (s.heap.push { cls := .type "range", data := .fields #[.int lo t, .int hi u, .int 1 v] }).objs.size := by simpa using hb
    subst e
    exact I1.fpOk (Nat.le_refl _) (I1.hok.fresh (Nat.le_refl _))
def iRng1 (ta : TA) : TI := fun σ H R => ta σ H fun vs H1 => ∃ j : Int, vs = [.int j] ∧ -(2 ^ 62) ≤ j ∧ j < 2 ^ 62 ∧ R (Itr 0 j.toNat) H1
def iRng2 (ta : TA) : TI := fun σ H R => ta σ H fun vs H1 => ∃ i j : Int, vs = [.int i, .int j] ∧ (-(2 ^ 62) ≤ i ∧ i < 2 ^ 62 ∧ -(2 ^ 62) ≤ j ∧ j < 2 ^ 62) ∧ R (Itr i (j - i).toNat) H1
theorem pi_range1 {a : Expr} {ta : TA} {p pos : Pos} (hg : Gl X "range") (hm : X.mg "range" = none) (ha : PA X [a] ta) (hs : starEach [a] X.env = [(false, eval a X.env)] := by rfl) : PI X tg (.Call (.Name "range" p) [a] [] pos) (iRng1 ta) := by
  intro pins s σ H R I h
  refine Call_ (ld_blt I hg hm boot_range (PyProof.Rows.callWith_type1 (thn (ha pos pins s σ H _ I h) fun us s1 ⟨vs, H1, I1, r1, q1⟩ => ?_) hs rfl))
  obtain ⟨j, e, q1, q2, q⟩ := q1
  subst e
  cases r1 with
  | cons r rr =>
    cases rr
    obtain ⟨t, rfl⟩ := r
    exact call_range_1 (range_it I1 (by omega) (by omega) q1 q2 (by simpa using q))
def tFor (wi : TI) (g : TG) (tb : TS) : TS := fun D σ H => wi σ H fun J H1 => ∃ W : Nat → Nat → St → Hp → Prop, (∃ m, W 0 m σ H1) ∧ ∀ i m σ H, W i m σ H →
  (J.stop i H ∧ D.nx σ H) ∨ (J.go i H ∧ ∃ N : St → Hp → Prop, (∀ σ' H', N σ' H' → ∃ m', m' < m ∧ W (i + 1) m' σ' H') ∧ ∀ x H', J.yld i H x H' → g x σ H' fun σ2 H2 => tb { D with nx := N, ct := N, bk := D.nx } σ2 H2)
def pinsAt (fp : List Addr) (h : Heap) : List (Addr × Obj) := fp.filterMap fun b => (h.get? b).map fun o => (b, o)
theorem mem_pinsAt {fp : List Addr} {h : Heap} {b : Addr} {o : Obj} (hb : b ∈ fp) (e : h.get? b = some o) : (b, o) ∈ pinsAt fp h := List.mem_filterMap.mpr ⟨b, hb, by rw [e]; rfl⟩
theorem of_pinsAt {fp : List Addr} {h : Heap} {p : Addr × Obj} (hp : p ∈ pinsAt fp h) : p.1 ∈ fp ∧ h.get? p.1 = some p.2 := by
  obtain ⟨b, hb, e⟩ := List.mem_filterMap.mp hp
  cases q : h.get? b with
  | none => rw [q] at e; cases e
  | some o =>
    rw [q] at e
    have e' : (b, o) = p := Option.some.inj e
    subst e'
    exact ⟨hb, q⟩
theorem Inv.pinned {pins : List (Addr × Obj)} {σ : St} {H : Hp} {s : Shared} {fp : List Addr} (I : Inv X pins σ H s) (hf : ∀ b ∈ fp, FpOk X pins H b) (ho : ∀ b ∈ fp, ∃ o, s.heap.get? b = some o ∧ ∀ v, o.data ≠ .cell v) : Inv X (pins ++ pinsAt fp s.heap) σ H s :=
  I.pins_of fun p hp => (List.mem_append.mp hp).elim (fun z => I.pin p (List.mem_append_right _ z)) fun z => by
    obtain ⟨hb, e⟩ := of_pinsAt z
    obtain ⟨f0, f1, f2, _⟩ := hf p.1 hb
    obtain ⟨o, e', d⟩ := ho p.1 hb
    rw [e] at e'; cases e'
    exact ⟨e, f0, f1, f2, d⟩
theorem Inv.unpinned {pins pl : List (Addr × Obj)} {σ : St} {H : Hp} {s : Shared} (I : Inv X (pins ++ pl) σ H s) : Inv X pins σ H s := I.pins_of fun p hp => I.pin p (List.mem_append_right _ (List.mem_append_left _ hp))
theorem ps_for {iter : Expr} {body : List Stmt} {wi : TI} {g : TG} {tb : TS} {pos : Pos} (hp : PassesOwn (model X.prog X.w) X.A X.env X.xe) (hc : X.still = true) (hi : PI X tg iter wi) (hg : PG X tg g) (hb : PSs X body tb)
    (hs : ∀ x, foldedSetIterable iter X.env x = pure x := by intro _; rfl) : PS X (.For tg iter body [] pos) (tFor wi g tb) := by
  intro pins s σ H D I h
  refine wpAny_For (thn (hi pins s σ H _ I h) fun v s1 h1 => thn h1 fun itv s2 h2 => ?_) hs
  obtain ⟨it, fp, tn, J, H2, e, I2, T, st2, f2, W, ⟨m0, w0⟩, turn⟩ := h2
  subst e
  -- what stays true of the iterator's objects through the loop
  have stat : ∀ {H' : Hp}, (∀ b ∈ fp, H' b = none) → ∀ b ∈ fp, FpOk X pins H' b := fun hn b hb => ⟨hn b hb, (f2 b hb).2⟩
  refine codeAny_forLoop_any (fun n s' => ∃ i σ' H', Inv X pins σ' H' s' ∧ tn i s'.heap ∧ (∀ b ∈ fp, H' b = none) ∧ W i n σ' H') ?_ m0 ⟨0, σ, H2, I2, st2, fun b hb => (f2 b hb).1, w0⟩
  rintro n s3 ⟨i, σ3, H3, I3, st3, fr3, w3⟩
  rcases turn i n σ3 H3 w3 with ⟨stop, qn⟩ | ⟨go, N, hN, step⟩
  · refine wpAny_passesOwn hp (thn (T.done X rfl rfl rfl hc i pins s3 σ3 H3 X.xe I3 (stat fr3) st3 stop) fun r s4 ⟨hr, I4⟩ => ?_)
    subst hr
    exact wpAny_execs_nil ⟨σ3, H3, I4, qn⟩
  · refine wpAny_passesOwn hp (thn (T.item X rfl rfl rfl hc i pins s3 σ3 H3 X.xe I3 (stat fr3) st3 go) fun r s4 ⟨u, hr, h4⟩ => ?_)
    subst hr
    refine wpAny_passesOwn hp (thn h4 fun _ s5 ⟨x, H5, I5, r5, y5, st5, fr5⟩ => ?_)
    have I5' := I5.pinned (stat fr5) (T.obj _ _ st5)
    refine wpAny_passesOwn hp (thn (hg _ s5 σ3 H5 x u _ I5' r5 (step x H5 y5)) fun _ s6 ⟨σ6, H6, I6, q6⟩ => ?_)
    refine wpAny_passesOwn hp (thn (hb _ s6 σ6 H6 _ I6 q6) fun f s7 q7 => ?_)
    have again : ∀ {σ7 : St} {H7 : Hp}, Inv X (pins ++ pinsAt fp s5.heap) σ7 H7 s7 → N σ7 H7 → ∃ m, m < n ∧ ∃ i σ' H', Inv X pins σ' H' s7 ∧ tn i s7.heap ∧ (∀ b ∈ fp, H' b = none) ∧ W i m σ' H' := fun {σ7 H7} I7 n7 => by
      obtain ⟨m', hm, w7⟩ := hN σ7 H7 n7
      refine ⟨m', hm, i + 1, σ7, H7, I7.unpinned, T.keep _ _ _ st5 fun b hb o e => (I7.pin (b, o) (List.mem_append_right _ (List.mem_append_right _ (mem_pinsAt hb e)))).1, fun b hb => ?_, w7⟩
      obtain ⟨o, e, d⟩ := T.obj _ _ st5 b hb
      exact (I7.pin (b, o) (List.mem_append_right _ (List.mem_append_right _ (mem_pinsAt hb e)))).2.1
    cases f with
    | next => obtain ⟨σ7, H7, I7, n7⟩ := q7; exact again I7 n7
    | cont => obtain ⟨σ7, H7, I7, n7⟩ := q7; exact again I7 n7
    | brk => obtain ⟨σ7, H7, I7, q7⟩ := q7; exact ⟨σ7, H7, I7.unpinned, q7⟩
    | ret v => obtain ⟨x7, σ7, H7, I7, r7, q7⟩ := q7; exact ⟨x7, σ7, H7, I7.unpinned, r7, q7⟩
end

theorem for_list {K : PySem.W.Frag} {a : Addr} {xs : List V} {g : TG} {tb : TS} {D : Ends} {σ : St} {H : Hp} (Pv : Nat → St → Hp → Prop) (h0 : Pv 0 σ H) (hl : ∀ i σ H, i ≤ xs.length → Pv i σ H → SqL K H a xs)
    (hs : ∀ i x σ H, xs[i]? = some x → Pv i σ H → g x σ H fun σ2 H2 => tb { D with nx := Pv (i + 1), ct := Pv (i + 1), bk := D.nx } σ2 H2) (hd : ∀ σ H, Pv xs.length σ H → D.nx σ H) :
    ∃ W : Nat → Nat → St → Hp → Prop, (∃ m, W 0 m σ H) ∧ ∀ i m σ H, W i m σ H →
      ((Itl K a).stop i H ∧ D.nx σ H) ∨ ((Itl K a).go i H ∧ ∃ N : St → Hp → Prop, (∀ σ' H', N σ' H' → ∃ m', m' < m ∧ W (i + 1) m' σ' H') ∧ ∀ x H', (Itl K a).yld i H x H' → g x σ H' fun σ2 H2 => tb { D with nx := N, ct := N, bk := D.nx } σ2 H2) := by
  refine ⟨fun i m σ H => m = xs.length - i ∧ i ≤ xs.length ∧ Pv i σ H, ⟨xs.length, by simp, Nat.zero_le _, h0⟩, ?_⟩
  rintro i m σ H ⟨rfl, hi, p⟩
  have q := hl i σ H hi p
  by_cases hlt : i < xs.length
  · refine .inr ⟨⟨xs, xs[i], q, by simp [hlt]⟩, Pv (i + 1), fun σ' H' p' => ⟨xs.length - (i + 1), by omega, rfl, hlt, p'⟩, fun x H' y => ?_⟩
    obtain ⟨e, y⟩ := y
    subst e
    exact hs i x σ _ (y xs q) p
  · have e : i = xs.length := by omega
    subst e
    exact .inl ⟨⟨xs, q, Nat.le_refl _⟩, hd σ H p⟩
theorem for_range {lo : Int} {n : Nat} {g : TG} {tb : TS} {D : Ends} {σ : St} {H : Hp} (Pv : Nat → St → Hp → Prop) (h0 : Pv 0 σ H)
    (hs : ∀ i σ H, i < n → Pv i σ H → g (.int (lo + i)) σ H fun σ2 H2 => tb { D with nx := Pv (i + 1), ct := Pv (i + 1), bk := D.nx } σ2 H2) (hd : ∀ σ H, Pv n σ H → D.nx σ H) :
    ∃ W : Nat → Nat → St → Hp → Prop, (∃ m, W 0 m σ H) ∧ ∀ i m σ H, W i m σ H →
      ((Itr lo n).stop i H ∧ D.nx σ H) ∨ ((Itr lo n).go i H ∧ ∃ N : St → Hp → Prop, (∀ σ' H', N σ' H' → ∃ m', m' < m ∧ W (i + 1) m' σ' H') ∧ ∀ x H', (Itr lo n).yld i H x H' → g x σ H' fun σ2 H2 => tb { D with nx := N, ct := N, bk := D.nx } σ2 H2) := by
  refine ⟨fun i m σ H => m = n - i ∧ i ≤ n ∧ Pv i σ H, ⟨n, by simp, Nat.zero_le _, h0⟩, ?_⟩
  rintro i m σ H ⟨rfl, hi, p⟩
  by_cases hlt : i < n
  · refine .inr ⟨hlt, Pv (i + 1), fun σ' H' p' => ⟨n - (i + 1), by omega, rfl, hlt, p'⟩, fun x H' y => ?_⟩
    obtain ⟨e, y⟩ := y
    subst e y
    exact hs i σ _ hlt p
  · have e : i = n := by omega
    subst e
    exact .inl ⟨Nat.le_refl _, hd σ H p⟩
end L2

namespace L2
open PySem PySem.Spec PyProof.Rows

abbrev R2 := V → V → Hp → VK → Prop
def OpR (X : Cx) (f : Value → Value → Sem Value) (r : R2) : Prop :=
  ∀ (pins : List (Addr × Obj)) (s : Shared) (σ : St) (H : Hp) (x y : V) (v u : Value) (Q : VK), Inv X pins σ H s → RelV x v → RelV y u → r x y H Q →
    wpAny (model X.prog X.w) X.A (f v u) (EP X pins σ Q) X.xe s
def UnR (X : Cx) (f : Value → Sem Value) (r : V → Hp → VK → Prop) : Prop :=
  ∀ (pins : List (Addr × Obj)) (s : Shared) (σ : St) (H : Hp) (x : V) (v : Value) (Q : VK), Inv X pins σ H s → RelV x v → r x H Q →
    wpAny (model X.prog X.w) X.A (f v) (EP X pins σ Q) X.xe s
def CallR (X : Cx) (f : Value) (r : List V → Hp → VK → Prop) : Prop :=
  ∀ (pins : List (Addr × Obj)) (s : Shared) (σ : St) (H : Hp) (xs : List V) (us : List Value) (Q : VK), Inv X pins σ H s → Vals xs us → r xs H Q →
    wpAny (model X.prog X.w) X.A (call f us) (EP X pins σ Q) X.xe s
def TruR (X : Cx) (r : V → Hp → (Bool → Hp → Prop) → Prop) : Prop :=
  ∀ (pins : List (Addr × Obj)) (s : Shared) (σ : St) (H : Hp) (x : V) (v : Value) (Q : Bool → Hp → Prop), Inv X pins σ H s → RelV x v → r x H Q →
    wpAny (model X.prog X.w) X.A (truthy v) (TP X pins σ Q) X.xe s

def tOp (r : R2) (ta tb : TE) : TE := fun σ H Q => ta σ H fun x H1 => tb σ H1 fun y H2 => r x y H2 Q
def tUn (r : V → Hp → VK → Prop) (ta : TE) : TE := fun σ H Q => ta σ H fun x H1 => r x H1 Q
def rI (C : Int → Int → Prop) (g : Int → Int → V) : R2 := fun x y H Q => ∃ i j, x = .int i ∧ y = .int j ∧ C i j ∧ Q (g i j) H
def rI0 (g : Int → Int → V) : R2 := fun x y H Q => ∃ i j, x = .int i ∧ y = .int j ∧ Q (g i j) H
def rU (g : Int → V) : V → Hp → VK → Prop := fun x H Q => ∃ i, x = .int i ∧ Q (g i) H

section
variable {X : Cx} {a b c : Expr} {ta tb tc : TE} {pos : Pos}

theorem binT (ha : PE X a ta) (hb : PE X b tb) {pins : List (Addr × Obj)} {s : Shared} {σ : St} {H : Hp} {R : V → V → Hp → Prop} (I : Inv X pins σ H s)
    (h : ta σ H fun x H1 => tb σ H1 fun y H2 => R x y H2) {Q : Value → Shared → Prop} {f : Value → Value → Sem Value}
    (hf : ∀ v u s2 x y H2, Inv X pins σ H2 s2 → RelV x v → RelV y u → R x y H2 → wpAny (model X.prog X.w) X.A (f v u) Q X.xe s2) :
    wpAny (model X.prog X.w) X.A (eval a X.env) (fun v s₁ => wpAny (model X.prog X.w) X.A (eval b X.env) (fun u s₂ => wpAny (model X.prog X.w) X.A (f v u) Q X.xe s₂) X.xe s₁) X.xe s := by
  refine thn (ha pins s σ H _ I h) fun v s1 ⟨x, H1, I1, r1, q1⟩ => ?_
  refine thn (hb pins s1 σ H1 _ I1 q1) fun u s2 ⟨y, H2, I2, r2, q2⟩ => ?_
  exact hf v u s2 x y H2 I2 r1 r2 q2

theorem pe_op {op : Operator} {r : R2} (ho : OpR X (binaryOp op) r) (ha : PE X a ta) (hb : PE X b tb) : PE X (.BinOp a op b pos) (tOp r ta tb) := by
  intro pins s σ H Q I h
  exact wpAny_BinOp (binT ha hb I h fun v u s2 x y H2 I2 rx ry q => ho pins s2 σ H2 x y v u Q I2 rx ry q)
theorem pe_un {op : UnaryOp} {r : V → Hp → VK → Prop} (ho : UnR X (unaryOp op) r) (ha : PE X a ta) : PE X (.UnaryOp op a pos) (tUn r ta) := by
  intro pins s σ H Q I h
  exact UnaryOp_ (thn (ha pins s σ H _ I h) fun v s1 ⟨x, H1, I1, r1, q1⟩ => ho pins s1 σ H1 x v Q I1 r1 q1)
theorem opI {f : Value → Value → Sem Value} {C : Int → Int → Prop} {g : Int → Int → Int}
    (rule : ∀ (i j : Int) (t u : Tok) (s : Shared) (Q : Value → Shared → Prop) (E : Value → Shared → Prop), C i j → Q (.int (g i j) s.toks) { s with toks := s.toks + 1 } → wpAny (model X.prog X.w) X.A (f (.int i t) (.int j u)) Q E s) :
    OpR X f (rI C fun i j => .int (g i j)) := by
  intro pins s σ H x y v u Q I rx ry h
  obtain ⟨i, j, rfl, rfl, hc, q⟩ := h
  obtain ⟨t, rfl⟩ := rx
  obtain ⟨t', rfl⟩ := ry
  exact rule i j t t' s _ _ hc ⟨.int (g i j), H, I.tok _, ⟨_, rfl⟩, q⟩
theorem opI0 {f : Value → Value → Sem Value} {g : Int → Int → Int}
    (rule : ∀ (i j : Int) (t u : Tok) (s : Shared) (Q : Value → Shared → Prop) (E : Value → Shared → Prop), Q (.int (g i j) s.toks) { s with toks := s.toks + 1 } → wpAny (model X.prog X.w) X.A (f (.int i t) (.int j u)) Q E s) :
    OpR X f (rI0 fun i j => .int (g i j)) := by
  intro pins s σ H x y v u Q I rx ry h
  obtain ⟨i, j, rfl, rfl, q⟩ := h
  obtain ⟨t, rfl⟩ := rx
  obtain ⟨t', rfl⟩ := ry
  exact rule i j t t' s _ _ ⟨.int (g i j), H, I.tok _, ⟨_, rfl⟩, q⟩
theorem opB0 {f : Value → Value → Sem Value} {g : Int → Int → Bool}
    (rule : ∀ (i j : Int) (t u : Tok) (s : Shared) (Q : Value → Shared → Prop) (E : Value → Shared → Prop), Q (.bool (g i j)) s → wpAny (model X.prog X.w) X.A (f (.int i t) (.int j u)) Q E s) :
    OpR X f (rI0 fun i j => .bl (g i j)) := by
  intro pins s σ H x y v u Q I rx ry h
  obtain ⟨i, j, rfl, rfl, q⟩ := h
  obtain ⟨t, rfl⟩ := rx
  obtain ⟨t', rfl⟩ := ry
  exact rule i j t t' s _ _ ⟨.bl (g i j), H, I, rfl, q⟩

def CDiv (i j : Int) : Prop := 0 < j ∧ j < 1073741824
def CDivN (i j : Int) : Prop := j ≠ 0 ∧ j.natAbs < 1073741824
def CPow (i j : Int) : Prop := 0 ≤ j ∧ j ≤ 1000000 ∧ i.natAbs < 2 ^ 64
def CMul (i j : Int) : Prop := (-(2 ^ 64) < i ∧ i < 2 ^ 64) ∨ (-(2 ^ 64) < j ∧ j < 2 ^ 64)
theorem op_add : OpR X (binaryOp .Add) (rI0 fun i j => .int (i + j)) := opI0 fun _ _ _ _ _ _ _ q => add_int q
theorem op_sub : OpR X (binaryOp .Sub) (rI0 fun i j => .int (i - j)) := opI0 fun _ _ _ _ _ _ _ q => sub_int q
theorem op_fdiv : OpR X (binaryOp .FloorDiv) (rI CDiv fun i j => .int (i / j)) := opI fun i j _ _ _ _ _ hc q => by
  have h1 : (0 : Int) < j := hc.1
  have h2 : j < 1073741824 := hc.2
  exact floordiv_int (by omega) (by rw [Int.fdiv_eq_ediv_of_nonneg i (by omega)]; exact q) (.inl (PyProof.noPylong_small (by omega)))
theorem op_mod : OpR X (binaryOp .Mod) (rI (fun _ j => 0 < j) fun i j => .int (i % j)) := opI fun i j _ _ _ _ _ hc q => by
  have h1 : (0 : Int) < j := hc
  exact mod_int' (by omega) (by rw [Int.fmod_eq_emod_of_nonneg i (by omega)]; exact q)
theorem unI {f : Value → Sem Value} {g : Int → Int}
    (rule : ∀ (i : Int) (t : Tok) (s : Shared) (Q : Value → Shared → Prop) (E : Value → Shared → Prop), Q (.int (g i) s.toks) { s with toks := s.toks + 1 } → wpAny (model X.prog X.w) X.A (f (.int i t)) Q E s) :
    UnR X f (rU fun i => .int (g i)) := by
  intro pins s σ H x v Q I rx h
  obtain ⟨i, rfl, q⟩ := h
  obtain ⟨t, rfl⟩ := rx
  exact rule i t s _ _ ⟨.int (g i), H, I.tok _, ⟨_, rfl⟩, q⟩
theorem un_neg : UnR X (unaryOp .USub) (rU fun i => .int (-i)) := unI fun _ _ _ _ _ q => neg_int q
end

def scal : V → V → Bool
  | .non, .non => true | .non, .int _ => true | .int _, .non => true | .non, .bl _ => true | .bl _, .non => true | .non, .str _ => true | .str _, .non => true
  | .int _, .int _ => true | .bl _, .bl _ => true | .str _, .str _ => true | .byt _, .byt _ => true
  | .int _, .str _ => true | .str _, .int _ => true | .bl _, .str _ => true | .str _, .bl _ => true
  | _, _ => false
def rEq : R2 := fun x y H Q => scal x y = true ∧ Q (.bl (decide (x = y))) H
def rNe : R2 := fun x y H Q => scal x y = true ∧ Q (.bl (!decide (x = y))) H

theorem dec_int {i j : Int} : decide (V.int i = V.int j) = (i == j) := by
  rw [Bool.eq_iff_iff]
  simp
theorem dec_bl {i j : Bool} : decide (V.bl i = V.bl j) = (i == j) := by
  rw [Bool.eq_iff_iff]
  simp
theorem dec_str {i j : Str} : decide (V.str i = V.str j) = (i == j) := by
  rw [Bool.eq_iff_iff]
  simp
theorem dec_byt {i j : Array UInt8} : decide (V.byt i = V.byt j) = (i.toList == j.toList) := by
  rw [Bool.eq_iff_iff]
  cases i
  cases j
  simp

section
variable {X : Cx} {a b c : Expr} {ta tb tc : TE} {pos : Pos}
theorem fin_bl {pins : List (Addr × Obj)} {σ : St} {H : Hp} {s : Shared} {Q : VK} {k k' : Bool} (I : Inv X pins σ H s) (q : Q (.bl k) H) (e : k = k') : EP X pins σ Q (.bool k') s := by
  subst e
  exact ⟨.bl k, H, I, rfl, q⟩
theorem op_eq : OpR X (compareOp .Eq) rEq := by
  intro pins s σ H x y v u Q I rx ry h
  obtain ⟨hs, q⟩ := h
  cases x with
  | non =>
    cases rx
    cases y with
    | non => cases ry; exact PySem.EqNone.eq_none_none (fin_bl I q (by simp))
    | bl j => cases ry; exact PySem.EqNone.eq_none_bool (fin_bl I q (by simp))
    | int j => obtain ⟨t', rfl⟩ := ry; exact PySem.EqNone.eq_none_int (fin_bl I q (by simp))
    | str j => obtain ⟨t', rfl⟩ := ry; exact PySem.EqNone.eq_none_str (fin_bl I q (by simp))
    | _ => exact absurd (show false = true from hs) Bool.false_ne_true
  | bl i =>
    cases rx
    cases y with
    | non => cases ry; exact PySem.EqNone.eq_bool_none (fin_bl I q (by simp))
    | bl j => cases ry; exact eq_bool (fin_bl I q dec_bl)
    | str j => obtain ⟨t', rfl⟩ := ry; exact PySem.EqMixed.eq_bool_str (fin_bl I q (by simp))
    | _ => exact absurd (show false = true from hs) Bool.false_ne_true
  | int i =>
    obtain ⟨t, rfl⟩ := rx
    cases y with
    | non => cases ry; exact PySem.EqNone.eq_int_none (fin_bl I q (by simp))
    | int j => obtain ⟨t', rfl⟩ := ry; exact eq_int (fin_bl I q dec_int)
    | str j => obtain ⟨t', rfl⟩ := ry; exact PySem.EqMixed.eq_int_str (fin_bl I q (by simp))
    | _ => exact absurd (show false = true from hs) Bool.false_ne_true
  | str i =>
    obtain ⟨t, rfl⟩ := rx
    cases y with
    | non => cases ry; exact PySem.EqNone.eq_str_none (fin_bl I q (by simp))
    | bl j => cases ry; exact PySem.EqMixed.eq_str_bool (fin_bl I q (by simp))
    | int j => obtain ⟨t', rfl⟩ := ry; exact PySem.EqMixed.eq_str_int (fin_bl I q (by simp))
    | str j => obtain ⟨t', rfl⟩ := ry; exact eq_str (fin_bl I q dec_str)
    | _ => exact absurd (show false = true from hs) Bool.false_ne_true
  | byt i =>
    obtain ⟨t, rfl⟩ := rx
    cases y with
    | byt j => obtain ⟨t', rfl⟩ := ry; exact PySem.W.eq_bytes (fin_bl I q dec_byt)
    | _ => exact absurd (show false = true from hs) Bool.false_ne_true
  | _ => cases y <;> exact absurd (show false = true from hs) Bool.false_ne_true
theorem op_ne : OpR X (compareOp .NotEq) rNe := by
  intro pins s σ H x y v u Q I rx ry h
  obtain ⟨hs, q⟩ := h
  cases x with
  | non =>
    cases rx
    cases y with
    | non => cases ry; exact PySem.EqNone.ne_none_none (fin_bl I q (by simp))
    | bl j => cases ry; exact PySem.EqNone.ne_none_bool (fin_bl I q (by simp))
    | int j => obtain ⟨t', rfl⟩ := ry; exact PySem.EqNone.ne_none_int (fin_bl I q (by simp))
    | str j => obtain ⟨t', rfl⟩ := ry; exact PySem.EqNone.ne_none_str (fin_bl I q (by simp))
    | _ => exact absurd (show false = true from hs) Bool.false_ne_true
  | bl i =>
    cases rx
    cases y with
    | non => cases ry; exact PySem.EqNone.ne_bool_none (fin_bl I q (by simp))
    | bl j => cases ry; exact ne_bool (fin_bl I q (congrArg not dec_bl))
    | str j => obtain ⟨t', rfl⟩ := ry; exact PySem.EqMixed.ne_bool_str (fin_bl I q (by simp))
    | _ => exact absurd (show false = true from hs) Bool.false_ne_true
  | int i =>
    obtain ⟨t, rfl⟩ := rx
    cases y with
    | non => cases ry; exact PySem.EqNone.ne_int_none (fin_bl I q (by simp))
    | int j => obtain ⟨t', rfl⟩ := ry; exact ne_int (fin_bl I q (congrArg not dec_int))
    | str j => obtain ⟨t', rfl⟩ := ry; exact PySem.EqMixed.ne_int_str (fin_bl I q (by simp))
    | _ => exact absurd (show false = true from hs) Bool.false_ne_true
  | str i =>
    obtain ⟨t, rfl⟩ := rx
    cases y with
    | non => cases ry; exact PySem.EqNone.ne_str_none (fin_bl I q (by simp))
    | bl j => cases ry; exact PySem.EqMixed.ne_str_bool (fin_bl I q (by simp))
    | int j => obtain ⟨t', rfl⟩ := ry; exact PySem.EqMixed.ne_str_int (fin_bl I q (by simp))
    | str j => obtain ⟨t', rfl⟩ := ry; exact ne_str (fin_bl I q (congrArg not dec_str))
    | _ => exact absurd (show false = true from hs) Bool.false_ne_true
  | byt i =>
    obtain ⟨t, rfl⟩ := rx
    cases y with
    | byt j => obtain ⟨t', rfl⟩ := ry; exact PySem.W.ne_bytes (fin_bl I q (congrArg not dec_byt))
    | _ => exact absurd (show false = true from hs) Bool.false_ne_true
  | _ => cases y <;> exact absurd (show false = true from hs) Bool.false_ne_true

theorem op_lt : OpR X (compareOp .Lt) (rI0 fun i j => .bl (decide (i < j))) := opB0 fun _ _ _ _ _ _ _ q => lt_int q
theorem op_le : OpR X (compareOp .LtE) (rI0 fun i j => .bl (decide (i ≤ j))) := opB0 fun _ _ _ _ _ _ _ q => le_int q
theorem op_gt : OpR X (compareOp .Gt) (rI0 fun i j => .bl (decide (j < i))) := opB0 fun _ _ _ _ _ _ _ q => gt_int q
theorem op_in_str : OpR X (compareOp .In) (fun x y H Q => ∃ i j, x = .str i ∧ y = .str j ∧ Q (.bl (!(Builtin.Str.occurrences j i 0 j.length 1).isEmpty)) H) := by
  intro pins s σ H x y v u Q I rx ry h
  obtain ⟨i, j, rfl, rfl, q⟩ := h
  obtain ⟨t, rfl⟩ := rx
  obtain ⟨t', rfl⟩ := ry
  exact in_str (fin_bl I q rfl)

def isObj : HO → Bool
  | .lst _ => true
  | .ins _ _ _ => true
  | _ => false
theorem nomark (b : Expr) {op : CmpOp} (h : op ≠ .In := by decide) (h2 : op ≠ .NotIn := by decide) : behindInMarks op b = false := by
  have e1 : (op == CmpOp.In) = false := by cases op <;> first | rfl | exact absurd rfl h
  have e2 : (op == CmpOp.NotIn) = false := by cases op <;> first | rfl | exact absurd rfl h2
  cases b <;> simp [behindInMarks, e1, e2]
theorem pe_cmpR {op : CmpOp} {r : R2} (ho : OpR X (compareOp op) r) (ha : PE X a ta) (hb : PE X b tb) (hm : behindInMarks op b = false) : PE X (.Compare a [op] [b] pos) (tOp r ta tb) := by
  intro pins s σ H Q I h
  exact wpAny_Compare1 (binT ha hb I h fun v u s2 x y H2 I2 rx ry q => ho pins s2 σ H2 x y v u Q I2 rx ry q) hm
def tTest (t : TE) : TT := fun σ H Q => t σ H fun x H' => ∃ k, x = .bl k ∧ Q k H'
theorem pt_cmpR {op : CmpOp} {r : R2} (ho : OpR X (compareOp op) r) (ha : PE X a ta) (hb : PE X b tb) (hm : behindInMarks op b = false) : PT X (.Compare a [op] [b] pos) (tTest (tOp r ta tb)) := by
  intro pins s σ H Q I h
  refine wpAny_isTrue_Compare1 (thn (ha pins s σ H _ I h) fun v s1 ⟨x, H1, I1, r1, q1⟩ => thn (hb pins s1 σ H1 _ I1 q1) fun u s2 ⟨y, H2, I2, r2, q2⟩ =>
    thn (ho pins s2 σ H2 x y v u _ I2 r1 r2 q2) fun c s3 ⟨z, H3, I3, r3, k, e, q3⟩ => ?_) hm
  subst e
  cases r3
  exact wpAny_truthy_bool ⟨H3, I3, q3⟩
def tChain (r r' : R2) (ta tb tc : TE) : TE := fun σ H Q => ta σ H fun x H1 => tb σ H1 fun y H2 => r x y H2 fun z H3 => ∃ k, z = .bl k ∧
  (if k = true then tc σ H3 fun w' H4 => r' y w' H4 Q else Q (.bl false) H3)
theorem pt_chain {op op' : CmpOp} {r r' : R2} (ho : OpR X (compareOp op) r) (ho' : OpR X (compareOp op') r') (ha : PE X a ta) (hb : PE X b tb) (hc : PE X c tc)
    (hm : lastMarks [op, op'] [b, c] = false := by with_unfolding_all rfl) : PT X (.Compare a [op, op'] [b, c] pos) (tTest (tChain r r' ta tb tc)) := by
  intro pins s σ H Q I h
  refine isTrue_chain (thn (ha pins s σ H _ I h) fun v s1 ⟨x, H1, I1, r1, q1⟩ => test_link (thn (hb pins s1 σ H1 _ I1 q1) fun u s2 ⟨y, H2, I2, r2, q2⟩ =>
    thn (ho pins s2 σ H2 x y v u _ I2 r1 r2 q2) fun d s3 ⟨z, H3, I3, r3, k, e, q3⟩ => ?_)) hm
  subst e
  cases r3
  refine wpAny_truthy_bool ?_
  cases k with
  | false =>
    obtain ⟨k', e', q'⟩ := q3
    cases e'
    exact ite_ff ⟨H3, I3, q'⟩
  | true =>
    refine ite_tt (test_last (thn (hc pins s3 σ H3 _ I3 q3) fun w' s4 ⟨z', H4, I4, r4, q4⟩ => thn (ho' pins s4 σ H4 y z' u w' _ I4 r2 r4 q4) fun d' s5 ⟨z2, H5, I5, r5, k2, e2, q5⟩ => ?_))
    subst e2
    cases r5
    exact wpAny_truthy_bool ⟨H5, I5, q5⟩

def TruV (K : PySem.W.Frag) (x : V) (H : Hp) (k : Bool) : Prop :=
  match x with
  | .non => k = false
  | .bl b => k = b
  | .int i => k = (i != 0)
  | .str y => y.length ≤ sizeLine ∧ k = ((y.length : Int) != 0)
  | .byt y => y.size ≤ sizeLine ∧ k = ((y.size : Int) != 0)
  | .ref p => (∃ xs, SqL K H p xs ∧ k = !xs.isEmpty) ∨ (∃ xs, SqT K H p xs ∧ k = !xs.isEmpty) ∨ ∃ kvs, H p = some (.dK kvs) ∧ k = !kvs.isEmpty
  | _ => False
theorem line63 : (sizeLine : Nat) < 2 ^ 63 := by rw [sizeLine_eq]; decide
theorem op_add_str : OpR X (binaryOp .Add) (fun x y H Q => ∃ i j, x = .str i ∧ y = .str j ∧ i.length + j.length ≤ sizeLine ∧ Q (.str (i ++ j)) H) := by
  intro pins s σ H x y v u Q I rx ry h
  obtain ⟨i, j, rfl, rfl, hz, q⟩ := h
  obtain ⟨t, rfl⟩ := rx
  obtain ⟨t', rfl⟩ := ry
  exact add_str (fun t' tk => ⟨.str (i ++ j), H, I.tok _, ⟨_, rfl⟩, q⟩) hz
def PlainIxT (b : Expr) : Prop := ∀ o i, subscripted b false o i = operate [o, i] (getItem o i)
theorem vals1 {x : V} {us : List Value} (r : Vals [x] us) : ∃ u, us = [u] ∧ RelV x u := by
  cases r with
  | cons r1 r2 => cases r2; exact ⟨_, rfl, r1⟩
theorem call_abs : CallR X (.builtin "abs") (fun xs H Q => ∃ i, xs = [.int i] ∧ Q (.int (if i < 0 then -i else i)) H) := by
  intro pins s σ H xs us Q I r h
  obtain ⟨i, rfl, q⟩ := h
  obtain ⟨u, rfl, t, rfl⟩ := vals1 r
  exact call_abs_int fun u tk => ⟨.int (if i < 0 then -i else i), H, I.tok _, ⟨_, rfl⟩, q⟩
theorem call_int1 : CallR X (.type "int") (fun xs H Q => (∃ i, xs = [.int i] ∧ Q (.int i) H) ∨ ∃ k, xs = [.bl k] ∧ Q (.int (if k then 1 else 0)) H) := by
  intro pins s σ H xs us Q I r h
  rcases h with ⟨i, rfl, q⟩ | ⟨k, rfl, q⟩
  · obtain ⟨u, rfl, t, rfl⟩ := vals1 r
    exact call_int_int ⟨.int i, H, I, ⟨_, rfl⟩, q⟩
  · obtain ⟨u, rfl, r1⟩ := vals1 r
    cases r1
    exact call_int_bool ⟨.int (if k then 1 else 0), H, I.tok _, ⟨_, rfl⟩, q⟩
theorem call_str_int : CallR X (.type "str") (fun xs H Q => ∃ i, xs = [.int i] ∧ i.natAbs.log2 < 1920 ∧ Q (.str (toString i)) H) := by
  intro pins s σ H xs us Q I r h
  obtain ⟨i, rfl, hz, q⟩ := h
  obtain ⟨u, rfl, t, rfl⟩ := vals1 r
  exact PySem.P.str_of_int hz ⟨.str _, H, I.tok _, ⟨_, rfl⟩, q⟩
def LenV (K : PySem.W.Frag) (x : V) (H : Hp) (n : Nat) : Prop :=
  match x with
  | .str y => y.length ≤ sizeLine ∧ n = y.length
  | .byt y => y.size ≤ sizeLine ∧ n = y.size
  | .ref p => (∃ xs, SqL K H p xs ∧ n = xs.length) ∨ ∃ xs, SqT K H p xs ∧ n = xs.length
  | _ => False
end
end L2

namespace L2
open PySem PySem.Spec PyProof.Rows

structure ObjM (h : Heap) (x dx C : Addr) (mA : Str → Option Value) : Prop where
  obj : h.get? x = some (PySem.W.instObj C dx)
  ns : h.Ns1 dx mA
  ne : dx ≠ x

theorem lookIn_ns {h : Heap} {dx : Addr} {mA : Str → Option Value} (n : h.Ns1 dx mA) : ∃ od, h.get? dx = some od ∧ ∀ name, PySem.W.lookIn name od = some (mA name) := by
  obtain ⟨o, es, ep, ho, hd, hk, _, hm⟩ := n
  refine ⟨o, ho, fun name => ?_⟩
  have e := hm name
  unfold nsFind findBy at e
  rw [← Array.find?_toList] at e
  unfold PySem.W.lookIn
  rw [hd]
  dsimp only
  split
  · rename_i y q
    rw [q] at e
    exact congrArg some e
  · rename_i q
    rw [q] at e
    have a : es.toList.any (·.refKey) = false := by
      rw [List.any_eq_false]
      intro y hy
      obtain ⟨z, t, hkey⟩ := hk y (Array.mem_toList_iff.mp hy)
      simp [DictEntry.refKey, hkey]
    have a' : ¬ es.toList.any (·.refKey) = true := by rw [a]; exact Bool.false_ne_true
    rw [if_neg a']
    exact congrArg some e

theorem ObjM.look {h : Heap} {x dx C : Addr} {mA : Str → Option Value} (I : ObjM h x dx C mA) : ∃ od, PySem.W.InstAt h x (PySem.W.instObj C dx) C (some od) ∧ ∀ name, PySem.W.lookIn name od = some (mA name) :=
  let ⟨od, ho, hl⟩ := lookIn_ns I.ns
  ⟨od, ⟨I.obj, rfl, rfl, ho⟩, hl⟩

section
variable {prog : Program} {w : World} {A : Around} {E : Value → Shared → Prop} {s : Shared} {K : PySem.W.Frag} {x dx C f : Addr} {mA : Str → Option Value} {name : Str} {v : Value}

theorem get_map {expr : Bool} {Q : Value → Shared → Prop} (X : K.In s.heap) (I : ObjM s.heap x dx C mA) (hg : PySem.W.plainGet K C name = true) (hh : PySem.W.hasDictIn K C = true)
    (ha : PySem.W.findIn K (.ref C) name = some none) (hv : mA name = some v) (hv' : PySem.W.handedIn v = true) (h : Q v { s with toks := s.toks + 1 }) :
    wpAny (model prog w) A (getAttr (.ref x) name expr) Q E s := by
  obtain ⟨od, J, hl⟩ := I.look
  exact PySem.W.get_value X J (PySem.W.plainGet_of hg).1 (PySem.W.findObj_own hh ha rfl (by rw [hl, hv])) hv' h

theorem get_meth {pl : Sem Bool} {Q : Value × List Value → Shared → Prop} (X : K.In s.heap) (I : ObjM s.heap x dx C mA) (hg : PySem.W.plainGet K C name = true)
    (hf : PySem.W.findIn K (.ref C) name = some (some (.ref f))) (ht : PySem.W.isFn K (.ref f) = true) (hv : mA name = none) (h : Q (.ref f, [.ref x]) s) :
    wpAny (model prog w) A (getMethod (.ref x) name pl) Q E s := by
  obtain ⟨od, J, hl⟩ := I.look
  exact PySem.W.method_fn X J (PySem.W.plainGet_of hg).1 (PySem.W.plainGet_of hg).2 hf (beq_iff_eq.mp ht) (by show (PySem.W.lookIn name od).map (·.isSome) = some false; rw [hl, hv]; rfl) h

theorem set_map {ns : List Str} {Q : Unit → Shared → Prop} (X : K.In s.heap) (I : ObjM s.heap x dx C mA)
    (hs : PySem.W.findIn K (.ref C) "__setattr__" = some (some (.builtin "object.__setattr__"))) (hp : PySem.W.plainOver K C = true) (ht : PySem.W.takerIn K C name = some none) (hh : PySem.W.hasDictIn K C = true)
    (hw : PySem.Within mA ns) (hsz : ns.length ≤ sizeLine)
    (h : ∀ h', ObjM h' x dx C (fun y => if y = name then some v else mA y) → Heap.SameBut dx s.heap h' → Q () { s with heap := h', toks := s.toks + 2 }) :
    wpAny (model prog w) A (setAttr (.ref x) name v) Q E s := by
  obtain ⟨od, J, hl⟩ := I.look
  refine PySem.W.set_plain X J hs (PySem.W.osa_open (s := { s with toks := s.toks + 1 }) (r := none) X J hp ht fun b => ?_)
  obtain ⟨cd, hc, hd'⟩ := PySem.W.any_some hh
  have hx : s.heap.get? x = some ⟨.ref C, some dx, .plain, #[]⟩ := I.obj
  refine wpAny_bind (wpAny_pure (wpAny_bind (wpAny_bind (wpAny_loadPart hx (wpAny_bind (PySem.W.Looks.here (s := { s with toks := s.toks + 1 }) (PySem.W.looks_clsIn X hc) ?_))))))
  rw [hd']
  refine wpAny_pure (a := some dx) (wpAny_bind (wpAny_pure (wpAny_bind ?_)))
  refine wpAny_nsSet1 (s := { s with toks := s.toks + 1 }) I.ns fun h' hn2 hs2 => ?_
  obtain ⟨oD, esD, epD, hoD, hdD, hcD⟩ := hn2.count (PySem.Within.cons name v hw)
  refine wpAny_bind (wpAny_lookBehind hoD (by rw [hdD]; exact pastItsLine_dict (Nat.le_trans hcD (by rw [List.length_cons]; omega))) ?_)
  exact wpAny_pure (h _ ⟨(hs2.2 _ (Ne.symm I.ne)).trans I.obj, hn2, I.ne⟩ hs2)

theorem make_map {R : Result → Shared → Prop} {vs : List Value} {kw : List (Str × Value)} (X : K.In s.heap) (hm : PySem.W.makesIn K C = true)
    (hi : PySem.W.findIn K (.ref C) "__init__" = some (some (.ref f))) (hf : PySem.W.typeIn K (.ref f) = some (.type "function"))
    (h : codeAny (model prog w) (A.under (.builtin "type.__call__" ⟨.ref C :: vs, kw⟩)) (.call (.ref f) ⟨.ref (s.heap.objs.size + 1) :: vs, kw⟩) (PySem.W.InitBack (s.heap.objs.size + 1) R)
      { s with heap := (s.heap.push PySem.W.emptyDict).push (PySem.W.instObj C s.heap.objs.size) }) :
    codeAny (model prog w) A (.call (.ref C) ⟨vs, kw⟩) R s := by
  obtain ⟨hh, g, d, t, os⟩ := s
  exact PySem.W.make_core (PySem.W.makes_of X hm) (PySem.W.looks_findIn X hi) (fun self => PySem.W.bind_fn X self hf) (.inl rfl) h
end

def putF (f : Str) (v : V) : List (Str × V) → List (Str × V)
  | [] => [(f, v)]
  | (g, x) :: r => if g = f then (g, v) :: r else (g, x) :: putF f v r
theorem lookup_putF (f g : Str) (v : V) : ∀ fs : List (Str × V), (putF f v fs).lookup g = if g = f then some v else fs.lookup g
  | [] => by
    show List.lookup g [(f, v)] = _
    by_cases h : g = f
    · have hb : (g == f) = true := beq_iff_eq.mpr h
      simp only [List.lookup, hb, if_pos h]
    · have hb : (g == f) = false := beq_eq_false_iff_ne.mpr h
      simp only [List.lookup, hb, if_neg h]
  | (k, x) :: r => by
    have ih := lookup_putF f g v r
    rw [show putF f v ((k, x) :: r) = (if k = f then (k, v) :: r else (k, x) :: putF f v r) from rfl]
    by_cases hk : k = f
    · rw [if_pos hk]
      by_cases h : g = k
      · have hb : (g == k) = true := beq_iff_eq.mpr h
        simp only [List.lookup, hb, if_pos (h.trans hk)]
      · have hb : (g == k) = false := beq_eq_false_iff_ne.mpr h
        simp only [List.lookup, hb, if_neg (fun e : g = f => h (e.trans hk.symm))]
    · rw [if_neg hk]
      by_cases h : g = k
      · have hb : (g == k) = true := beq_iff_eq.mpr h
        simp only [List.lookup, hb, if_neg (fun e : g = f => hk (h.symm.trans e))]
      · have hb : (g == k) = false := beq_eq_false_iff_ne.mpr h
        simp only [List.lookup, hb]
        exact ih
theorem keys_putF (f : Str) (v : V) : ∀ fs : List (Str × V), f ∈ (putF f v fs).map (·.1) ∧ ∀ g, g ∈ fs.map (·.1) → g ∈ (putF f v fs).map (·.1)
  | [] => ⟨by simp [putF], fun g h => by simp at h⟩
  | (k, x) :: r => by
    obtain ⟨i1, i2⟩ := keys_putF f v r
    rw [show putF f v ((k, x) :: r) = (if k = f then (k, v) :: r else (k, x) :: putF f v r) from rfl]
    by_cases hk : k = f
    · rw [if_pos hk]
      subst hk
      exact ⟨by simp, fun g h => by simpa using h⟩
    · rw [if_neg hk]
      refine ⟨?_, fun g h => ?_⟩
      · rw [List.map_cons]
        exact List.mem_cons_of_mem _ i1
      · rw [List.map_cons] at h ⊢
        rcases List.mem_cons.mp h with e | e
        · exact List.mem_cons.mpr (.inl e)
        · exact List.mem_cons_of_mem _ (i2 g e)
theorem length_putF (f : Str) (v : V) : ∀ fs : List (Str × V), (putF f v fs).length ≤ fs.length + 1
  | [] => by simp [putF]
  | (k, x) :: r => by
    have ih := length_putF f v r
    rw [show putF f v ((k, x) :: r) = (if k = f then (k, v) :: r else (k, x) :: putF f v r) from rfl]
    by_cases hk : k = f
    · rw [if_pos hk, List.length_cons, List.length_cons]; omega
    · rw [if_neg hk, List.length_cons, List.length_cons]; omega

theorem RelO.some_of {v : V} {o : Option Value} (r : RelO (some v) o) : ∃ u, o = some u ∧ RelV v u := by
  cases o with
  | none => exact (show False from r).elim
  | some u => exact ⟨u, rfl, r⟩
theorem RelO.none_of {o : Option Value} (r : RelO none o) : o = none := by
  cases o with
  | none => rfl
  | some u => exact (show False from r).elim
theorem handed_of {v : V} {u : Value} (r : RelV v u) : PySem.W.handedIn u = true := by
  cases v with
  | non => cases (show u = Value.none from r); rfl
  | bl b => cases (show u = Value.bool b from r); rfl
  | int i => obtain ⟨t, e⟩ := (show ∃ t, u = Value.int i t from r); cases e; rfl
  | str x => obtain ⟨t, e⟩ := (show ∃ t, u = Value.str x t from r); cases e; rfl
  | byt b => obtain ⟨t, e⟩ := (show ∃ t, u = Value.bytes b t from r); cases e; rfl
  | flt b => obtain ⟨t, e⟩ := (show ∃ t, u = Value.float b t from r); cases e; rfl
  | ref a => cases (show u = Value.ref a from r); rfl
  | ty n => cases (show u = Value.type n from r); rfl

section
variable {P : Program} {w : World} {H H' : Hp} {h h' : Heap} {a C dx : Addr} {fs fs' : List (Str × V)}
theorem ins_get (hok : HOk P w H h) (e : H a = some (.ins C dx fs)) : ∃ mA, ObjM h a dx C mA ∧ (∀ f, RelO (fs.lookup f) (mA f)) ∧ PySem.Within mA (fs.map (·.1)) ∧ fs.length ≤ 1000 ∧ H dx = some (.own a) := by
  obtain ⟨d, z, ne, ob, mA, n, r, q⟩ := (show ObjOk P w H h a (.ins C dx fs) from hok a _ e)
  exact ⟨mA, ⟨ob, n, ne⟩, r, q, z, d⟩
end

structure Cls (K : PySem.W.Frag) (C : Addr) : Prop where
  pg : PySem.W.plainGet K C Str.empty = true
  hd : PySem.W.hasDictIn K C = true
  po : PySem.W.plainOver K C = true
  sa : PySem.W.findIn K (.ref C) "__setattr__" = some (some (.builtin "object.__setattr__"))
theorem Cls.get {K : PySem.W.Frag} {C : Addr} (c : Cls K C) (f : Str) : PySem.W.plainGet K C f = true := c.pg
def NoAttr (K : PySem.W.Frag) (C : Addr) (f : Str) : Prop := PySem.W.findIn K (.ref C) f = some none
theorem NoAttr.taker {K : PySem.W.Frag} {C : Addr} {f : Str} (n : NoAttr K C f) : PySem.W.takerIn K C f = some none := by
  unfold PySem.W.takerIn
  rw [show PySem.W.findIn K (.ref C) f = some none from n]
  rfl
structure Con (K : PySem.W.Frag) (C : Addr) (f : Str) (v : V) (u : Value) : Prop where
  at_ : PySem.W.findIn K (.ref C) f = some (some u)
  rel : RelV v u
  get : PySem.W.specialIn K u "__get__" = some none
  cp : PySem.W.copiedNames.contains f = false
structure Meth (K : PySem.W.Frag) (C : Addr) (m : Str) (f : Addr) : Prop where
  at_ : PySem.W.findIn K (.ref C) m = some (some (.ref f))
  fn : PySem.W.isFn K (.ref f) = true
  kp : PySem.W.keepIn K (.ref f) = true

section
variable {X : Cx} {pins : List (Addr × Obj)} {σ : St} {H : Hp} {s : Shared} {a C dx : Addr} {fs : List (Str × V)} {f : Str} {v : V} {A : Around} {E : Value → Shared → Prop}

theorem getattr_ok {b : Bool} {Q : Value → Shared → Prop} (I : Inv X pins σ H s) (e : H a = some (.ins C dx fs)) (c : Cls X.K C) (n : NoAttr X.K C f) (l : fs.lookup f = some v)
    (h : ∀ u s', Inv X pins σ H s' → RelV v u → Q u s') : wpAny (model X.prog X.w) A (getAttr (.ref a) f b) Q E s := by
  obtain ⟨mA, O, r, _, _, _⟩ := ins_get I.hok e
  obtain ⟨u, hu, ru⟩ := RelO.some_of (v := v) (o := mA f) (by rw [← l]; exact r f)
  exact get_map I.kIn O (c.get f) c.hd n hu (handed_of ru) (h u _ (I.tok _) ru)

theorem getmeth_ok {m : Str} {g : Addr} {pl : Sem Bool} {Q : Value × List Value → Shared → Prop} (I : Inv X pins σ H s) (e : H a = some (.ins C dx fs)) (c : Cls X.K C) (k : Meth X.K C m g) (l : fs.lookup m = none)
    (h : Q (.ref g, [.ref a]) s) : wpAny (model X.prog X.w) A (getMethod (.ref a) m pl) Q E s := by
  obtain ⟨mA, O, r, _, _, _⟩ := ins_get I.hok e
  have hn : mA m = none := RelO.none_of (by rw [← l]; exact r m)
  exact get_meth I.kIn O (c.get m) k.at_ k.fn hn h

theorem setattr_ok {y : V} {u : Value} {Q : Unit → Shared → Prop} (I : Inv X pins σ H s) (e : H a = some (.ins C dx fs)) (c : Cls X.K C) (n : NoAttr X.K C f) (hl : fs.length < 1000) (ry : RelV y u)
    (h : ∀ s', Inv X pins σ (upd H a (.ins C dx (putF f y fs))) s' → Q () s') : wpAny (model X.prog X.w) A (setAttr (.ref a) f u) Q E s := by
  obtain ⟨mA, O, r, wi, _, ho⟩ := ins_get I.hok e
  have hz : (fs.map (·.1)).length ≤ sizeLine := by rw [List.length_map, sizeLine_eq]; omega
  refine set_map I.kIn O c.sa c.po n.taker c.hd wi hz fun h' O' sb => h _ ?_
  have hd : ∃ o, h'.get? dx = some o := let ⟨o, _, _, e', _⟩ := O'.ns; ⟨o, e'⟩
  refine I.write (x := a) (e := dx) (by rw [e]; exact True.intro) (.inr ho) (fun b q hb z => (sb.2 b hb).trans z) hd ?_
  refine ⟨by rw [upd_ne O.ne]; exact ho, ?_, O.ne, O'.obj, _, O'.ns, fun g => ?_, fun g hg => ?_⟩
  · have := length_putF f y fs; omega
  · show RelO ((putF f y fs).lookup g) (if g = f then some u else mA g)
    rw [lookup_putF]
    by_cases q : g = f
    · rw [if_pos q, if_pos q]; exact ry
    · rw [if_neg q, if_neg q]; exact r g
  · by_cases q : g = f
    · rw [q]; exact (keys_putF f y fs).1
    · refine (keys_putF f y fs).2 g (wi g fun z => hg ?_)
      show (if g = f then some u else mA g) = none
      rw [if_neg q]; exact z

theorem Inv.made (I : Inv X pins σ H s) : Inv X pins σ (upd (upd H s.heap.objs.size (.own (s.heap.objs.size + 1))) (s.heap.objs.size + 1) (.ins C s.heap.objs.size []))
    { s with heap := (s.heap.push PySem.W.emptyDict).push (PySem.W.instObj C s.heap.objs.size) } := by
  have e1 : (s.heap.push PySem.W.emptyDict).get? s.heap.objs.size = some PySem.W.emptyDict := Heap.get?_push_size s.heap rfl
  have e2 : ((s.heap.push PySem.W.emptyDict).push (PySem.W.instObj C s.heap.objs.size)).get? (s.heap.objs.size + 1) = some (PySem.W.instObj C s.heap.objs.size) := by
    have := Heap.get?_push_size (s.heap.push PySem.W.emptyDict) (o := PySem.W.instObj C s.heap.objs.size) rfl
    rwa [Heap.size_push] at this
  have e3 : (s.heap.push PySem.W.emptyDict).Ns s.heap.objs.size (fun _ => none) := ⟨PySem.W.emptyDict, #[], _, e1, rfl, (fun e he => absurd he (by simp)), fun _ => rfl⟩
  have I1 := I.laid (a := s.heap.objs.size) (o := .own (s.heap.objs.size + 1)) (h' := s.heap.push PySem.W.emptyDict) (t' := s.toks) (fun b u q => Heap.get?_push_of_some _ q) (Nat.le_refl _) ⟨_, e1⟩
  refine I1.laid (a := s.heap.objs.size + 1) (o := .ins C s.heap.objs.size []) (t' := s.toks) (fun b u q => Heap.get?_push_of_some _ q) (Nat.le_of_eq (Heap.size_push _ _)) ?_
  have ne : s.heap.objs.size ≠ s.heap.objs.size + 1 := Nat.ne_of_lt (Nat.lt_succ_self _)
  refine ⟨by rw [upd_ne ne, upd_same], Nat.zero_le _, ne, e2, fun _ => none, (Heap.Ns1.of_empty e3).at fun o q => Heap.get?_push_of_some _ q, fun _ => True.intro, fun y hy => absurd rfl hy⟩

theorem attr_of {prog : Program} {w : World} {env : Env} {e : Expr} {f : Str} {pos : Pos} {s : Shared} {Q : Value → Shared → Prop} (hb : attributeBase e f env (eval e env) = eval e env)
    (h : wpAny (model prog w) A (eval e env) (fun o s₁ => wpAny (model prog w) A (getAttr o f true) Q E s₁) E s) : wpAny (model prog w) A (eval (.Attribute e f pos) env) Q E s :=
  Attribute_any_ h (by rw [arm_eval_Attribute, hb])
end

def tFld (K : PySem.W.Frag) (ta : TE) (f : Str) : TE := fun σ H Q => ta σ H fun x H1 => ∃ a C dx fs v, x = .ref a ∧ H1 a = some (.ins C dx fs) ∧ Cls K C ∧ NoAttr K C f ∧ fs.lookup f = some v ∧ Q v H1
def tCon (K : PySem.W.Frag) (ta : TE) (f : Str) : TE := fun σ H Q => ta σ H fun x H1 => ∃ a C dx fs v u, x = .ref a ∧ H1 a = some (.ins C dx fs) ∧ Cls K C ∧ Con K C f v u ∧ fs.lookup f = none ∧ Q v H1
def sFld (K : PySem.W.Frag) (ta tv : TE) (f : Str) : TS := fun D σ H => tv σ H fun y H1 => ta σ H1 fun x H2 => ∃ a C dx fs, x = .ref a ∧ H2 a = some (.ins C dx fs) ∧ Cls K C ∧ NoAttr K C f ∧ fs.length < 1000 ∧
  D.nx σ (upd H2 a (.ins C dx (putF f y fs)))
def InOp (X : Cx) (op : Operator) (rd : V → V → Hp → VK → Prop) : Prop :=
  ∀ (pins : List (Addr × Obj)) (s : Shared) (σ : St) (H : Hp) (x y : V) (u v : Value) (Q : VK), Inv X pins σ H s → RelV x u → RelV y v → rd x y H Q → wpAny (model X.prog X.w) X.A (inplaceOp op u v) (EP X pins σ Q) X.xe s
def sFldAug (K : PySem.W.Frag) (ta tv : TE) (rd : V → V → Hp → VK → Prop) (f : Str) : TS := fun D σ H => ta σ H fun x H1 => ∃ a C dx fs v, x = .ref a ∧ H1 a = some (.ins C dx fs) ∧ Cls K C ∧ NoAttr K C f ∧ fs.lookup f = some v ∧
  tv σ H1 fun y H2 => rd v y H2 fun z H3 => ∃ dx' fs', H3 a = some (.ins C dx' fs') ∧ fs'.length < 1000 ∧ D.nx σ (upd H3 a (.ins C dx' (putF f z fs')))

section
variable {X : Cx} {o e value : Expr} {f : Str} {pos pos' tpos : Pos} {ta tv : TE}
theorem pe_fld (he : PE X e ta) (hb : attributeBase e f X.env (eval e X.env) = eval e X.env) : PE X (.Attribute e f pos) (tFld X.K ta f) := by
  intro pins s σ H Q I h
  refine attr_of hb (thn (he pins s σ H _ I h) fun u s1 ⟨x, H1, I1, rx, a, C, dx, fs, v, ex, ea, c, n, l, q⟩ => ?_)
  subst ex
  obtain rfl : u = Value.ref a := rx
  exact getattr_ok I1 ea c n l fun u' s2 I2 ru => ⟨v, H1, I2, ru, q⟩
theorem ps_fld (ha : PE X o ta) (hv : PE X value tv) (hs : swapsWith value (some (.Attribute o f pos')) pos.line X.env = pure false) : PS X (.Assign [.Attribute o f pos'] value pos) (sFld X.K ta tv f) := by
  intro pins s σ H D I h
  refine plainObj_wpAny_Assign_Attribute (thn (hv pins s σ H _ I h) fun u s1 ⟨y, H1, I1, ry, q⟩ => thn (ha pins s1 σ H1 _ I1 q) fun ov s2 ⟨x, H2, I2, rx, a, C, dx, fs, ex, ea, c, n, l, q2⟩ => ?_) hs
  subst ex
  obtain rfl : ov = Value.ref a := rx
  exact setattr_ok I2 ea c n l ry fun s3 I3 => ⟨σ, _, I3, q2⟩
def rAdd : V → V → Hp → VK → Prop := fun x y H Q => ∃ i j, x = .int i ∧ y = .int j ∧ Q (.int (i + j)) H
def rSub : V → V → Hp → VK → Prop := fun x y H Q => ∃ i j, x = .int i ∧ y = .int j ∧ Q (.int (i - j)) H
end

section
variable {X : Cx} {pins : List (Addr × Obj)} {σ : St} {H : Hp} {s : Shared} {A : Around} {E : Value → Shared → Prop} {Q : Value → Shared → Prop} {c : Value} {b : Bool}
inductive TyOf (K : PySem.W.Frag) (H : Hp) : V → Value → Prop where
  | non : TyOf K H .non (.type "NoneType")
  | bl (x : Bool) : TyOf K H (.bl x) (.type "bool")
  | int (i : Int) : TyOf K H (.int i) (.type "int")
  | str (x : Str) : TyOf K H (.str x) (.type "str")
  | flt (x : UInt64) : TyOf K H (.flt x) (.type "float")
  | lst {a : Addr} {xs : List V} (e : H a = some (.lst xs)) : TyOf K H (.ref a) (.type "list")
  | frz {a : Addr} {o : Obj} {xs : List V} (e : H a = some (.frz o (.lst xs))) : TyOf K H (.ref a) (.type "list")
  | tup {a : Addr} {xs : List V} (e : H a = some (.tup xs)) : TyOf K H (.ref a) (.type "tuple")
  | dK {a : Addr} {kvs : List (Key × V)} (e : H a = some (.dK kvs)) : TyOf K H (.ref a) (.type "dict")
  | dT {a : Addr} {kvs : List (List Key × V)} (e : H a = some (.dT kvs)) : TyOf K H (.ref a) (.type "dict")
  | ins {a C dx : Addr} {fs : List (Str × V)} (e : H a = some (.ins C dx fs)) (cl : Cls K C) (ha : PySem.W.findIn K (.ref C) "__class__" = some (some (.builtin "object.__class__")))
      (hn : PySem.W.specialIn K (.builtin "object.__class__") "__get__" = some (some (.builtin "getset_descriptor.__get__"))) (htk : PySem.W.takesIn K (.builtin "object.__class__") = some true)
      (hm : PySem.W.mroIn K C (.type "object") = some true) : TyOf K H (.ref a) (.ref C)
theorem isinst_ok {x : V} {u t : Value} (I : Inv X pins σ H s) (rx : RelV x u) (ty : TyOf X.K H x t) (e : PySem.W.kitOne X.K t c = some b) (h : ∀ tk, Q (.bool b) { s with toks := tk }) :
    wpAny (model X.prog X.w) A (call (.builtin "isinstance") [u, c]) Q E s := by
  cases ty with
  | non => cases (show u = Value.none from rx); exact PySem.W.kia_one PySem.W.kitx_none I.kIn True.intro e (fun z => nomatch z) h
  | bl y => cases (show u = Value.bool y from rx); exact PySem.W.kia_one PySem.W.kitx_bool I.kIn True.intro e (fun z => nomatch z) h
  | int i => obtain ⟨t, q⟩ := (show ∃ t, u = Value.int i t from rx); cases q; exact PySem.W.kia_one PySem.W.kitx_int I.kIn True.intro e (fun z => nomatch z) h
  | str y => obtain ⟨t, q⟩ := (show ∃ t, u = Value.str y t from rx); cases q; exact PySem.W.kia_one PySem.W.kitx_str I.kIn True.intro e (fun z => nomatch z) h
  | flt y => obtain ⟨t, q⟩ := (show ∃ t, u = Value.float y t from rx); cases q; exact PySem.W.kia_one PySem.W.kitx_float I.kIn True.intro e (fun z => nomatch z) h
  | @lst a xs ea =>
    cases (show u = Value.ref a from rx)
    obtain ⟨_, _, n, _, h1⟩ := (show ObjOk X.prog X.w H s.heap a (.lst xs) from I.hok a _ ea)
    exact PySem.W.kia_one PySem.W.kitx_list I.kIn ⟨_, h1, rfl⟩ e (fun z => nomatch z) h
  | @frz a ob xs ea =>
    cases (show u = Value.ref a from rx)
    obtain ⟨_, _, _, n, _, h1⟩ := (show ObjOk X.prog X.w H s.heap a (.frz ob (.lst xs)) from I.hok a _ ea)
    exact PySem.W.kia_one PySem.W.kitx_list I.kIn ⟨_, h1, rfl⟩ e (fun z => nomatch z) h
  | @tup a xs ea =>
    cases (show u = Value.ref a from rx)
    obtain ⟨_, _, _, p⟩ := (show ObjOk X.prog X.w H s.heap a (.tup xs) from I.hok a _ ea)
    obtain ⟨o, h1, h2, _⟩ := p
    exact PySem.W.kia_one PySem.W.kitx_tuple I.kIn ⟨o, h1, h2⟩ e (fun z => nomatch z) h
  | @dK a kvs ea =>
    cases (show u = Value.ref a from rx)
    obtain ⟨_, _, vs, _, p⟩ := (show ObjOk X.prog X.w H s.heap a (.dK kvs) from I.hok a _ ea)
    obtain ⟨o, es, ep, h1, h2, _⟩ := p
    exact PySem.W.kia_one PySem.W.kitx_dict I.kIn ⟨o, h1, h2.1⟩ e (fun z => nomatch z) h
  | @dT a kvs ea =>
    cases (show u = Value.ref a from rx)
    obtain ⟨_, _, xs, _, o, es, ep, h1, h2, _⟩ := (show ObjOk X.prog X.w H s.heap a (.dT kvs) from I.hok a _ ea)
    exact PySem.W.kia_one PySem.W.kitx_dict I.kIn ⟨o, h1, h2.1⟩ e (fun z => nomatch z) h
  | @ins a C dx fs ea cl ha hn htk hm =>
    cases (show u = Value.ref a from rx)
    obtain ⟨mA, O, _⟩ := ins_get I.hok ea
    obtain ⟨od, J, _⟩ := O.look
    exact PySem.W.kia_one (PySem.W.kitx_own (cl.get _) cl.hd ha hn htk hm) I.kIn J e (fun z => nomatch z) h
end
end L2

namespace L2
open PySem PySem.Spec PyProof.Rows

structure Room (k : Nat) (A : Around) : Prop where
  hd : A.handled = none
  dp : A.depth + 3 * k + 5 < recursionLimit
  un : A.units + 16 * k + 200 < cLine
theorem Room.mono {j k : Nat} {A : Around} (r : Room k A) (h : j ≤ k) : Room j A := ⟨r.hd, by have := r.dp; omega, by have := r.un; omega⟩
theorem Room.deeper {k : Nat} {A : Around} (r : Room (k + 1) A) (env : Env) : Room k (A.deeper env) :=
  ⟨r.hd, by have := r.dp; show A.depth + 1 + 3 * k + 5 < _; omega, by have := r.un; show A.units + 3 + 16 * k + 200 < _; omega⟩
theorem make_depth {A : Around} {C : Addr} {us : List Value} {kw : List (Str × Value)} : (A.under (.builtin "type.__call__" ⟨.ref C :: us, kw⟩)).depth = A.depth + 1 := by
  first | rfl | simp [Around.under, Code.weight, Code.isCreation, Code.isGuard, Code.isCaller, Code.frames, Code.isFrame, guardIds]
theorem make_units {A : Around} {C : Addr} {us : List Value} {kw : List (Str × Value)} : (A.under (.builtin "type.__call__" ⟨.ref C :: us, kw⟩)).units = A.units + 1 := by
  first | rfl | simp [Around.under, Code.cUnits, Code.frames, Code.isFrame]
theorem Room.make {k : Nat} {A : Around} (r : Room (k + 1) A) (C : Addr) (us : List Value) (kw : List (Str × Value)) : Room k (A.under (.builtin "type.__call__" ⟨.ref C :: us, kw⟩)) :=
  ⟨r.hd, by have := r.dp; rw [make_depth]; omega, by have := r.un; rw [make_units]; omega⟩
theorem Room.depth {k : Nat} {A : Around} (r : Room k A) : A.depth < recursionLimit := by have := r.dp; omega
def tNil : TA := fun _ H Q => Q [] H
def tCons (ta : TE) (tr : TA) : TA := fun σ H Q => ta σ H fun x H1 => tr σ H1 fun xs H2 => Q (x :: xs) H2
section
variable {X : Cx} {e : Expr} {es : List Expr} {te : TE} {t : TA} {pos : Pos}
theorem pa_nil : PA X [] tNil := fun _ _ _ _ H Q I h => Calls.spliced_nil ⟨[], H, I, .nil, h⟩
theorem pa_cons (ha : PE X e te) (hr : PA X es t) (hs : starEach (e :: es) X.env = (false, eval e X.env) :: starEach es X.env := by rfl) : PA X (e :: es) (tCons te t) := by
  intro pos pins s σ H Q I h
  rw [hs]
  show wpAny _ _ (spliced ((false, eval e X.env) :: backTo pos (starEach es X.env))) _ _ s
  refine Calls.spliced_cons (thn (ha pins s σ H _ I h) fun u s1 ⟨x, H1, I1, r1, q1⟩ => ?_)
  exact thn (hr pos pins s1 σ H1 _ I1 q1) fun us s2 ⟨xs, H2, I2, r2, q2⟩ => ⟨x :: xs, H2, I2, .cons r1 r2, q2⟩

def tTup (t : TA) : TE := fun σ H Q => t σ H fun xs H1 => xs.length ≤ sizeLine ∧ ∀ p, H1 p = none → Q (.ref p) (upd H1 p (.tup xs))
def tLst (t : TA) : TE := fun σ H Q => t σ H fun xs H1 => xs.length ≤ sizeLine ∧ ∀ p, H1 p = none → Q (.ref p) (upd H1 p (.lst xs))
theorem pe_tup {x1} (h : PA X es t) : PE X (.Tuple es x1 pos) (tTup t) := by
  intro pins s σ H Q I hq
  refine wpAny_Tuple_spliced (thn (h pos pins s σ H _ I hq) fun us s1 ⟨xs, H1, I1, r, z, q⟩ => ⟨by rw [← r.length]; exact z, ?_⟩)
  have hf : H1 s1.heap.objs.size = none := I1.hok.fresh (Nat.le_refl _)
  refine ⟨.ref s1.heap.objs.size, upd H1 s1.heap.objs.size (.tup xs), I1.laid (t' := s1.toks) (fun b u e => Heap.get?_push_of_some _ e) (Nat.le_refl _) ?_, rfl, q _ hf⟩
  exact ⟨z, us, r, ⟨_, Heap.get?_push_size _ rfl, rfl, _, rfl⟩⟩
theorem pe_lst (h : PA X es t) : PE X (.List es pos) (tLst t) := by
  intro pins s σ H Q I hq
  refine wpAny_List_spliced (thn (h pos pins s σ H _ I hq) fun us s1 ⟨xs, H1, I1, r, z, q⟩ => ⟨by rw [← r.length]; exact z, ?_⟩)
  have hf : H1 s1.heap.objs.size = none := I1.hok.fresh (Nat.le_refl _)
  refine ⟨.ref s1.heap.objs.size, upd H1 s1.heap.objs.size (.lst xs), I1.laid (t' := s1.toks) (fun b u e => Heap.get?_push_of_some _ e) (Nat.le_refl _) ?_, rfl, q _ hf⟩
  exact ⟨z, us, 0, r, Heap.get?_push_size _ rfl⟩
end

abbrev Sp := List V → Hp → VK → XK → Prop
abbrev CXT := List Env → Hp → Shared → XK → Value → Shared → Prop

structure Env0 (P : Program) (w : World) (K : PySem.W.Frag) (mg : Str → Option Value) (base : Heap) (A : Around) (outer : List Env) (s : Shared) (H : Hp) : Prop where
  frames : A.frames = some outer
  mod : Mod K mg base
  bs : ∀ b o, base.get? b = some o → s.heap.get? b = some o ∧ H b = none
  bsz : base.objs.size ≤ s.heap.objs.size
  funs : s.heap.FunFrames base outer
  frf : ∀ b ∈ frs outer, H b = none
  hok : HOk P w H s.heap
  bare : AllBare s.gens
def CE (outer : List Env) (P : Program) (w : World) (H : Hp) (s : Shared) (Q : VK) (u : Value) (s' : Shared) : Prop :=
  ∃ v H', s'.os = s.os ∧ AllBare s'.gens ∧ Un (frs outer) [] H H' s.heap s'.heap ∧ HOk P w H' s'.heap ∧ RelV v u ∧ Q v H'
def CR (CX : CXT) (outer : List Env) (P : Program) (w : World) (H : Hp) (s : Shared) (Q : VK) (E : XK) (r : Result) (s' : Shared) : Prop :=
  match r with
  | .ok (.ret u) => CE outer P w H s Q u s'
  | .ok _ => False
  | .error e => CX outer H s E e s'
structure FnOk (P : Program) (w : World) (K : PySem.W.Frag) (mg : Str → Option Value) (base : Heap) (CX : CXT) (k : Nat) (f : Addr) (fd : FuncData) (ps : List Str) (sp : Sp) : Prop where
  len : ∀ vs H Q E, sp vs H Q E → vs.length = ps.length
  run : ∀ (A : Around) (outer : List Env) (s : Shared) (H : Hp) (args : Args) (us : List Value) (vs : List V) (Q : VK) (E : XK), Room k A → Env0 P w K mg base A outer s H → BindsTo s fd args (ps.zip us) → Vals vs us → sp vs H Q E →
    codeAny (model P w) A (.call (.ref f) args) (CR CX outer P w H s Q E) s
theorem Env0.make {P : Program} {w : World} {K : PySem.W.Frag} {mg : Str → Option Value} {base : Heap} {A : Around} {outer : List Env} {s : Shared} {H : Hp} (e : Env0 P w K mg base A outer s H) (C : Addr) (us : List Value) (kw : List (Str × Value)) :
    Env0 P w K mg base (A.under (.builtin "type.__call__" ⟨.ref C :: us, kw⟩)) outer s H := ⟨by first | exact e.frames | (simpa [Around.under, Code.envs, Code.isFrame, pushEnvs] using e.frames), e.mod, e.bs, e.bsz, e.funs, e.frf, e.hok, e.bare⟩
section
variable {X : Cx} {pins : List (Addr × Obj)} {σ : St} {H : Hp} {s s' : Shared}
theorem Inv.env0 (I : Inv X pins σ H s) : Env0 X.prog X.w X.K X.mg X.base X.A X.stack s H :=
  ⟨I.ok.frames, I.ok.mod, I.bs, Nat.le_trans I.ok.bsz I.sz, I.stack, I.stkFree, I.hok, I.bare⟩
theorem Inv.after {Q : VK} {u : Value} (I : Inv X pins σ H s) (h : CE X.stack X.prog X.w H s Q u s') : EP X pins σ Q u s' := by
  obtain ⟨v, H', os, bare, un, hok, r, q⟩ := h
  obtain ⟨hh, g, d, t, os'⟩ := s'
  obtain rfl : os' = s.os := os
  exact ⟨v, H', I.call (h' := hh) (g' := g) (d' := d) (t' := t) (ch := []) un hok bare (fun b z => absurd z (by simp)), r, q⟩
end

def tCall (sp : Sp) (dvs : List V) (E : XK) (t : TA) : TE := fun σ H Q => t σ H fun vs H1 => sp (vs ++ dvs) H1 Q E
def tMeth (C : Addr) (m : Str) (sp : Sp) (dvs : List V) (E : XK) (ta : TE) (t : TA) : TE := fun σ H Q => ta σ H fun x H1 => ∃ a dx fs, x = .ref a ∧ H1 a = some (.ins C dx fs) ∧ fs.lookup m = none ∧
  t σ H1 fun vs H2 => sp (x :: (vs ++ dvs)) H2 Q E
def tMake (C : Addr) (sp : Sp) (dvs : List V) (E : XK) (t : TA) : TE := fun σ H Q => t σ H fun vs H1 => ∀ x dx, H1 x = none → H1 dx = none → dx ≠ x →
  sp (.ref x :: (vs ++ dvs)) (upd (upd H1 dx (.own x)) x (.ins C dx [])) (fun v H2 => v = .non ∧ Q (.ref x) H2) E

def Binds (K : PySem.W.Frag) (fd : FuncData) (ps : List Str) (ds : List Value) : Prop :=
  ∀ (s : Shared) (us : List Value), K.In s.heap → (us ++ ds).length = ps.length → BindsTo s fd ⟨us, []⟩ (ps.zip (us ++ ds))
theorem Binds.all {K : PySem.W.Frag} {fd : FuncData} {ps : List Str} (h : ∀ us : List Value, us.length = ps.length → bindArgs fd ⟨us, []⟩ = pure (ps.zip us)) : Binds K fd ps [] := fun s us _ hl => by
  rw [List.append_nil] at hl ⊢
  exact .of_eq (h us hl)

def Passes (CX : CXT) (X : Cx) (E : XK) : Prop := ∀ (pins : List (Addr × Obj)) (σ : St) (H : Hp) (s : Shared) (e : Value) (s' : Shared), Inv X pins σ H s → CX X.stack H s E e s' → X.xe e s'

section
variable {X : Cx} {CX : CXT} {k : Nat} {f C : Addr} {fd : FuncData} {ps : List Str} {sp : Sp} {dvs : List V} {ds : List Value} {E : XK} {x m : Str} {p pos apos : Pos} {e o : Expr} {es : List Expr} {ta : TE} {t : TA}

theorem run_fn {pins : List (Addr × Obj)} {σ : St} {H : Hp} {s : Shared} {Q : VK} {us : List Value} {vs : List V} (F : FnOk X.prog X.w X.K X.mg X.base CX k f fd ps sp) (hr : Room k X.A) (hb : Binds X.K fd ps ds) (hd : Vals dvs ds) (hx : Passes CX X E)
    (I : Inv X pins σ H s) (r : Vals vs us) (h : sp (vs ++ dvs) H Q E) : wpAny (model X.prog X.w) X.A (call (.ref f) us) (EP X pins σ Q) X.xe s := by
  have r2 : Vals (vs ++ dvs) (us ++ ds) := r.append hd
  have hl : (us ++ ds).length = ps.length := by rw [← r2.length]; exact F.len _ _ _ _ h
  refine wpAny_call (codeAny_mono (F.run X.A X.stack s H ⟨us, []⟩ (us ++ ds) (vs ++ dvs) Q E hr I.env0 (hb s us I.kIn hl) r2 h) fun r s' hq => ?_)
  cases r with
  | error e => exact hx pins σ H s e s' I hq
  | ok fl =>
    cases fl with
    | ret u => exact I.after hq
    | next => exact False.elim hq
    | brk => exact False.elim hq
    | cont => exact False.elim hq

theorem pe_call (F : FnOk X.prog X.w X.K X.mg X.base CX k f fd ps sp) (hr : Room k X.A) (hg : Gl X x) (hm : X.mg x = some (.ref f)) (hk : PySem.W.keepIn X.K (.ref f) = true) (hb : Binds X.K fd ps ds) (hd : Vals dvs ds) (hx : Passes CX X E)
    (ha : PA X (e :: es) t) (hdb : (x == ("__debug__" : Str)) = false := by decide) (he : starEach (e :: es) X.env = (false, eval e X.env) :: starEach es X.env := by rfl) (hpl : (backTo pos (starEach es X.env)).any (·.1) = false := by rfl) :
    PE X (.Call (.Name x p) (e :: es) [] pos) (tCall sp dvs E t) := by
  intro pins s σ H Q I h
  refine wpAny_Call_Name_kw (ld_glob I hg hm ?_ hdb)
  refine PySem.W.callWith_K (h₀ := X.base) I.ok.mod.kin hk (thn (ha pos pins s σ H _ I h) fun us s1 ⟨vs, H1, I1, r, q⟩ => ⟨I1.kIn, ?_⟩) he hpl
  exact run_fn F hr hb hd hx I1 r q
theorem pe_call0 (F : FnOk X.prog X.w X.K X.mg X.base CX k f fd ps sp) (hr : Room k X.A) (hg : Gl X x) (hm : X.mg x = some (.ref f)) (hk : PySem.W.keepIn X.K (.ref f) = true) (hb : Binds X.K fd ps ds) (hd : Vals dvs ds) (hx : Passes CX X E)
    (hdb : (x == ("__debug__" : Str)) = false := by decide) : PE X (.Call (.Name x p) [] [] pos) (tCall sp dvs E tNil) := by
  intro pins s σ H Q I h
  refine wpAny_Call_Name_kw (ld_glob I hg hm ?_ hdb)
  exact PySem.W.callWith_K0 I.kIn hk (run_fn (us := []) F hr hb hd hx I .nil h)

theorem pe_meth {pl : Sem Bool} (he : PE X o ta) (c : Cls X.K C) (hm : Meth X.K C m f) (F : FnOk X.prog X.w X.K X.mg X.base CX k f fd ps sp) (hr : Room k X.A) (hb : Binds X.K fd ps ds) (hd : Vals dvs ds) (hx : Passes CX X E) (ha : PA X (e :: es) t)
    (hst : starEach (e :: es) X.env = (false, eval e X.env) :: starEach es X.env := by rfl) (hpl : (backTo pos (starEach es X.env)).any (·.1) = false := by rfl)
    (ht : eval (.Call (.Attribute o m apos) (e :: es) [] pos) X.env = (do
      let ov ← eval o X.env
      standAt apos.atName
      let (f, first) ← holding [ov] (getMethod ov m pl)
      callWith pos f first (backTo pos (starEach (e :: es) X.env)) (backToKw pos (keywordEach [] X.env))) := by rfl) :
    PE X (.Call (.Attribute o m apos) (e :: es) [] pos) (tMeth C m sp dvs E ta t) := by
  intro pins s σ H Q I h
  refine PySem.W.methodCall_KW (pl := pl) (thn (he pins s σ H _ I h) fun u s1 ⟨x, H1, I1, rx, a, dx, fs, ex, ea, l, q⟩ => ?_) ht
  subst ex
  obtain rfl : u = Value.ref a := rx
  refine getmeth_ok I1 ea c hm l ?_
  refine PySem.W.callWith_K (first := [.ref a]) (h₀ := X.base) I.ok.mod.kin hm.kp (thn (ha pos pins s1 σ H1 _ I1 q) fun us s2 ⟨vs, H2, I2, r, q2⟩ => ⟨I2.kIn, ?_⟩) hst hpl
  exact run_fn (us := .ref a :: us) (vs := .ref a :: vs) F hr hb hd hx I2 (.cons rfl r) q2
structure Mk (K : PySem.W.Frag) (C f : Addr) : Prop where
  makes : PySem.W.makesIn K C = true
  init : PySem.W.findIn K (.ref C) "__init__" = some (some (.ref f))
  fn : PySem.W.isFn K (.ref f) = true
  kp : PySem.W.keepIn K (.ref C) = true

theorem run_make {pins : List (Addr × Obj)} {σ : St} {H : Hp} {s : Shared} {Q : VK} {us : List Value} {vs : List V} (M : Mk X.K C f) (F : FnOk X.prog X.w X.K X.mg X.base CX k f fd ps sp) (hr : Room (k + 1) X.A) (hb : Binds X.K fd ps ds) (hd : Vals dvs ds)
    (hx : Passes CX X E) (I : Inv X pins σ H s) (r : Vals vs us)
    (h : ∀ x dx, H x = none → H dx = none → dx ≠ x → sp (.ref x :: (vs ++ dvs)) (upd (upd H dx (.own x)) x (.ins C dx [])) (fun v H2 => v = .non ∧ Q (.ref x) H2) E) :
    wpAny (model X.prog X.w) X.A (call (.ref C) us) (EP X pins σ Q) X.xe s := by
  have hq := h (s.heap.objs.size + 1) s.heap.objs.size (I.hok.fresh (Nat.le_succ _)) (I.hok.fresh (Nat.le_refl _)) (Nat.ne_of_lt (Nat.lt_succ_self _))
  have I2 := Inv.made (C := C) I
  have r2 : Vals (V.ref (s.heap.objs.size + 1) :: (vs ++ dvs)) (Value.ref (s.heap.objs.size + 1) :: (us ++ ds)) := .cons rfl (r.append hd)
  have hl : (Value.ref (s.heap.objs.size + 1) :: us ++ ds).length = ps.length := by
    have e := r2.length
    rw [F.len _ _ _ _ hq] at e
    exact e.symm
  refine wpAny_call (make_map (f := f) I.kIn M.makes M.init (beq_iff_eq.mp M.fn) (codeAny_mono (F.run _ X.stack _ _ ⟨Value.ref (s.heap.objs.size + 1) :: us, []⟩ (Value.ref (s.heap.objs.size + 1) :: (us ++ ds)) _ _ E (hr.make C us [])
    (I2.env0.make C us []) (hb _ (Value.ref (s.heap.objs.size + 1) :: us) I2.kIn hl) r2 hq) fun r s' hq' => ?_))
  cases r with
  | error e => exact hx pins σ _ _ e s' I2 hq'
  | ok fl =>
    cases fl with
    | ret u =>
      obtain ⟨v, H', I3, rv, ev, q3⟩ := I2.after hq'
      subst ev
      exact ⟨rv, ⟨V.ref (s.heap.objs.size + 1), H', I3, rfl, q3⟩⟩
    | next => exact False.elim hq'
    | brk => exact False.elim hq'
    | cont => exact False.elim hq'
theorem pe_make0 (M : Mk X.K C f) (F : FnOk X.prog X.w X.K X.mg X.base CX k f fd ps sp) (hr : Room (k + 1) X.A) (hg : Gl X x) (hm : X.mg x = some (.ref C)) (hb : Binds X.K fd ps ds) (hd : Vals dvs ds) (hx : Passes CX X E)
    (hdb : (x == ("__debug__" : Str)) = false := by decide) : PE X (.Call (.Name x p) [] [] pos) (tMake C sp dvs E tNil) := by
  intro pins s σ H Q I h
  refine wpAny_Call_Name_kw (ld_glob I hg hm ?_ hdb)
  exact PySem.W.callWith_K0 I.kIn M.kp (run_make (us := []) M F hr hb hd hx I .nil h)
end

def PK (X : Cx) (kws : List Keyword) (t : TA) : Prop :=
  ∀ (pos : Pos) (pins : List (Addr × Obj)) (s : Shared) (σ : St) (H : Hp) (Q : List V → Hp → Prop), Inv X pins σ H s → t σ H Q → wpAny (model X.prog X.w) X.A (evalAll ((backToKw pos (keywordEach kws X.env)).map (·.2))) (AP X pins σ Q) X.xe s
section
variable {X : Cx} {CX : CXT} {k : Nat} {f C : Addr} {fd : FuncData} {ps ks : List Str} {sp : Sp} {E : XK} {x m : Str} {p pos apos kpos : Pos} {e o : Expr} {es : List Expr} {kws : List Keyword} {te ta : TE} {t tk : TA} {nm : Option Str}
structure KBinds (K : PySem.W.Frag) (fd : FuncData) (ps ks : List Str) (g : List Value → List Value → List Value) (gV : List V → List V → List V) : Prop where
  to : ∀ (s : Shared) (us ws : List Value), K.In s.heap → (g us ws).length = ps.length → BindsTo s fd ⟨us, ks.zip ws⟩ (ps.zip (g us ws))
  rel : ∀ {vs : List V} {us : List Value} {zs : List V} {ws : List Value}, Vals vs us → Vals zs ws → Vals (gV vs zs) (g us ws)
def tCallK (sp : Sp) (gV : List V → List V → List V) (E : XK) (t tk : TA) : TE := fun σ H Q => t σ H fun vs H1 => tk σ H1 fun zs H2 => sp (gV vs zs) H2 Q E
variable {g : List Value → List Value → List Value} {gV : List V → List V → List V}
end

structure FnScope (N P : List Str) (sc : Scope) : Prop where
  kind : sc.kind = .function
  co : sc.isCoroutine = false
  gen : sc.isGenerator = false
  nd : N.Nodup
  pre : N.take P.length = P
  par : ∀ x ∈ P, sc.names.lookup x = some .local ∨ sc.names.lookup x = some .cell
  nofree : ∀ y ∈ sc.names, y.2 ≠ .free

theorem bindL_out {kindOf : Str → Option NameKind} {x : Str} : ∀ {binds : List (Str × Value)} {m : Str → Option Value}, (∀ v, (x, v) ∉ binds) → bindL kindOf binds m x = m x
  | [], _, _ => rfl
  | (n, v) :: r, m, h => by
    unfold bindL
    rw [bindL_out fun w hw => h w (List.mem_cons_of_mem _ hw)]
    split
    · have : x ≠ n := by rintro rfl; exact h v List.mem_cons_self
      simp [this]
    · rfl
theorem bindC_out {kindOf : Str → Option NameKind} {x : Str} : ∀ {binds : List (Str × Value)} {m : Str → Option Value}, (∀ v, (x, v) ∉ binds) → bindC kindOf binds m x = m x
  | [], _, _ => rfl
  | (n, v) :: r, m, h => by
    unfold bindC
    rw [bindC_out fun w hw => h w (List.mem_cons_of_mem _ hw)]
    split
    · rfl
    · have : x ≠ n := by rintro rfl; exact h v List.mem_cons_self
      simp [this]
theorem bindL_get {kindOf : Str → Option NameKind} {x : Str} {v : Value} : ∀ {P : List Str} {vs : List Value} {i : Nat} {m : Str → Option Value}, P.Nodup → P[i]? = some x → vs[i]? = some v → kindOf x = some .local →
    bindL kindOf (P.zip vs) m x = some v
  | [], _, _, _, _, h, _, _ => by simp at h
  | _ :: _, [], _, _, _, _, h, _ => by simp at h
  | p :: P, w :: vs, 0, m, nd, h1, h2, hk => by
    simp at h1 h2; subst h1; subst h2
    show bindL kindOf ((p, w) :: P.zip vs) m p = _
    unfold bindL
    rw [bindL_out fun v hv => (List.nodup_cons.mp nd).1 (List.of_mem_zip hv).1, if_pos hk]
    simp
  | p :: P, w :: vs, i + 1, m, nd, h1, h2, hk => by
    show bindL kindOf ((p, w) :: P.zip vs) m x = _
    unfold bindL
    exact bindL_get (i := i) (List.nodup_cons.mp nd).2 (by simpa using h1) (by simpa using h2) hk
theorem bindC_get {kindOf : Str → Option NameKind} {x : Str} {v : Value} : ∀ {P : List Str} {vs : List Value} {i : Nat} {m : Str → Option Value}, P.Nodup → P[i]? = some x → vs[i]? = some v → kindOf x ≠ some .local →
    bindC kindOf (P.zip vs) m x = some v
  | [], _, _, _, _, h, _, _ => by simp at h
  | _ :: _, [], _, _, _, _, h, _ => by simp at h
  | p :: P, w :: vs, 0, m, nd, h1, h2, hk => by
    simp at h1 h2; subst h1; subst h2
    show bindC kindOf ((p, w) :: P.zip vs) m p = _
    unfold bindC
    rw [bindC_out fun v hv => (List.nodup_cons.mp nd).1 (List.of_mem_zip hv).1, if_neg hk]
    simp
  | p :: P, w :: vs, i + 1, m, nd, h1, h2, hk => by
    show bindC kindOf ((p, w) :: P.zip vs) m x = _
    unfold bindC
    exact bindC_get (i := i) (List.nodup_cons.mp nd).2 (by simpa using h1) (by simpa using h2) hk

def start (N : List Str) (vs : List V) : St := vs.map some ++ List.replicate (N.length - vs.length) none

def cxOf (CX : CXT) (P : Program) (w : World) (K : PySem.W.Frag) (mg : Str → Option Value) (base : Heap) (N : List Str) (qual : Str) (scope : Scope) (f : Addr) (cd : Value) (A : Around) (outer : List Env) (s : Shared) (H : Hp) (E : XK) : Cx where
  prog := P
  w := w
  K := K
  mg := mg
  base := base
  A := A.deeper (envOfC qual scope s.heap.objs.size f cd)
  N := N
  s₀ := s
  H₀ := H
  env := envOfC qual scope s.heap.objs.size f cd
  outer := outer
  stack := envOfC qual scope s.heap.objs.size f cd :: outer
  ex := []
  calm := true
  still := true
  fz := []
  fn := fun _ => true
  pn := []
  xe := fun e s' => wpAny (model P w) (A.deeper (envOfC qual scope s.heap.objs.size f cd)) (leaving (envOfC qual scope s.heap.objs.size f cd) e) (fun _ s'' => CX outer H s E e s'') (fun e' s'' => CX outer H s E e' s'') s'

theorem cell_has {sc : Scope} {n : Nat} {x : Str} (h : sc.names.lookup x = some .cell) : ∃ c, (cellsFrom n sc.names []).lookup x = some c := by
  have q := PySem.W.cellsFrom_some sc.names n [] (.inl h)
  exact Option.isSome_iff_exists.mp q

theorem inv_start {CX : CXT} {P : Program} {w : World} {K : PySem.W.Frag} {mg : Str → Option Value} {base : Heap} {N ps : List Str} {qual : Str} {scope : Scope} {f : Addr} {cd : Value} {A : Around} {outer : List Env} {s s1 : Shared} {H : Hp} {E : XK} {us : List Value} {vs : List V}
    (S : FnScope N ps scope) (hd : A.handled = none) (e0 : Env0 P w K mg base A outer s H) (hl : vs.length = ps.length) (r : Vals vs us)
    (x : InCallC s s.heap.objs.size (bindL (envOfC qual scope s.heap.objs.size f cd).kindOf (ps.zip us) fun _ => none) (cellsFrom (s.heap.objs.size + 1) scope.names []) (bindC (envOfC qual scope s.heap.objs.size f cd).kindOf (ps.zip us) fun _ => none) s1) :
    Inv (cxOf CX P w K mg base N qual scope f cd A outer s H E) [] (start N vs) H s1 := by
  have hpl : ps.length ≤ N.length := by have := congrArg List.length S.pre; rw [List.length_take] at this; omega
  obtain ⟨h1, tk, rfl, hk⟩ := x.done
  have noA : ∀ b : Addr, b ∉ (cxOf CX P w K mg base N qual scope f cd A outer s H E).ex := fun b z => absurd (show b ∈ ([] : List Addr) from z) (by simp)
  refine ⟨⟨e0.mod, S.kind, rfl, rfl, Nat.le_refl _, fun y z c h1 h2 => ?_, fun y hy => ?_, fun y c _ h => ?_, fun _ => hd, fun _ => .inl hd, Around.frames_deeper e0.frames, .inr ⟨rfl, rfl⟩, fun b z => absurd z (noA b), e0.bs, e0.bsz, fun b _ _ => noA b, fun b z => absurd z (noA b), e0.funs, e0.frf⟩,
    (fun p hp => nomatch hp), rfl, e0.bare, Un.kept hk, ⟨_, x.toInCall.ns, fun i y v h1 h2 h3 => ?_⟩, fun y c h => ⟨_, x.cell y c h⟩, e0.hok.fresh (Nat.le_refl _), fun y c h => ?_, fun p hp => absurd (show p ∈ ([] : List (Addr × Obj)) from hp) (by simp), e0.hok.kept hk, ?_⟩
  · exact name_of_addr x.apart (PySem.mem_of_lookup h1) (PySem.mem_of_lookup h2)
  · have hy : scope.names.lookup y = some .cell ∨ scope.names.lookup y = some .free := hy
    rcases hy with hy | hy
    · exact cell_has hy
    · exact absurd rfl (S.nofree _ (PySem.mem_of_lookup hy))
  · exact Nat.le_of_lt (x.above y c (PySem.mem_of_lookup h))
  · have hi : i < vs.length := by
      unfold start at h2
      by_cases hi : i < vs.length
      · exact hi
      · rw [List.getElem?_append_right (by simpa using hi)] at h2
        rw [List.getElem?_replicate] at h2
        split at h2 <;> cases h2
    have ha : vs[i]? = some v := by
      unfold start at h2
      rw [List.getElem?_append_left (by simpa using hi), List.getElem?_map] at h2
      cases e : vs[i]? with
      | none => rw [e] at h2; cases h2
      | some a => rw [e] at h2; cases h2; rfl
    obtain ⟨u, hu, rv⟩ := r.get ha
    have hp : ps[i]? = some y := by
      rw [← S.pre, List.getElem?_take_of_lt (by omega)]; exact h1
    have ndP : ps.Nodup := by rw [← S.pre]; exact S.nd.sublist (List.take_sublist _ _)
    refine ⟨u, rv, ?_⟩
    rcases S.par y (List.mem_of_getElem? hp) with k | k
    · exact .inl ⟨k, bindL_get ndP hp hu k⟩
    · obtain ⟨c, e⟩ := cell_has (n := s.heap.objs.size + 1) k
      refine .inr ⟨.inl k, c, e, ?_⟩
      have q := x.cell y c e
      rw [bindC_get ndP hp hu (by show scope.names.lookup y ≠ _; rw [k]; decide)] at q
      exact q
  · exact e0.hok.fresh (Nat.le_of_lt (x.above y c (PySem.mem_of_lookup h)))
  · unfold start
    show _ = N.length
    rw [List.length_append, List.length_map, List.length_replicate]
    omega

theorem fn_of {CX : CXT} {P : Program} {w : World} {K : PySem.W.Frag} {mg : Str → Option Value} {base : Heap} {k : Nat} {f : Addr} {name qual : Str} {params : Arguments} {body : List Stmt} {scope : Scope} {dV kV doc pm cdv ct oc : Value} {an od : Option Addr}
    {osl : Array (Option Value)} {N ps : List Str} {sp : Sp} (lk : K.lookup f = some ⟨oc, od, .func (PySem.W.fnOf name qual params body scope dV kV doc pm an cdv ct), osl⟩) (hcd : PySem.W.codeIn K cdv qual = true) (S : FnScope N ps scope)
    (len : ∀ vs H Q E, sp vs H Q E → vs.length = ps.length)
    (hbody : ∀ (A : Around) (outer : List Env) (s : Shared) (H : Hp) (vs : List V) (Q : VK) (E : XK), Room k (A.deeper (envOfC qual scope s.heap.objs.size f cdv)) → sp vs H Q E →
      ∃ t, PSs (cxOf CX P w K mg base N qual scope f cdv A outer s H E) body t ∧ t { nx := fun _ H' => Q .non H', rt := Q } (start N vs) H) :
    FnOk P w K mg base CX (k + 1) f (PySem.W.fnOf name qual params body scope dV kV doc pm an cdv ct) ps sp := by
  refine ⟨len, fun A outer s H args us vs Q E hr e0 hb r hsp => ?_⟩
  have hl := len _ _ _ _ hsp
  have KX : K.In s.heap := e0.mod.kin.keeps fun b o e => (e0.bs b o e).1
  have lim : s.heap.NoLimit := e0.mod.nolimit.keeps fun b o e => (e0.bs b o e).1
  have hkind : ∀ y ∈ ps.zip us, scope.names.lookup y.1 = some .local ∨ (scope.names.lookup y.1 = some .cell ∧ ((cellsFrom (s.heap.objs.size + 1) scope.names []).lookup y.1).isSome = true) := fun ⟨n, v⟩ hy => by
    rcases S.par n (List.of_mem_zip hy).1 with q | q
    · exact .inl q
    · exact .inr ⟨q, PySem.W.cellsFrom_some _ _ _ (.inl q)⟩
  refine codeAny_call_function hr.depth (KX _ _ lk) rfl S.co S.gen rfl (PySem.W.codeRec_of KX hcd) (hb _ _ _ _ ?_)
  refine wpAny_newFunctionEnv_cells S.kind hkind fun env he s1 x => ?_
  subst he
  refine ⟨lim.keeps x.toInCall.keep, codeAny_func ?_⟩
  obtain ⟨t, ht, hq⟩ := hbody A outer s H vs Q E (hr.deeper _) hsp
  have I : Inv (cxOf CX P w K mg base N qual scope f cdv A outer s H E) [] (start N vs) H s1 := inv_start S hr.hd e0 hl r x
  refine wpAny_mono (ht [] s1 (start N vs) H _ I hq) (fun fl s' hs => ?_) fun e s' hs => hs
  have fin : ∀ {σ' : St} {H' : Hp} {v : V} {u : Value}, Inv (cxOf CX P w K mg base N qual scope f cdv A outer s H E) [] σ' H' s' → RelV v u → Q v H' → CE outer P w H s Q u s' :=
    fun {σ' H' v u} J rv q => ⟨v, H', J.os, J.bare, J.base, J.hok, rv, q⟩
  cases fl with
  | ret u =>
    obtain ⟨v, σ', H', J, rv, q⟩ := hs
    exact fin J rv q
  | next =>
    obtain ⟨σ', H', J, q⟩ := hs
    exact fin (v := V.non) (u := Value.none) J rfl q
  | brk =>
    obtain ⟨_, _, _, q⟩ := hs
    exact False.elim q
  | cont =>
    obtain ⟨_, _, _, q⟩ := hs
    exact False.elim q
end L2

namespace L2
open PySem PySem.Spec PyProof.Rows
section
variable {X : Cx} {x : Str} {p pos : Pos} {e : Expr} {es : List Expr} {t : TA} {id T : String} {r : List V → Hp → VK → Prop}

def tCB (r : List V → Hp → VK → Prop) (t : TA) : TE := fun σ H Q => t σ H fun vs H1 => r vs H1 Q
theorem pe_callB (hc : CallR X (.builtin id) r) (hg : Gl X x) (hm : X.mg x = none) (hv : bootBuiltins x = some (.builtin id)) (ha : PA X (e :: es) t) (hn : x ≠ "__name__" := by decide) (hdb : (x == ("__debug__" : Str)) = false := by decide)
    (he : starEach (e :: es) X.env = (false, eval e X.env) :: starEach es X.env := by rfl) (hpl : (backTo pos (starEach es X.env)).any (·.1) = false := by rfl) : PE X (.Call (.Name x p) (e :: es) [] pos) (tCB r t) := by
  intro pins s σ H Q I h
  refine wpAny_Call_Name_kw (ld_blt I hg hm hv ?_ hn hdb)
  exact PyProof.Rows.callWith_builtin1 (thn (ha pos pins s σ H _ I h) fun us s1 ⟨vs, H1, I1, r1, q1⟩ => hc pins s1 σ H1 vs us Q I1 r1 q1) he hpl
theorem pe_callTy (hc : CallR X (.type T) r) (hg : Gl X x) (hm : X.mg x = none) (hv : bootBuiltins x = some (.type T)) (ha : PA X (e :: es) t) (hn : x ≠ "__name__" := by decide) (hdb : (x == ("__debug__" : Str)) = false := by decide)
    (he : starEach (e :: es) X.env = (false, eval e X.env) :: starEach es X.env := by rfl) (hpl : (backTo pos (starEach es X.env)).any (·.1) = false := by rfl) : PE X (.Call (.Name x p) (e :: es) [] pos) (tCB r t) := by
  intro pins s σ H Q I h
  refine wpAny_Call_Name_kw (ld_blt I hg hm hv ?_ hn hdb)
  exact PyProof.Rows.callWith_type1 (thn (ha pos pins s σ H _ I h) fun us s1 ⟨vs, H1, I1, r1, q1⟩ => hc pins s1 σ H1 vs us Q I1 r1 q1) he hpl
end
end L2

namespace HT
open PySem PyProof.Rows

def lexLt : List Int → List Int → Bool
  | [], [] => false
  | [], _ :: _ => true
  | _ :: _, [] => false
  | x :: xs, y :: ys => if x = y then lexLt xs ys else decide (x < y)
section
open PySem.SeqAt
open PySem.AutoSeq1 (wpAny_loadPart')
open PySem.MeetsSeq PySem.MeetsSeq2 PySem.MeetsSeq3

end

section
variable {prog : Program} {w : World} {A : Around} {E : Value → Shared → Prop} {s : Shared}

def sIx (n d : Nat) : Option Int → Nat
  | none => d
  | some v => if v < 0 then (v + (n : Int)).toNat else min v.toNat n
end
end HT

namespace L2
open PySem PySem.Spec PyProof.Rows

abbrev TO := St → Hp → (Option Int → Hp → Prop) → Prop
def PO (X : Cx) (e : Option Expr) (t : TO) : Prop :=
  ∀ (pins : List (Addr × Obj)) (s : Shared) (σ : St) (H : Hp) (Q : Option Int → Hp → Prop), Inv X pins σ H s → t σ H Q →
    wpAny (model X.prog X.w) X.A (evalPart e X.env) (fun u s' => ∃ o H', Inv X pins σ H' s' ∧ IsPart u o ∧ Q o H') X.xe s
def tNoPart : TO := fun _ H Q => Q none H
def tPart (t : TE) : TO := fun σ H Q => t σ H fun x H1 => ∃ i, x = .int i ∧ Q (some i) H1

section
variable {X : Cx} {e : Expr} {te : TE} {lo hi : Option Expr} {tl th : TO} {pos p2 : Pos}

theorem po_none : PO X none tNoPart := by
  intro pins s σ H Q I h
  rw [evalPart_none]
  exact wpAny_pure ⟨none, H, I, .none, h⟩
theorem po_some (h : PE X e te) : PO X (some e) (tPart te) := by
  intro pins s σ H Q I hw
  rw [evalPart_some]
  refine thn (h pins s σ H _ I hw) fun u s1 ⟨x, H1, I1, r1, q1⟩ => ?_
  obtain ⟨i, rfl, q⟩ := q1
  obtain ⟨t, rfl⟩ := r1
  exact ⟨some i, H1, I1, .int i t, q⟩

def SlR (X : Cx) (r : V → Option Int → Option Int → Hp → VK → Prop) : Prop :=
  ∀ (pins : List (Addr × Obj)) (s : Shared) (σ : St) (H : Hp) (x : V) (v vl vu : Value) (lo hi : Option Int) (sl : Addr) (Q : VK), Inv X pins σ H s → RelV x v → s.heap.IsSliceOf sl vl vu .none → IsPart vl lo → IsPart vu hi → r x lo hi H Q →
    ∃ T id, typeLookup (.type T) "__getitem__" = pure (some (.builtin id)) ∧ s.TypeIs v T ∧ wpAny (model X.prog X.w) X.A (getItem v (.ref sl)) (EP X pins σ Q) X.xe s
def tSl (r : V → Option Int → Option Int → Hp → VK → Prop) (te : TE) (tl th : TO) : TE := fun σ H Q => te σ H fun x H1 => tl σ H1 fun l H2 => th σ H2 fun u H3 => r x l u H3 Q
theorem pe_slice {r : V → Option Int → Option Int → Hp → VK → Prop} (hr : SlR X r) (he : PE X e te) (hl : PO X lo tl) (hu : PO X hi th) : PE X (.Subscript e (.Slice lo hi none p2) pos) (tSl r te tl th) := by
  intro pins s σ H Q I h
  refine Subscript_ (thn (he pins s σ H _ I h) fun v s1 ⟨x, H1, I1, r1, q1⟩ => ?_)
  refine wpAny_Slice (thn (hl pins s1 σ H1 _ I1 q1) fun vl s2 ⟨l, H2, I2, pl, q2⟩ => thn (hu pins s2 σ H2 _ I2 q2) fun vu s3 ⟨u, H3, I3, pu, q3⟩ => ?_)
  rw [evalPart_none]
  refine wpAny_pure ?_
  have I4 : Inv X pins σ H3 { s3 with heap := s3.heap.push { cls := .type "slice", data := .fields #[vl, vu, .none] } } := I3.kept (t' := s3.toks) fun b ob q => Heap.get?_push_of_some _ q
  obtain ⟨T, id, hT, ht, hg⟩ := hr pins { s3 with heap := s3.heap.push { cls := .type "slice", data := .fields #[vl, vu, .none] } } σ H3 x v vl vu l u s3.heap.objs.size Q I4 r1 (Heap.IsSliceOf.new ..) pl pu q3
  show wpAny (model X.prog X.w) X.A (subscriptTail e (.Slice lo hi none p2) v (.ref s3.heap.objs.size)) (EP X pins σ Q) X.xe { s3 with heap := s3.heap.push { cls := .type "slice", data := .fields #[vl, vu, .none] } }
  exact tail_any (ops := [.ref s3.heap.objs.size, v]) ht hT hg (by with_unfolding_all rfl)

def cutV (xs : List V) (lo hi : Option Int) : List V := (xs.drop (HT.sIx xs.length 0 lo)).take (HT.sIx xs.length xs.length hi - HT.sIx xs.length 0 lo)
theorem cutV_length (xs : List V) (lo hi : Option Int) : (cutV xs lo hi).length ≤ xs.length := by
  unfold cutV
  rw [List.length_take, List.length_drop]
  omega
def rSlT (K : PySem.W.Frag) : V → Option Int → Option Int → Hp → VK → Prop := fun x lo hi H Q => ∃ a xs, x = .ref a ∧ SqT K H a xs ∧
  ¬ (HT.sIx xs.length 0 lo = 0 ∧ HT.sIx xs.length xs.length hi = xs.length) ∧ ∀ p, H p = none → Q (.ref p) (upd H p (.tup (cutV xs lo hi)))
def rLtT (K : PySem.W.Frag) : R2 := fun x y H Q => ∃ a b ns ms, x = .ref a ∧ y = .ref b ∧ SqT K H a (ns.map V.int) ∧ SqT K H b (ms.map V.int) ∧ Q (.bl (HT.lexLt ns ms)) H
def rCatT (K : PySem.W.Frag) : R2 := fun x y H Q => ∃ a b xs ys, x = .ref a ∧ y = .ref b ∧ SqT K H a xs ∧ SqT K H b ys ∧ xs ≠ [] ∧ xs.length + ys.length ≤ sizeLine ∧
  (ys = [] → Q (.ref a) H) ∧ (ys ≠ [] → ∀ p, H p = none → Q (.ref p) (upd H p (.tup (xs ++ ys))))
end
end L2

namespace L2
open PySem PySem.Spec PyProof.Rows

def ixN (n : Nat) (i : Int) : Option Nat := if 0 ≤ i then (if i < n then some i.toNat else none) else if -(n : Int) ≤ i then some (i + n).toNat else none
def atI {α : Type} (xs : List α) (i : Int) : Option α := (ixN xs.length i).bind fun j => xs[j]?
theorem ixN_seq {n : Nat} {i : Int} {j : Nat} (h : ixN n i = some j) : seqIndex? i n = some j ∧ j < n ∧ -(n : Int) ≤ i ∧ i < n := by
  unfold ixN at h
  by_cases h0 : 0 ≤ i
  · rw [if_pos h0] at h
    by_cases h1 : i < n
    · rw [if_pos h1] at h
      have e : i.toNat = j := Option.some.inj h
      exact ⟨by rw [seqIndex_of h0 h1, e], by omega, by omega, h1⟩
    · rw [if_neg h1] at h; cases h
  · rw [if_neg h0] at h
    by_cases h1 : -(n : Int) ≤ i
    · rw [if_pos h1] at h
      have e : (i + n).toNat = j := Option.some.inj h
      exact ⟨by rw [seqIndex_neg (by omega) h1, e], by omega, h1, by omega⟩
    · rw [if_neg h1] at h; cases h
theorem atI_get {α : Type} {xs : List α} {i : Int} {v : α} (h : atI xs i = some v) : ∃ j, seqIndex? i xs.length = some j ∧ xs[j]? = some v ∧ j < xs.length ∧ -(xs.length : Int) ≤ i ∧ i < xs.length := by
  unfold atI at h
  cases e : ixN xs.length i with
  | none => rw [e] at h; cases h
  | some j =>
    rw [e] at h
    obtain ⟨h1, h2, h3, h4⟩ := ixN_seq e
    exact ⟨j, h1, h, h2, h3, h4⟩
theorem atI_nat {α : Type} {xs : List α} {j : Nat} {v : α} (h : xs[j]? = some v) : atI xs (j : Int) = some v := by
  have hj : j < xs.length := (List.getElem?_eq_some_iff.mp h).1
  have e : ixN xs.length (j : Int) = some j := by
    unfold ixN
    rw [if_pos (by omega), if_pos (by omega)]; simp
  unfold atI; rw [e]; exact h
theorem atI_last {α : Type} (xs : List α) (v : α) : atI (xs ++ [v]) (-1) = some v := by
  have hl : (xs ++ [v]).length = xs.length + 1 := by simp
  have e : ixN (xs ++ [v]).length (-1) = some xs.length := by
    unfold ixN
    rw [hl, if_neg (by decide), if_pos (by omega)]
    congr 1
    omega
  unfold atI
  rw [e]
  show (xs ++ [v])[xs.length]? = some v
  simp

def PlainIx (b : Expr) : Prop := ∀ o i, subscripted b false o i = operate [o, i] (getItem o i)
def IxR (X : Cx) (r : R2) : Prop :=
  ∀ (value slice : Expr) (pins : List (Addr × Obj)) (s : Shared) (σ : St) (H : Hp) (x y : V) (v u : Value) (Q : VK), Inv X pins σ H s → RelV x v → RelV y u → r x y H Q →
    subscripted slice false v u = operate [v, u] (getItem v u) → wpAny (model X.prog X.w) X.A (subscriptTail value slice v u) (EP X pins σ Q) X.xe s
def MtR (X : Cx) (id : String) (r : V → List V → Hp → VK → Prop) : Prop :=
  ∀ (pins : List (Addr × Obj)) (s : Shared) (σ : St) (H : Hp) (x : V) (xs : List V) (v : Value) (us : List Value) (Q : VK), Inv X pins σ H s → RelV x v → Vals xs us → r x xs H Q →
    wpAny (model X.prog X.w) X.A (call (.builtin id) (v :: us)) (EP X pins σ Q) X.xe s
section
variable {X : Cx} {a b : Expr} {ta tb : TE} {pos : Pos}
theorem IxR.or {r r' : R2} (h : IxR X r) (h' : IxR X r') : IxR X (fun x y H Q => r x y H Q ∨ r' x y H Q) := by
  intro value slice pins s σ H x y v u Q I rx ry q hs
  rcases q with q | q
  · exact h value slice pins s σ H x y v u Q I rx ry q hs
  · exact h' value slice pins s σ H x y v u Q I rx ry q hs
theorem pe_ix {r : R2} (hr : IxR X r) (ha : PE X a ta) (hb : PE X b tb) (hs : PlainIx b) : PE X (.Subscript a b pos) (tOp r ta tb) := by
  intro pins s σ H Q I h
  exact Subscript_ (binT ha hb I h fun v u s2 x y H2 I2 rx ry q => hr a b pins s2 σ H2 x y v u Q I2 rx ry q (hs _ _))

def rIxL (K : PySem.W.Frag) : R2 := fun x y H Q => ∃ p xs i v, x = .ref p ∧ y = .int i ∧ SqL K H p xs ∧ atI xs i = some v ∧ Q v H
def rIxT (K : PySem.W.Frag) : R2 := fun x y H Q => ∃ p xs i v, x = .ref p ∧ y = .int i ∧ SqT K H p xs ∧ atI xs i = some v ∧ Q v H
def rIxS : R2 := fun x y H Q => ∃ z i c, x = .str z ∧ y = .int i ∧ z.length ≤ sizeLine ∧ atI z.cps.toList i = some c ∧ Q (.str ⟨#[c]⟩) H
theorem ix_list : IxR X (rIxL X.K) := by
  intro value slice pins s σ H x y v u Q I rx ry h hs
  obtain ⟨p, xs, i, z, rfl, rfl, hq, he, q⟩ := h
  cases rx
  obtain ⟨t, rfl⟩ := ry
  obtain ⟨its, r, pl, hz⟩ := I.list hq
  obtain ⟨j, h1, h2, h3, h4, h5⟩ := atI_get he
  obtain ⟨w, ew, rw'⟩ := r.get h2
  have hl := r.length
  have hn := line63
  have fin : EP X pins σ Q w s := ⟨z, H, I, rw', q⟩
  by_cases h0 : 0 ≤ i
  · have hj : i.toNat = j := by
      rw [seqIndex_of h0 h5] at h1
      exact Option.some.inj h1
    exact item_listR pl.isList h0 (by omega) (by rw [hj]; simpa using ew) fin hs
  · have hj : (i + (its.toArray.size : Int)).toNat = j := by
      rw [seqIndex_neg (by omega) h4] at h1
      rw [List.size_toArray, ← hl]
      exact Option.some.inj h1
    exact subscriptTail_builtinR (x := w) pl.isList.typeIs slot_list_getitem.lookup
      (wpAny_getItem_list_neg (Q := fun r s' => r = w ∧ EP X pins σ Q r s') pl.isList (by omega) (by rw [List.size_toArray] <;> omega) (by omega) (by rw [hj]; simpa using ew) ⟨rfl, fin⟩) hs
theorem ix_tup : IxR X (rIxT X.K) := by
  intro value slice pins s σ H x y v u Q I rx ry h hs
  obtain ⟨p, xs, i, z, rfl, rfl, hq, he, q⟩ := h
  cases rx
  obtain ⟨t, rfl⟩ := ry
  obtain ⟨its, r, pl, hz⟩ := I.tuple hq
  obtain ⟨j, h1, h2, h3, h4, h5⟩ := atI_get he
  obtain ⟨w, ew, rw'⟩ := r.get h2
  have hl := r.length
  have hn := line63
  have fin : EP X pins σ Q w s := ⟨z, H, I, rw', q⟩
  exact subscriptTail_builtinR (x := w) pl.typeIs slot_tuple_getitem.lookup
    (getItem_tuple (j := j) (Q := fun r s' => r = w ∧ EP X pins σ Q r s') pl (by omega) (by omega) (by rw [List.size_toArray, ← hl]; exact h1) (by simpa using ew) ⟨rfl, fin⟩) hs
theorem ix_str : IxR X rIxS := by
  intro value slice pins s σ H x y v u Q I rx ry h hs
  obtain ⟨z, i, c, rfl, rfl, hz, he, q⟩ := h
  obtain ⟨t, rfl⟩ := rx
  obtain ⟨t', rfl⟩ := ry
  obtain ⟨j, h1, h2, h3, h4, h5⟩ := atI_get he
  have hl : z.cps.toList.length = z.length := by simp [Str.length]
  rw [hl] at h1 h4 h5
  have hn := line63
  exact tail_any (typeIs_str s z t) slot_str_getitem.lookup (getItem_str (c := c) (by
    have e1 : decide (i < -(2 ^ 63 : Int)) = false := decide_eq_false (by omega)
    have e2 : decide (i ≥ 2 ^ 63) = false := decide_eq_false (by omega)
    rw [e1, e2, Bool.or_false]) (by rw [h1]; simpa using h2) ⟨.str ⟨#[c]⟩, H, I.tok _, ⟨_, rfl⟩, q⟩) hs
def rIx (K : PySem.W.Frag) : R2 := fun x y H Q => rIxL K x y H Q ∨ rIxT K x y H Q ∨ rIxS x y H Q
theorem ix_seq : IxR X (rIx X.K) := ix_list.or (ix_tup.or ix_str)

def rSetL : V → V → V → Hp → (Hp → Prop) → Prop := fun o i v H Q => ∃ p xs k j, o = .ref p ∧ i = .int k ∧ H p = some (.lst xs) ∧ ixN xs.length k = some j ∧ Q (upd H p (.lst (xs.set j v)))
theorem slice_bounds (lo hi : Option Int) (n : Nat) : (sliceBounds lo hi none n).1 = ((HT.sIx n 0 lo : Nat) : Int) ∧ (sliceBounds lo hi none n).2.1 = ((HT.sIx n n hi : Nat) : Int) ∧ (sliceBounds lo hi none n).2.2 = 1 := by
  refine ⟨?_, ?_, rfl⟩
  · cases lo with
    | none => simp [sliceBounds, HT.sIx]
    | some i =>
      simp only [sliceBounds, HT.sIx, Option.getD_none, show (1 : Int) > 0 by decide, if_true]
      by_cases h : i < 0
      · simp only [h, if_true] <;> omega
      · simp only [h, if_false] <;> omega
  · cases hi with
    | none => simp [sliceBounds, HT.sIx]
    | some i =>
      simp only [sliceBounds, HT.sIx, Option.getD_none, show (1 : Int) > 0 by decide, if_true]
      by_cases h : i < 0
      · simp only [h, if_true] <;> omega
      · simp only [h, if_false] <;> omega
theorem slicePick_cut (its : List Value) (lo hi : Option Int) : slicePick its.toArray lo hi none = ((its.drop (HT.sIx its.length 0 lo)).take (HT.sIx its.length its.length hi - HT.sIx its.length 0 lo)).toArray := by
  obtain ⟨h1, h2, h3⟩ := slice_bounds lo hi its.toArray.size
  unfold slicePick
  rw [h1, h2, h3]
  simp only [sliceRange_one, pick_run, List.size_toArray] <;> rfl
def rSlL (K : PySem.W.Frag) : V → Option Int → Option Int → Hp → VK → Prop := fun x lo hi H Q => ∃ a xs, x = .ref a ∧ SqL K H a xs ∧ ∀ p, H p = none → Q (.ref p) (upd H p (.lst (cutV xs lo hi)))
theorem sl_list : SlR X (rSlL X.K) := by
  intro pins s σ H x v vl vu lo hi sl Q I rx hs pl pu h
  obtain ⟨a, xs, rfl, hx, q⟩ := h
  cases rx
  obtain ⟨its, r, ht, hz⟩ := I.list hx
  have hlen := r.length
  refine ⟨"list", _, slot_list_getitem.lookup, ht.isList.typeIs, ?_⟩
  refine wpAny_getItem_list_slice ht.isList hs pl pu .none (by simp) ?_ (by rw [List.size_toArray] <;> omega)
  rw [slicePick_cut, ← hlen]
  refine ⟨.ref s.heap.objs.size, _, I.laid (t' := s.toks) (o := .lst (cutV xs lo hi)) (fun b ob q => Heap.get?_push_of_some _ q) (Nat.le_refl _) ?_, rfl, q _ (I.hok.fresh (Nat.le_refl _))⟩
  exact ⟨Nat.le_trans (cutV_length xs lo hi) hz, _, 0, (r.drop (HT.sIx xs.length 0 lo)).take (HT.sIx xs.length xs.length hi - HT.sIx xs.length 0 lo), Heap.get?_push_size _ rfl⟩

def flatV : V → Bool
  | .non => true
  | .bl _ => true
  | .int _ => true
  | .str _ => true
  | _ => false
def eqV : V → V → Bool
  | .non, .non => true
  | .bl a, .bl b => a == b
  | .bl a, .int b => (if a then 1 else 0) == b
  | .int a, .bl b => a == (if b then 1 else 0)
  | .int a, .int b => a == b
  | .str a, .str b => a == b
  | _, _ => false
theorem eqAt_V {A : Around} {s : Shared} {y x : V} {u v : Value} (ry : RelV y u) (rx : RelV x v) (fy : flatV y = true) (fx : flatV x = true) : SeqAt.EqAt A s u v (eqV y x) := by
  cases y with
  | non =>
    cases ry
    cases x with
    | non => cases rx; exact SeqAt.EqAt.same _
    | bl b => cases rx; exact SeqAt.EqAt.none_bool b
    | int b => obtain ⟨t, rfl⟩ := rx; exact SeqAt.EqAt.none_int b t
    | str b => obtain ⟨t, rfl⟩ := rx; exact SeqAt.EqAt.none_str b t
    | _ => exact absurd (show false = true from fx) Bool.false_ne_true
  | bl a =>
    cases ry
    cases x with
    | non => cases rx; exact SeqAt.EqAt.bool_none a
    | bl b => cases rx; exact SeqAt.EqAt.bool_bool a b
    | int b => obtain ⟨t, rfl⟩ := rx; exact SeqAt.EqAt.bool_int a b t
    | str b => obtain ⟨t, rfl⟩ := rx; exact SeqAt.EqAt.bool_str a b t
    | _ => exact absurd (show false = true from fx) Bool.false_ne_true
  | int a =>
    obtain ⟨t', rfl⟩ := ry
    cases x with
    | non => cases rx; exact SeqAt.EqAt.int_none a t'
    | bl b => cases rx; exact SeqAt.EqAt.int_bool a t' b
    | int b => obtain ⟨t, rfl⟩ := rx; exact SeqAt.EqAt.int_int a t' b t
    | str b => obtain ⟨t, rfl⟩ := rx; exact SeqAt.EqAt.int_str a t' b t
    | _ => exact absurd (show false = true from fx) Bool.false_ne_true
  | str a =>
    obtain ⟨t', rfl⟩ := ry
    cases x with
    | non => cases rx; exact SeqAt.EqAt.str_none a t'
    | bl b => cases rx; exact SeqAt.EqAt.str_bool a t' b
    | int b => obtain ⟨t, rfl⟩ := rx; exact SeqAt.EqAt.str_int a t' b t
    | str b => obtain ⟨t, rfl⟩ := rx; exact SeqAt.EqAt.str_str a t' b t
    | _ => exact absurd (show false = true from fx) Bool.false_ne_true
  | _ => exact absurd (show false = true from fy) Bool.false_ne_true
def eqU (x : V) (u : Value) : Bool := match u with
  | .none => eqV .non x
  | .bool b => eqV (.bl b) x
  | .int i _ => eqV (.int i) x
  | .str z _ => eqV (.str z) x
  | _ => false
theorem eqU_of {x y : V} {u : Value} (r : RelV y u) (f : flatV y = true) : eqU x u = eqV y x := by
  cases y with
  | non => cases r; rfl
  | bl b => cases r; rfl
  | int i => obtain ⟨t, rfl⟩ := r; rfl
  | str z => obtain ⟨t, rfl⟩ := r; rfl
  | _ => exact absurd (show false = true from f) Bool.false_ne_true
theorem any_eqU {x : V} : ∀ {xs : List V} {us : List Value}, Vals xs us → xs.all flatV = true → us.any (eqU x) = xs.any fun y => eqV y x
  | _, _, .nil, _ => rfl
  | y :: xs, u :: us, .cons r t, f => by
    rw [List.all_cons, Bool.and_eq_true] at f
    rw [List.any_cons, List.any_cons, eqU_of r f.1, any_eqU t f.2]
theorem mem_eqAt {A : Around} {s : Shared} {x : V} {v : Value} (rx : RelV x v) (fx : flatV x = true) : ∀ {xs : List V} {us : List Value}, Vals xs us → xs.all flatV = true → ∀ u ∈ us, SeqAt.EqAt A s u v (eqU x u)
  | _, _, .nil, _ => fun u hu => by cases hu
  | y :: xs, u :: us, .cons r t, f => fun u' hu => by
    rw [List.all_cons, Bool.and_eq_true] at f
    rcases List.mem_cons.mp hu with rfl | hu
    · rw [eqU_of r f.1]; exact eqAt_V r rx f.1 fx
    · exact mem_eqAt rx fx t f.2 u' hu
def inV (x : V) (xs : List V) : Bool := xs.any fun y => eqV y x
def rIn (K : PySem.W.Frag) (neg : Bool) : R2 := fun x y H Q => ∃ p xs, y = .ref p ∧ (SqL K H p xs ∨ SqT K H p xs) ∧ flatV x = true ∧ xs.all flatV = true ∧ Q (.bl (if neg then !inV x xs else inV x xs)) H
theorem op_in_seq : OpR X (compareOp .In) (rIn X.K false) := by
  intro pins s σ H x y v u Q I rx ry h
  obtain ⟨p, xs, rfl, hq, fx, fs, q⟩ := h
  cases ry
  rcases hq with hq | hq
  · obtain ⟨its, r, pl, hz⟩ := I.list hq
    refine SeqAt.in_listAt (eqU x) pl.isList (fun w hw => mem_eqAt rx fx r fs w (by simpa using hw)) ⟨.bl _, H, I, rfl, ?_⟩
    rw [show its.toArray.any (eqU x) = its.any (eqU x) by simp, any_eqU r fs]
    exact q
  · obtain ⟨its, r, pl, hz⟩ := I.tuple hq
    refine SeqAt.in_tupleAt (eqU x) pl (fun w hw => mem_eqAt rx fx r fs w (by simpa using hw)) ⟨.bl _, H, I, rfl, ?_⟩
    rw [show its.toArray.any (eqU x) = its.any (eqU x) by simp, any_eqU r fs]
    exact q
theorem op_notIn_seq : OpR X (compareOp .NotIn) (rIn X.K true) := by
  intro pins s σ H x y v u Q I rx ry h
  obtain ⟨p, xs, rfl, hq, fx, fs, q⟩ := h
  cases ry
  rcases hq with hq | hq
  · obtain ⟨its, r, pl, hz⟩ := I.list hq
    refine SeqAt.notIn_listAt (eqU x) pl.isList (fun w hw => mem_eqAt rx fx r fs w (by simpa using hw)) ⟨.bl _, H, I, rfl, ?_⟩
    rw [show its.toArray.any (eqU x) = its.any (eqU x) by simp, any_eqU r fs]
    exact q
  · obtain ⟨its, r, pl, hz⟩ := I.tuple hq
    refine SeqAt.notIn_tupleAt (eqU x) pl (fun w hw => mem_eqAt rx fx r fs w (by simpa using hw)) ⟨.bl _, H, I, rfl, ?_⟩
    rw [show its.toArray.any (eqU x) = its.any (eqU x) by simp, any_eqU r fs]
    exact q
theorem call_len_seq : CallR X (.builtin "len") (fun xs H Q => ∃ p ys, xs = [.ref p] ∧ (SqL X.K H p ys ∨ SqT X.K H p ys) ∧ Q (.int ys.length) H) := by
  intro pins s σ H xs us Q I r h
  obtain ⟨p, ys, rfl, hq, q⟩ := h
  obtain ⟨u, rfl, rx⟩ := vals1 r
  cases rx
  have hn := line63
  rcases hq with hq | hq
  · obtain ⟨its, r', pl, hz⟩ := I.list hq
    have hlen := r'.length
    exact Calls.call_len_list pl.isList (by simp only [List.size_toArray] <;> omega) ⟨.int ys.length, H, I.tok _, ⟨s.toks + 1, by rw [List.size_toArray, hlen]⟩, q⟩
  · obtain ⟨its, r', pl, hz⟩ := I.tuple hq
    have hlen := r'.length
    exact len_tuple pl (by simp only [List.size_toArray] <;> omega) ⟨.int ys.length, H, I.tok _, ⟨s.toks + 1, by rw [List.size_toArray, hlen]⟩, q⟩
theorem call_len_str : CallR X (.builtin "len") (fun xs H Q => ∃ z, xs = [.str z] ∧ z.length ≤ sizeLine ∧ Q (.int z.length) H) := by
  intro pins s σ H xs us Q I r h
  obtain ⟨z, rfl, hz, q⟩ := h
  obtain ⟨u, rfl, t, rfl⟩ := vals1 r
  have hn := line63
  exact len_str (by omega) ⟨.int z.length, H, I.tok _, ⟨_, rfl⟩, q⟩
theorem call_tuple_of : CallR X (.type "tuple") (fun xs H Q => ∃ p ys, xs = [.ref p] ∧ ((SqL X.K H p ys ∧ ∀ l, H l = none → Q (.ref l) (upd H l (.tup ys))) ∨ (SqT X.K H p ys ∧ Q (.ref p) H))) := by
  intro pins s σ H xs us Q I r h
  obtain ⟨p, ys, rfl, h⟩ := h
  obtain ⟨u, rfl, rx⟩ := vals1 r
  cases rx
  rcases h with ⟨hq, q⟩ | ⟨hq, q⟩
  · obtain ⟨its, r', pl, hz⟩ := I.list hq
    have hlen := r'.length
    refine call_tuple_list pl.isList (fun h' kp => ?_) (by simp only [List.size_toArray] <;> omega)
    have I1 : Inv X pins σ H { s with heap := h' } := I.kept (t' := s.toks) kp
    have I2 : Inv X pins σ (upd H h'.objs.size (.tup ys)) { s with heap := h'.push { cls := .type "tuple", data := .seq its.toArray } } :=
      I1.laid (t' := s.toks) (fun b o e => Heap.get?_push_of_some _ e) (Nat.le_refl _) (show ObjOk X.prog X.w _ _ _ (.tup ys) from ⟨hz, its, r', IsTup.new _ _⟩)
    exact ⟨.ref h'.objs.size, _, I2, rfl, q _ (I1.hok.fresh (Nat.le_refl _))⟩
  · obtain ⟨its, r', pl, hz⟩ := I.tuple hq
    exact call_tuple_same pl ⟨.ref p, H, I, rfl, q⟩

def tyV (K : PySem.W.Frag) (T : String) (x : V) (H : Hp) : Prop := match x with
  | .str _ => T = "str"
  | .int _ => T = "int"
  | .ref p => (T = "list" ∧ ∃ xs, SqL K H p xs) ∨ (T = "tuple" ∧ ∃ o, K.lookup p = some o ∧ o.cls = .type "tuple" ∧ o.dict = none) ∨
      (T = "dict" ∧ ((∃ kvs, H p = some (.dK kvs)) ∨ ∃ kvs, H p = some (.dT kvs))) ∨ (T = "set" ∧ ∃ S n, H p = some (.set S n))
  | _ => False
theorem tyV_is {pins : List (Addr × Obj)} {σ : St} {H : Hp} {s : Shared} {T : String} {x : V} {v : Value} (I : Inv X pins σ H s) (r : RelV x v) (ty : tyV X.K T x H) :
    s.TypeIs v T ∧ ∀ a, v = .ref a → ∃ ob, s.heap.get? a = some ob ∧ ob.dict = none := by
  cases x with
  | str z =>
    obtain ⟨t, rfl⟩ := r
    cases (show T = "str" from ty)
    exact ⟨typeIs_str s z t, fun _ e => nomatch e⟩
  | int i =>
    obtain ⟨t, rfl⟩ := r
    cases (show T = "int" from ty)
    exact ⟨typeIs_int s i t, fun _ e => nomatch e⟩
  | ref p =>
    cases r
    rcases ty with ⟨rfl, xs, hq⟩ | ⟨rfl, o, hk, hc, hd⟩ | ⟨rfl, hk⟩ | ⟨rfl, S, n, hk⟩
    · obtain ⟨its, _, pl, _⟩ := I.list hq
      refine ⟨pl.isList.typeIs, fun a e => ?_⟩
      cases e
      obtain ⟨o, n, e, c, hd, _⟩ := pl
      exact ⟨o, e, hd⟩
    · refine ⟨⟨o, I.kIn p o hk, hc⟩, fun a e => ?_⟩
      cases e
      exact ⟨o, I.kIn _ o hk, hd⟩
    · have z : ∃ o, s.heap.get? p = some o ∧ o.ExactDict := by
        rcases hk with ⟨kvs, hk⟩ | ⟨kvs, hk⟩
        · obtain ⟨_, _, _, _, o, _, _, e, ex, _⟩ := I.hok p _ hk
          exact ⟨o, e, ex⟩
        · obtain ⟨_, _, _, _, o, _, _, e, ex, _⟩ := I.hok p _ hk
          exact ⟨o, e, ex⟩
      obtain ⟨o, e, ex⟩ := z
      refine ⟨⟨o, e, ex.1⟩, fun a e2 => ?_⟩
      cases e2
      exact ⟨o, e, ex.2.1⟩
    · obtain ⟨o, _, _, _, e, ex, _⟩ := I.hok p _ hk
      refine ⟨⟨o, e, ex.1⟩, fun a e2 => ?_⟩
      cases e2
      exact ⟨o, e, ex.2.1⟩
  | _ => exact False.elim ty
def tBM0 (K : PySem.W.Frag) (T : String) (r : V → List V → Hp → VK → Prop) (to : TE) : TE := fun σ H Q => to σ H fun x H1 => tyV K T x H1 ∧ r x [] H1 Q
def tBM (K : PySem.W.Frag) (T : String) (r : V → List V → Hp → VK → Prop) (to : TE) (t : TA) : TE := fun σ H Q => to σ H fun x H1 => tyV K T x H1 ∧ t σ H1 fun xs H2 => r x xs H2 Q
variable {o e : Expr} {es : List Expr} {to : TE} {t : TA} {name : Str} {apos cpos : Pos} {T id : String} {r : V → List V → Hp → VK → Prop}
theorem pe_bm (pa : PlainAttrs T) (slot : Slot T name id) (hty : typeOf (.builtin id) = pure (.type "method_descriptor")) (hm : MtR X id r) (ho : PE X o to) (ha : PA X (e :: es) t)
    (hbase : attributeBase o name X.env (eval o X.env) = eval o X.env := by rfl)
    (hfew : ((backTo cpos (starEach (e :: es) X.env)).all (fun x => !x.1) && (backToKw cpos (keywordEach [] X.env)).all (fun x => x.1.isSome)
      && decide ((e :: es).length + ([] : List Keyword).length + (if ([] : List Keyword).isEmpty then 0 else 1) < 30)) = true := by rfl)
    (hline : (apos.endLine == cpos.line) = true := by rfl) (hs : starEach (e :: es) X.env = (false, eval e X.env) :: starEach es X.env := by rfl) (hplain : (backTo cpos (starEach es X.env)).any (·.1) = false := by rfl) :
    PE X (.Call (.Attribute o name apos) (e :: es) [] cpos) (tBM X.K T r to t) := by
  intro pins s σ H Q I h
  refine wpAny_Call_method_late hbase hfew hline rfl (thn (ho pins s σ H _ I h) fun v s1 ⟨x, H1, I1, r1, ty, q1⟩ => ?_)
  obtain ⟨h1, h2⟩ := tyV_is I1 r1 ty
  refine ⟨T, id, pa, slot, hty, h1, h2, ?_⟩
  have hA := ha cpos pins s1 σ H1 _ I1 q1
  rw [hs] at hA ⊢
  refine Calls.callWith_builtin (by show (false || (backTo cpos (starEach es X.env)).any (·.1)) = false; rw [hplain] <;> rfl) (Calls.evalArgs_plain ?_)
  exact thn hA fun us s2 ⟨vs, H2, I2, r2, q2⟩ => hm pins s2 σ H2 x vs v us Q I2 r1 r2 q2
/- xs.append(e), list.index on a module's tuple .. are MtR facts of 06m -/
end
end L2

namespace L2
open PySem PySem.Spec PyProof.Rows

def MtM (X : Cx) (id : String) (r : V → List V → Hp → VK → Prop) : Prop :=
  ∀ (pins : List (Addr × Obj)) (s : Shared) (σ : St) (H : Hp) (x : V) (xs : List V) (v : Value) (us : List Value) (Q : VK), Inv X pins σ H s → RelV x v → Vals xs us → r x xs H Q →
    wpAny (model X.prog X.w) X.A (call (.builtin id) (v :: us)) (EP X pins σ Q) X.xe s

theorem Vals.one : ∀ {x : V} {us : List Value}, Vals [x] us → ∃ u, us = [u] ∧ RelV x u
  | _, _, .cons r .nil => ⟨_, rfl, r⟩
theorem Vals.two : ∀ {x y : V} {us : List Value}, Vals [x, y] us → ∃ u v, us = [u, v] ∧ RelV x u ∧ RelV y v
  | _, _, _, .cons r (.cons q .nil) => ⟨_, _, rfl, r, q⟩
section
variable {X : Cx} {pins : List (Addr × Obj)} {σ : St} {H : Hp} {s : Shared} {l b : Addr} {xs ys zs : List V}

theorem Inv.lset {its its' : List Value} {n : Nat} {f : Array Value → Array Value} {t' : Nat} (I : Inv X pins σ H s) (hH : H l = some (.lst xs))
    (e : s.heap.get? l = some { cls := .type "list", data := .seq its.toArray n }) (hf : f its.toArray = its'.toArray) (hv : Vals ys its') (hz : ys.length ≤ sizeLine) :
    Inv X pins σ (upd H l (.lst ys)) { s with heap := s.heap.update l (Obj.mapSeq f), toks := t' } := by
  have q := PySem.IsL.update e f
  rw [hf] at q
  refine I.write (x := l) (e := l) (by rw [hH]; exact trivial) (.inl rfl) (fun b' u hb hu => (Heap.get?_update_other s.heap (Obj.mapSeq f) (Ne.symm hb)).trans hu) ⟨_, q⟩ ?_
  exact ⟨hz, its', _, hv, q⟩
theorem Inv.lnew {its : List Value} {t' : Nat} (I : Inv X pins σ H s) (hv : Vals ys its) (hz : ys.length ≤ sizeLine) :
    Inv X pins σ (upd H s.heap.objs.size (.lst ys)) { s with heap := s.heap.push { cls := .type "list", data := .seq its.toArray }, toks := t' } :=
  I.laid (fun _ _ q => Heap.get?_push_of_some _ q) (Nat.le_refl _) ⟨hz, its, 0, hv, Heap.get?_push_size _ rfl⟩
theorem Inv.fresh (I : Inv X pins σ H s) : H s.heap.objs.size = none := I.hok.fresh (Nat.le_refl _)
theorem Inv.lstM (I : Inv X pins σ H s) (hH : H l = some (.lst xs)) : xs.length ≤ sizeLine ∧ ∃ (its : List Value) (n : Nat), Vals xs its ∧ xs.length = its.length ∧ s.heap.get? l = some { cls := .type "list", data := .seq its.toArray n } := by
  obtain ⟨z, its, n, r, e⟩ := I.hok l _ hH
  exact ⟨z, its, n, r, r.length, e⟩

end

section
variable {X : Cx}

def rAppend : V → List V → Hp → VK → Prop := fun x vs H Q => ∃ l xs y, x = .ref l ∧ vs = [y] ∧ H l = some (.lst xs) ∧ xs.length < sizeLine ∧ Q .non (upd H l (.lst (xs ++ [y])))
theorem mt_append : MtM X "list.append" rAppend := by
  intro pins s σ H x vs v us Q I rx rv h
  obtain ⟨l, xs, y, rfl, rfl, hH, hz, q⟩ := h
  cases rx
  obtain ⟨u, rfl, ru⟩ := rv.one
  obtain ⟨z, its, n, r, hl, e⟩ := I.lstM hH
  refine call_meets F.slot_list_append ⟨_, e, rfl⟩ F.entry_list_append (F.args_list_append_2 _ _) (PySem.list_append l its.toArray n u (by rw [List.size_toArray]; omega)) ⟨e, ?_⟩
  refine ⟨.non, _, I.lset (its' := its ++ [u]) hH e (by simp) (r.append (.cons ru .nil)) ?_, rfl, q⟩
  rw [List.length_append, List.length_singleton]
  omega

def rExtend : V → List V → Hp → VK → Prop := fun x vs H Q => ∃ l b xs zs, x = .ref l ∧ vs = [.ref b] ∧ H l = some (.lst xs) ∧ H b = some (.lst zs) ∧ xs.length + zs.length ≤ sizeLine ∧ Q .non (upd H l (.lst (xs ++ zs)))
def rPop : V → List V → Hp → VK → Prop := fun x vs H Q => ∃ l xs y, x = .ref l ∧ vs = [] ∧ H l = some (.lst xs) ∧ xs[xs.length - 1]? = some y ∧ Q y (upd H l (.lst xs.dropLast))
def rPopAt : V → List V → Hp → VK → Prop := fun x vs H Q => ∃ l xs i k y, x = .ref l ∧ vs = [.int i] ∧ H l = some (.lst xs) ∧ -(2 ^ 63) ≤ i ∧ i < 2 ^ 63 ∧ seqIndex? i xs.length = some k ∧ xs[k]? = some y ∧ Q y (upd H l (.lst (xs.eraseIdx k)))
def rReverse : V → List V → Hp → VK → Prop := fun x vs H Q => ∃ l xs, x = .ref l ∧ vs = [] ∧ H l = some (.lst xs) ∧ Q .non (upd H l (.lst xs.reverse))
def rClear : V → List V → Hp → VK → Prop := fun x vs H Q => ∃ l xs, x = .ref l ∧ vs = [] ∧ H l = some (.lst xs) ∧ Q .non (upd H l (.lst []))
def rCat : R2 := fun x y H Q => ∃ l b xs zs, x = .ref l ∧ y = .ref b ∧ H l = some (.lst xs) ∧ H b = some (.lst zs) ∧ xs.length + zs.length ≤ sizeLine ∧ ∀ p, H p = none → Q (.ref p) (upd H p (.lst (xs ++ zs)))
theorem op_cat : OpR X (binaryOp .Add) rCat := by
  intro pins s σ H x y v u Q I rx ry h
  obtain ⟨l, b, xs, zs, rfl, rfl, hH, hB, hz, q⟩ := h
  cases rx
  cases ry
  obtain ⟨z, its, n, r, hl, e⟩ := I.lstM hH
  obtain ⟨z2, its2, n2, r2, hl2, e2⟩ := I.lstM hB
  refine PySem.P.add_list e e2 ?_ (by rw [List.size_toArray, List.size_toArray]; omega)
  have ea : its.toArray ++ its2.toArray = (its ++ its2).toArray := by simp
  rw [ea]
  exact ⟨.ref _, _, I.lnew (t' := s.toks) (r.append r2) (by rw [List.length_append]; omega), rfl, q _ I.fresh⟩
def rRep : R2 := fun x y H Q => ∃ l k xs, x = .ref l ∧ y = .int k ∧ H l = some (.lst xs) ∧ -(2 ^ 63) ≤ k ∧ k < 2 ^ 63 ∧ xs.length * k.toNat ≤ sizeLine ∧
  ∀ p, H p = none → Q (.ref p) (upd H p (.lst (List.replicate k.toNat xs).flatten))
end

section
variable {prog : Program} {w : World} {A : Around} {E : Value → Shared → Prop} {s : Shared}
end

section
variable {X : Cx}
end
end L2

namespace Att
open PySem PySem.W PySem.Calls PyProof.Rows

theorem ints_of_wellAll {P : Params} {h : Heap} : ∀ (ns : List Int) (vs : List Value), WellAll P h vs (ns.map WData.int) → IntsAre vs ns := by
  intro ns
  induction ns with
  | nil =>
    intro vs w
    rw [List.map_nil] at w
    cases w
    exact .nil
  | cons n ns ih =>
    intro vs w
    rw [List.map_cons] at w
    cases w with
    | cons a b =>
      cases a
      exact .cons _ _ (ih _ b)

theorem script_of {l : OpenLaw} {n : Nat} (hn : l.most = some n) {P : Params} {h : Heap} {args : List WData} {vals : List Value}
    (hpre : l.row.toRowW.claim.pre args = true) (hwl : WellAll P h vals args) :
    ∃ a vs ns, vals = [Value.ref a] ∧ args = [WData.list (ns.map WData.int)] ∧ h.get? a = some { cls := .type "list", data := .seq vs.toArray } ∧ IntsAre vs ns ∧ ns.length ≤ n := by
  have hsh : WShape.hasAll [] args [.list .int] = true := (pre_splitW hpre).1
  have hc : l.pre.holds [] { args := args } = true := (pre_splitW hpre).2
  obtain ⟨d, r, rfl, h1, h2⟩ := hasAllW_cons hsh
  obtain rfl := hasAllW_nil h2
  obtain ⟨xs, rfl, h3⟩ := hasW_list h1
  obtain ⟨ns, rfl⟩ := items_int h3
  have hlen : ns.length ≤ n := by
    unfold OpenLaw.pre at hc
    have h4 : (WTm.not (.lt (.lit (.int (n : Int))) (.len (.arg 0)))).holds [] { args := [.list (ns.map .int)] } = true := by
      have h4 := (holds_andW hc).1
      rw [hn] at h4
      exact h4
    have h5 := condW_of h4 (w_not (w_lt w_lit (w_len_list (w_arg rfl))))
    rw [List.length_map] at h5
    refine Nat.le_of_not_lt fun q => ?_
    have q' : (n : Int) < ((ns.length : Nat) : Int) := by omega
    first
      | (rw [decide_eq_true q'] at h5; exact absurd h5 (by decide))
      | (simp at h5; omega)
  cases hwl with
  | cons w1 w2 =>
    cases w2
    cases w1 with
    | list ho hall => exact ⟨_, _, ns, rfl, rfl, ho, ints_of_wellAll ns _ hall, hlen⟩

theorem post_true (l : OpenLaw) (args : List WData) : l.row.toRowW.claim.post args (.bool true) args = true :=
  postW_of (r := l.row.toRowW) (X := (true == true))
    (show WShape.has [] (.bool true) .bool = true by first | rfl | decide | simp [WShape.has, WShape.arms, WShape.armsAll])
    (show (WTm.eq .res (.lit (.bool true))).value [] { args := args, res := some (.bool true), after := args } = some (.bool (true == true)) from w_eq_bool (w_res rfl) w_lit) rfl

section
variable {prog : Program} {w : World} {A : Around} {E : Value → Shared → Prop} {s : Shared} {K : Frag}

def noObjs (h : Heap) : Heap := { h with objs := #[] }
def ledger (h : Heap) (L d : Addr) : List (Addr × Obj) := (List.range h.objs.size).filterMap fun a => if a = L ∨ a = d then none else (h.get? a).map fun o => (a, o)
end
end Att

namespace L2
open PySem PySem.Spec PyProof.Rows

theorem vals_ints : ∀ {vs : List Value} {ns : List Int}, IntsAre vs ns → Vals (ns.map V.int) vs
  | _, _, .nil => .nil
  | _, _, .cons n t h => .cons ⟨t, rfl⟩ (vals_ints h)

def Only (H : Hp) : Prop := ∀ b, H b = none ∨ ∃ o xs, H b = some (.frz o (.lst xs))

theorem law_call {P : Program} {w : World} {K : PySem.W.Frag} {mg mb : Str → Option Value} {CX : CXT} {k : Nat} {fa a : Addr} {fd : FuncData} {x : Str} {sp : Sp} {s₁ : Shared} {vs : List Value} {ns : List Int}
    (KX : K.In s₁.heap) (hns : s₁.heap.Ns mainGlobals mg) (hb : s₁.heap.Ns builtinsNs mb) (hbb : ∀ x : Str, x ≠ "__name__" → mb x = bootBuiltins x) (hlim : s₁.heap.NoLimit) (hg : s₁.gens = #[])
    (ha : s₁.heap.get? a = some { cls := .type "list", data := .seq vs.toArray }) (hi : IntsAre vs ns) (hl : ns.length ≤ sizeLine) (hr : Room k callerA)
    (F : ∀ base : Heap, K.In base → base.Ns mainGlobals mg → FnOk P w K mg base CX k fa fd [x] sp) (hbind : ∀ (s : Shared) (u : Value), BindsTo s fd ⟨[u], []⟩ [(x, u)])
    (hsp : ∀ H : Hp, Only H → SqL K H a (ns.map V.int) → sp [.ref a] H (fun v _ => v = .bl true) fun _ _ _ => False)
    (hCX : ∀ H e s', CX [] H s₁ (fun _ _ _ => False) e s' → False) :
    codeAny (model P w) callerA (.call (.ref fa) ⟨[.ref a], []⟩) (fun r s' => r = .ok (.ret (.bool true)) ∧ OldK s₁.heap s'.heap ∧ s'.os = s₁.os ∧ AllBare s'.gens) s₁ := by
  have rv := vals_ints hi
  have lenV := hi.length
  -- from an abstract heap in which nothing but the script may be tracked
  have core : ∀ H : Hp, Only H → SqL K H a (ns.map V.int) → HOk P w H s₁.heap → (∀ b, H b ≠ none → b = a) → (H a ≠ none → K.lookup a = none) →
      codeAny (model P w) callerA (.call (.ref fa) ⟨[.ref a], []⟩) (fun r s' => r = .ok (.ret (.bool true)) ∧ OldK s₁.heap s'.heap ∧ s'.os = s₁.os ∧ AllBare s'.gens) s₁ := by
    intro H hO hS hok hA hK
    have base_of : ∀ {b : Addr} {o : Obj}, s₁.heap.get? b = some o → H b = none → (hidT s₁.heap H).get? b = some o := fun e n => hidT_get e n
    have noA : ∀ {b : Addr} {o : Obj} {es : Array DictEntry} {ep : Nat}, s₁.heap.get? b = some o → o.data = .dict es ep → H b = none := fun {b o es ep} e d => by
      cases q : H b with
      | none => rfl
      | some u =>
        have e' : b = a := hA b (by rw [q]; simp)
        subst e'
        rw [ha] at e; cases e
        have d' : Data.seq vs.toArray _ = Data.dict es ep := d
        cases d'
    have nsK : ∀ {b : Addr} {m : Str → Option Value}, s₁.heap.Ns b m → (hidT s₁.heap H).Ns b m := fun {b m} ⟨o, es, ep, e, d, r⟩ => ⟨o, es, ep, base_of e (noA e d), d, r⟩
    have hKb : K.In (hidT s₁.heap H) := fun b o e => base_of (KX b o e) (by
      cases q : H b with
      | none => rfl
      | some u =>
        have e' : b = a := hA b (by rw [q]; simp)
        subst e'
        rw [hK (by rw [q]; simp)] at e; cases e)
    have hM : Mod K mg (hidT s₁.heap H) := ⟨hKb, nsK hns, ⟨mb, nsK hb, hbb⟩, let ⟨mc, h1, h2⟩ := hlim; ⟨mc, nsK h1, h2⟩⟩
    have e0 : Env0 P w K mg (hidT s₁.heap H) callerA [] s₁ H := ⟨rfl, hM, fun b o e => of_hidT e, Nat.le_of_eq (hidT_size _ _), trivial, fun b hb => absurd (show b ∈ ([] : List Addr) from hb) (by simp), hok, .of_eq hg⟩
    refine codeAny_mono ((F _ hKb (nsK hns)).run callerA [] s₁ H ⟨[.ref a], []⟩ [.ref a] [.ref a] _ _ hr e0 (hbind s₁ (.ref a)) (.cons rfl .nil) (hsp H hO hS)) fun r s' h => ?_
    cases r with
    | error e => exact (hCX H e s' h).elim
    | ok fl =>
      cases fl with
      | next => exact False.elim h
      | brk => exact False.elim h
      | cont => exact False.elim h
      | ret u =>
        obtain ⟨v, H', os, bare, un, hok', r', q⟩ := h
        have q' : v = .bl true := q
        subst q'
        obtain rfl : u = Value.bool true := r'
        refine ⟨rfl, OldK.of_keep fun b o e => ?_, os, bare⟩
        cases q : H b with
        | none => exact un.keep b o e q (by intro z; exact absurd (show b ∈ ([] : List Addr) from z) (by simp)) (by simp)
        | some u =>
          rcases hO b with z | ⟨ob, xs, z⟩
          · rw [q] at z; cases z
          · have z2 := un.frzs b ob _ z
            obtain ⟨e1, _⟩ := hok b _ z
            obtain ⟨e2, _⟩ := hok' b _ z2
            rw [e] at e1; cases e1
            exact e2
  cases hk : K.lookup a with
  | some o =>
    -- the script is one of the module's own objects
    have e := KX a o hk
    rw [ha] at e
    cases e
    refine core (fun _ => none) (fun _ => .inl rfl) (.inr ⟨_, vs.toArray, _, hk, rfl, rfl, rfl, by rw [List.size_toArray, lenV]; exact hl, by simpa using rv⟩) (fun b u z => by have z' : (none : Option HO) = some u := z; cases z') (fun b z => absurd rfl z) fun z => absurd rfl z
  | none =>
    refine core (fun b => if b = a then some (.frz { cls := .type "list", data := .seq vs.toArray } (.lst (ns.map V.int))) else none) (fun b => ?_) (.inl (.inr ⟨{ cls := .type "list", data := .seq vs.toArray }, if_pos rfl⟩)) (fun b u z => ?_) (fun b z => ?_) fun _ => hk
    · by_cases hb : b = a
      · exact .inr ⟨_, _, if_pos hb⟩
      · exact .inl (if_neg hb)
    · by_cases hb : b = a
      · have z' := (if_pos hb).symm.trans z
        cases z'
        subst hb
        exact ⟨ha, by rw [List.length_map]; exact hl, vs, _, rv, ha⟩
      · have z' := (if_neg hb).symm.trans z
        cases z'
    · by_cases hb : b = a
      · exact hb
      · exact absurd (if_neg hb) z
end L2

namespace L2
open PySem PySem.Spec PyProof.Rows

abbrev KOf {K : PySem.W.Frag} {h : Heap} (_ : K.In h) : PySem.W.Frag := K

end L2

namespace L2
open PySem PySem.Spec PyProof.Rows

def inClass (s : Stmt) (j : Nat) : Stmt := match s with
  | .ClassDef _ _ _ body _ _ _ _ _ _ _ => body.getD j (.Pass ⟨0, 0, 0, 0⟩)
  | _ => .Pass ⟨0, 0, 0, 0⟩
def defArgs (s : Stmt) : Arguments := match s with
  | .FunctionDef _ a _ _ _ _ _ _ _ _ => a
  | _ => { posonlyargs := [], args := [], vararg := none, kwonlyargs := [], kw_defaults := [], kwarg := none, defaults := [] }
def defBody (s : Stmt) : List Stmt := match s with
  | .FunctionDef _ _ b _ _ _ _ _ _ _ => b
  | _ => []
def defScope (s : Stmt) : Scope := match s with
  | .FunctionDef _ _ _ _ _ _ sc _ _ _ => sc
  | _ => { kind := .function, names := [], isGenerator := false, isCoroutine := false }

abbrev CX0 : CXT := fun _ _ _ _ _ _ => False
abbrev E0 : XK := fun _ _ _ => False
theorem pass0 {X : Cx} : Passes CX0 X E0 := fun _ _ _ _ _ _ _ h => h.elim

structure Fun (K : PySem.W.Frag) (x qual : Str) (st : Stmt) (f : Addr) (fd : FuncData) : Prop where
  ex : ∃ (oc : Value) (od : Option Addr) (kV doc pm : Value) (an : Option Addr) (cdv ct : Value) (osl : Array (Option Value)),
    fd = PySem.W.fnOf x qual (defArgs st) (defBody st) (defScope st) .none kV doc pm an cdv ct ∧ K.lookup f = some ⟨oc, od, .func fd, osl⟩ ∧ PySem.W.codeIn K cdv qual = true
  kp : PySem.W.keepIn K (.ref f) = true
section
variable {P : Program} {w : World} {K : PySem.W.Frag} {mg : Str → Option Value} {base : Heap}
theorem Fun.ok {x qual : Str} {st : Stmt} {f : Addr} {fd : FuncData} {N ps : List Str} {k : Nat} {sp : Sp} (F : Fun K x qual st f fd) (S : FnScope N ps (defScope st)) (len : ∀ vs H Q E, sp vs H Q E → vs.length = ps.length)
    (hbody : ∀ (cdv : Value) (A : Around) (outer : List Env) (s : Shared) (H : Hp) (vs : List V) (Q : VK) (E : XK), Room k (A.deeper (envOfC qual (defScope st) s.heap.objs.size f cdv)) → sp vs H Q E →
      ∃ t, PSs (cxOf CX0 P w K mg base N qual (defScope st) f cdv A outer s H E).nox (defBody st) t ∧ t { nx := fun _ H' => Q .non H', rt := Q } (start N vs) H) : FnOk P w K mg base CX0 (k + 1) f fd ps sp := by
  obtain ⟨oc, od, kV, doc, pm, an, cdv, ct, osl, rfl, lk, hcd⟩ := F.ex
  refine fn_of lk hcd S len fun A outer s H vs Q E hr hsp => ?_
  obtain ⟨t, h, q⟩ := hbody cdv A outer s H vs Q E hr hsp
  exact ⟨t, h.nox, q⟩
theorem Fun.binds {x qual : Str} {st : Stmt} {f : Addr} {fd : FuncData} {ps : List Str} (F : Fun K x qual st f fd)
    (h : ∀ (kV doc pm : Value) (an : Option Addr) (cdv ct : Value) (us : List Value), us.length = ps.length → bindArgs (PySem.W.fnOf x qual (defArgs st) (defBody st) (defScope st) .none kV doc pm an cdv ct) ⟨us, []⟩ = pure (ps.zip us)) : Binds K fd ps [] := by
  obtain ⟨oc, od, kV, doc, pm, an, cdv, ct, osl, rfl, lk, hcd⟩ := F.ex
  exact .all (h kV doc pm an cdv ct)
theorem fun_mk {x qual : Str} {st : Stmt} {f : Addr} {oc : Value} {od an : Option Addr} {osl : Array (Option Value)} {kV doc pm cdv ct : Value} (l : K.lookup f = some ⟨oc, od, .func (PySem.W.fnOf x qual (defArgs st) (defBody st) (defScope st) .none kV doc pm an cdv ct), osl⟩)
    (c : PySem.W.codeIn K cdv qual = true) (k : PySem.W.keepIn K (.ref f) = true) : Fun K x qual st f (PySem.W.fnOf x qual (defArgs st) (defBody st) (defScope st) .none kV doc pm an cdv ct) := ⟨⟨oc, od, kV, doc, pm, an, cdv, ct, osl, rfl, l, c⟩, k⟩
end
section
variable {X : Cx}
theorem pv (i : Nat) {x : Str} {pos : Pos} (hN : X.N[i]? = some x := by rfl) (hv : Vis X.env.scope x := by first | exact Or.inl rfl | exact Or.inr (Or.inl rfl) | exact Or.inr (Or.inr rfl)) (hd : (x == ("__debug__" : Str)) = false := by decide)
    (hcd : (x == ("__classdict__" : Str)) = false := by decide) : PE X (.Name x pos) (tVar i) := pe_var hN hv hd hcd
end

theorem iteF {A B : Prop} (h : B) : if false = true then A else B := by
  rw [if_neg Bool.false_ne_true]
  exact h
theorem iteT {A B : Prop} (h : A) : if true = true then A else B := by
  rw [if_pos rfl]
  exact h
theorem ite2 {c A B : Prop} [Decidable c] (h1 : c → A) (h2 : ¬ c → B) : if c then A else B := by
  by_cases h : c
  · rw [if_pos h]
    exact h1 h
  · rw [if_neg h]
    exact h2 h
def Same (H H' : Hp) : Prop := ∀ b o, H b = some o → H' b = some o
theorem Same.refl (H : Hp) : Same H H := fun _ _ h => h
theorem Same.trans {H H1 H2 : Hp} (a : Same H H1) (b : Same H1 H2) : Same H H2 := fun c o h => b c o (a c o h)
theorem Same.seq {K : PySem.W.Frag} {H H' : Hp} {a : Addr} {xs : List V} (e : Same H H') (h : SqL K H a xs) : SqL K H' a xs := by
  rcases h with (h | ⟨o, h⟩) | h
  · exact .inl (.inl (e _ _ h))
  · exact .inl (.inr ⟨o, e _ _ h⟩)
  · exact .inr h

end L2

namespace L2
open PySem PySem.Spec PyProof.Rows

section
variable {X : Cx}
theorem op_mulG : OpR X (binaryOp .Mult) (rI IntMulOk fun i j => .int (i * j)) := opI fun _ _ _ _ _ _ _ hc q => mul_int q hc
def CDivL (_ j : Int) : Prop := j ≠ 0 ∧ j.natAbs.log2 < 9000
end

section
variable {P : Program} {w : World} {H H1 H2 : Hp} {h h1 h2 : Heap} {a : Addr} {o : HO}
theorem ObjOk.there (x : ObjOk P w H h a o) : ∃ ob, h.get? a = some ob := by
  cases o with
  | lst xs => obtain ⟨_, _, _, _, e⟩ := x; exact ⟨_, e⟩
  | tup xs => obtain ⟨_, _, _, ob, e, _⟩ := x; exact ⟨_, e⟩
  | dK kvs => obtain ⟨_, _, _, _, ob, _, _, e, _⟩ := x; exact ⟨_, e⟩
  | dT kvs => obtain ⟨_, _, _, _, ob, _, _, e, _⟩ := x; exact ⟨_, e⟩
  | set S n => obtain ⟨ob, _, _, _, e, _⟩ := x; exact ⟨_, e⟩
  | ins C dx fs => obtain ⟨_, _, _, e, _⟩ := x; exact ⟨_, e⟩
  | own y => exact x
  | xd fs => obtain ⟨_, ⟨ob, _, _, e, _⟩, _⟩ := x; exact ⟨_, e⟩
  | rng lo hi => obtain ⟨_, _, _, e⟩ := x; exact ⟨_, e⟩
  | frz ob u => obtain ⟨e, _⟩ := x; exact ⟨_, e⟩
  | tbl ps => exact ⟨_, (show h.get? a = some _ from x)⟩
  | met f y => exact ⟨_, (show h.get? a = some _ from x)⟩
  | ext φ => obtain ⟨_, ⟨ob, e⟩, _⟩ := x; exact ⟨_, e⟩
theorem HOk.onward (x : HOk P w H h1) (k : ∀ b ob, H b ≠ none → h1.get? b = some ob → h2.get? b = some ob) : HOk P w H h2 := fun c u e =>
  (x c u e).stay (fun b v hb q => k b v (by rcases hb with rfl | hb
                                            · rw [e]; simp
                                            · rw [hb]; simp) q) (fun _ q => q) fun _ _ q => q
theorem Un.onward {fs : List Addr} (u : Un fs [] H H1 h h1) (keep : ∀ b ob, h1.get? b = some ob → b ∉ fs → (∃ o', h.get? b = some o') → h2.get? b = some ob)
    (slot : ∀ b ob, h1.get? b = some ob → b ∈ fs → (∃ o', h.get? b = some o') → ∃ sl, h2.get? b = some { ob with slots := sl }) : Un fs [] H H1 h h2 where
  keep := fun b ob e n hb hx => keep b ob (u.keep b ob e n hb hx) hb ⟨ob, e⟩
  slot := fun b ob e n hb hx => by
    obtain ⟨sl, e1⟩ := u.slot b ob e n hb hx
    obtain ⟨sl2, e2⟩ := slot b _ e1 hb ⟨ob, e⟩
    exact ⟨sl2, e2⟩
  free := u.free
  there := fun b ob e hx => by
    obtain ⟨o1, e1⟩ := u.there b ob e hx
    by_cases hb : b ∈ fs
    · obtain ⟨sl, e2⟩ := slot b o1 e1 hb ⟨ob, e⟩
      exact ⟨_, e2⟩
    · exact ⟨_, keep b o1 e1 hb ⟨ob, e⟩⟩
  tups := u.tups
  frzs := u.frzs
  tbls := u.tbls
theorem Un.andThen {fs fs2 : List Addr} (a : Un fs [] H H1 h h1) (b : Un fs2 [] H1 H2 h1 h2) (hs : ∀ c ob, h.get? c = some ob → c ∈ fs2 → c ∈ fs) : Un fs [] H H2 h h2 where
  keep := fun c ob q n hc hx => b.keep c ob (a.keep c ob q n hc hx) (a.free c ob q n hx) (fun z => hc (hs c ob q z)) hx
  slot := fun c ob q n hc hx => by
    obtain ⟨sl, e1⟩ := a.slot c ob q n hc hx
    obtain ⟨sl2, e2⟩ := b.any e1 (a.free c ob q n hx) hx
    exact ⟨sl2, e2⟩
  free := fun c ob q n hx => by
    obtain ⟨o1, e1⟩ := a.there c ob q hx
    exact b.free c o1 e1 (a.free c ob q n hx) hx
  there := fun c ob q hx => by
    obtain ⟨o1, e1⟩ := a.there c ob q hx
    exact b.there c o1 e1 hx
  tups := fun c xs q => b.tups c xs (a.tups c xs q)
  frzs := fun c ob u q => b.frzs c ob u (a.frzs c ob u q)
  tbls := fun c ps q => by
    obtain ⟨m1, e1⟩ := a.tbls c ps q
    obtain ⟨m2, e2⟩ := b.tbls c _ e1
    exact ⟨m1 ++ m2, by rw [e2, Array.append_assoc]⟩
end

structure Fly (P : Program) (w : World) (outer : List Env) (H : Hp) (s : Shared) (cls a0 : Value) (ea : Addr) (B : Heap) (H' : Hp) (s' : Shared) : Prop where
  os : s'.os = s.os
  bare : AllBare s'.gens
  un : Un (frs outer) [] H H' s.heap s'.heap
  hok : HOk P w H' s'.heap
  fly : Heap.FlyingW B outer ea cls a0 s'.heap
  frf : ∀ b ∈ frs outer, H' b = none
  cov : ∀ b o, s'.heap.get? b = some o → b ∉ frs outer → (H' b ≠ none ∨ ∃ o', s.heap.get? b = some o') → B.get? b = some o
def XF (P : Program) (w : World) : CXT := fun outer H s E e s' => ∃ (ea : Addr) (cls a0 : Value) (B : Heap) (H' : Hp), e = .ref ea ∧ Fly P w outer H s cls a0 ea B H' s' ∧ E cls none H'

section
variable {P : Program} {w : World} {K : PySem.W.Frag} {mg : Str → Option Value} {base : Heap} {N : List Str} {qual : Str} {scope : Scope} {f : Addr} {cd : Value} {A : Around} {outer : List Env} {s0 s1 : Shared} {H0 H1 : Hp} {E : XK}
  {pins : List (Addr × Obj)} {σ : St}
theorem frs_tail {env : Env} {l : List Env} {b : Addr} (h : b ∈ frs l) : b ∈ frs (env :: l) := by
  unfold frs at h ⊢
  rw [List.filterMap_cons]
  split
  · exact h
  · exact List.mem_cons_of_mem _ h
theorem raise_xe {h' : Heap} {e : Addr} {cls : Value} {args : List Value} (I : Inv (cxOf (XF P w) P w K mg base N qual scope f cd A outer s0 H0 E) pins σ H1 s1) (hx : Heap.MadeExcOf s1.heap h' e cls args) (hE : E cls none H1) :
    (cxOf (XF P w) P w K mg base N qual scope f cd A outer s0 H0 E).xe (.ref e) { s1 with heap := h' } := by
  have st : s1.heap.FunFrames base (envOfC qual scope s0.heap.objs.size f cd :: outer) := I.stack
  have fz : ∀ b ∈ frs (envOfC qual scope s0.heap.objs.size f cd :: outer), H1 b = none := I.stkFree
  have sub : ∀ b ∈ frs (envOfC qual scope s0.heap.objs.size f cd :: outer), b = (envOfC qual scope s0.heap.objs.size f cd).locals ∨ b ∈ frs outer := fun b hb => List.mem_cons.mp (I.stkSub b hb)
  have above : s0.heap.objs.size ≤ (envOfC qual scope s0.heap.objs.size f cd).locals := I.ok.above
  have old : ∀ b o, s0.heap.get? b = some o → b ∉ frs outer → b ∉ frs (envOfC qual scope s0.heap.objs.size f cd :: outer) := fun b o q nb z => by
    rcases sub b z with z | z
    · subst z
      exact absurd (Nat.lt_of_lt_of_le (Heap.lt_size q) above) (Nat.lt_irrefl _)
    · exact nb z
  show wpAny (model P w) (A.deeper (envOfC qual scope s0.heap.objs.size f cd)) (leaving (envOfC qual scope s0.heap.objs.size f cd) (.ref e)) _ _ _
  refine wpAny_leaves_madeW (base := PySem.W.hideAll s1.heap (frs (envOfC qual scope s0.heap.objs.size f cd :: outer))) (h := s1.heap) I.ok.frames rfl (fun b o q => PySem.W.of_hideAll _ q)
    (PySem.W.funFrames_hide st fun env' he a ha => List.mem_filterMap.mpr ⟨env', he, ha⟩) hx fun h'' t fl tup bt ups => ?_
  have kept : ∀ b o, s1.heap.get? b = some o → b ∉ frs (envOfC qual scope s0.heap.objs.size f cd :: outer) → h''.get? b = some o := fun b o q nb => fl.1 b o (PySem.W.hideAll_get _ q nb)
  have u : Un (frs outer) [] H0 H1 s0.heap s1.heap := I.base
  refine ⟨e, cls, .ref t, _, H1, rfl, ⟨I.os, I.bare, u.onward (fun b o q nb old' => ?_) (fun b o q hb old' => ?_), I.hok.onward fun b o hb q => kept b o q fun z => hb (fz b z), fl, fun b hb => fz b (frs_tail hb), fun b o q nb hc => ?_⟩, hE⟩
  · obtain ⟨o', q'⟩ := old'
    exact kept b o q (old b o' q' nb)
  · obtain ⟨_, o', ho', nf⟩ := st.mem (frs_tail hb)
    rw [q] at ho'; cases ho'
    exact ups b o (hx.keeps b o q) nf
  · have key : ∃ o1, s1.heap.get? b = some o1 ∧ b ∉ frs (envOfC qual scope s0.heap.objs.size f cd :: outer) := by
      rcases hc with hc | ⟨o', q'⟩
      · cases e1 : H1 b with
        | none => exact absurd e1 hc
        | some u1 =>
          obtain ⟨o1, q1⟩ := (I.hok b u1 e1).there
          exact ⟨o1, q1, fun z => hc (fz b z)⟩
      · obtain ⟨o1, q1⟩ := u.there b o' q' (by simp)
        exact ⟨o1, q1, old b o' q' nb⟩
    obtain ⟨o1, q1, n1⟩ := key
    have z := kept b o1 q1 n1
    have q2 : h''.get? b = some o := q
    rw [q2] at z; cases z
    exact PySem.W.hideAll_get _ q1 n1

theorem passX : Passes (XF P w) (cxOf (XF P w) P w K mg base N qual scope f cd A outer s0 H0 E) E := by
  rintro pins σ H s e s' I ⟨ea, cls, a0, B, H', rfl, x, hE⟩
  have sub : ∀ b ∈ frs (envOfC qual scope s0.heap.objs.size f cd :: outer), b = (envOfC qual scope s0.heap.objs.size f cd).locals ∨ b ∈ frs outer := fun b hb => List.mem_cons.mp (I.stkSub b hb)
  have above : s0.heap.objs.size ≤ (envOfC qual scope s0.heap.objs.size f cd).locals := I.ok.above
  have oldT : ∀ b o, s0.heap.get? b = some o → b ∈ frs (envOfC qual scope s0.heap.objs.size f cd :: outer) → b ∈ frs outer := fun b o q z => by
    rcases sub b z with z | z
    · subst z
      exact absurd (Nat.lt_of_lt_of_le (Heap.lt_size q) above) (Nat.lt_irrefl _)
    · exact z
  have x' : Fly P w (envOfC qual scope s0.heap.objs.size f cd :: outer) H s cls a0 ea B H' s' := x
  have u0 : Un (frs outer) [] H0 H s0.heap s.heap := I.base
  have u : Un (frs outer) [] H0 H' s0.heap s'.heap := u0.andThen x'.un oldT
  show wpAny (model P w) (A.deeper (envOfC qual scope s0.heap.objs.size f cd)) (leaving (envOfC qual scope s0.heap.objs.size f cd) (.ref ea)) _ _ _
  refine wpAny_leaves_onW I.ok.frames rfl x'.fly fun h' fl ups => ?_
  have kept : ∀ b o, s'.heap.get? b = some o → b ∉ frs (envOfC qual scope s0.heap.objs.size f cd :: outer) → (H' b ≠ none ∨ ∃ o', s.heap.get? b = some o') → h'.get? b = some o := fun b o q nb hc => fl.1 b o (x'.cov b o q nb hc)
  refine ⟨ea, cls, a0, B, H', rfl, ⟨x'.os.trans I.os, x'.bare, u.onward (fun b o q nb old' => ?_) (fun b o q hb old' => ?_), x'.hok.onward fun b o hb q => kept b o q (fun z => hb (x'.frf b z)) (.inl hb), fl, fun b hb => x'.frf b (frs_tail hb), fun b o q nb hc => ?_⟩, hE⟩
  · obtain ⟨o', q'⟩ := old'
    obtain ⟨o1, q1⟩ := u0.there b o' q' (by simp)
    exact kept b o q (fun z => nb (oldT b o' q' z)) (.inr ⟨o1, q1⟩)
  · obtain ⟨_, o', ho', nf⟩ := x'.fly.2.2.1.mem (frs_tail hb)
    rw [q] at ho'; cases ho'
    exact ups b o q nf
  · have key : ∃ o1, s'.heap.get? b = some o1 ∧ b ∉ frs (envOfC qual scope s0.heap.objs.size f cd :: outer) ∧ (H' b ≠ none ∨ ∃ o', s.heap.get? b = some o') := by
      rcases hc with hc | ⟨o', q'⟩
      · cases e1 : H' b with
        | none => exact absurd e1 hc
        | some u1 =>
          obtain ⟨o1, q1⟩ := (x'.hok b u1 e1).there
          exact ⟨o1, q1, fun z => hc (x'.frf b z), .inl (by rw [e1] at hc; exact hc)⟩
      · obtain ⟨o1, q1⟩ := u.there b o' q' (by simp)
        obtain ⟨o2, q2⟩ := u0.there b o' q' (by simp)
        exact ⟨o1, q1, fun z => nb (oldT b o' q' z), .inr ⟨o2, q2⟩⟩
    obtain ⟨o1, q1, n1, c1⟩ := key
    have z := kept b o1 q1 n1 c1
    have q2 : h'.get? b = some o := q
    rw [q2] at z; cases z
    exact x'.cov b _ q1 n1 c1
end
end L2

namespace L2
open PySem PySem.Spec PyProof.Rows PySem.W PySem.Calls Builtin Builtin.ObjectAttr Builtin.Getset_descriptor

def ExcAt (C e : Addr) (h : Heap) : Prop := ∃ o, h.get? e = some o ∧ o.cls = .ref C ∧ notCls o = true
theorem ExcAt.stays {C e : Addr} {h1 h2 : Heap} (x : ExcAt C e h1) (k : ∀ o, h1.get? e = some o → h2.get? e = some o) : ExcAt C e h2 :=
  let ⟨o, a, b⟩ := x
  ⟨o, k o a, b⟩
theorem ExcAt.type {C e : Addr} {h : Heap} {M : Model} (x : ExcAt C e h) : Looks M h (typeOf (.ref e)) (.ref C) := by
  obtain ⟨o, a, b, _⟩ := x
  exact b ▸ (Looks.ld a).andThen .now
structure ExcCls (K : Frag) (C : Addr) : Prop where
  cls : (clsIn K C).isSome = true
  ga : findIn K (.ref C) "__getattribute__" = some (some (.builtin "BaseException.__getattribute__"))
  gt : findIn K (.ref C) "__getattr__" = some none
  cl : findIn K (.ref C) "__class__" = some (some (.builtin "object.__class__"))
  get : specialIn K (.builtin "object.__class__") "__get__" = some (some (.builtin "getset_descriptor.__get__"))
  tk : takesIn K (.builtin "object.__class__") = some true
  ob : mroIn K C (.type "object") = some true
  be : mroIn K C (.type "BaseException") = some true
section
variable {prog : Program} {w : World} {A : Around} {E : Value → Shared → Prop} {s : Shared} {K : Frag} {e C : Addr}
theorem exc_find {M : Model} {h : Heap} (X : K.In h) (T : ExcCls K C) : Looks M h (Builtin.ObjectAttr.find (.ref e) (.ref C) "__class__") (.bind (.builtin "getset_descriptor.__get__") (.builtin "object.__class__")) := by
  have d : Looks M h (Builtin.ObjectAttr.dataDescriptor? (some (.builtin "object.__class__")) (some (.builtin "getset_descriptor.__get__"))) (some (.builtin "getset_descriptor.__get__", .builtin "object.__class__")) := (looks_takesIn X T.tk).andThen .now
  exact (looks_findIn X T.cl).andThen ((looks_specialIn X T.get).andThen (d.andThen (Looks.tag .now)))
theorem exc_class_get {R : Result → Shared → Prop} {tp : Value} (X : K.In s.heap) (I : ExcAt C e s.heap) (hm : mroIn K C (.type "object") = some true)
    (h : R (.ok (.ret (.ref C))) s) : codeAny (model prog w) A (.call (.builtin "getset_descriptor.__get__") ⟨[.builtin "object.__class__", .ref e, tp], []⟩) R s := by
  obtain ⟨hp, gs, dr, tk, os⟩ := s
  have l0 := I.type (M := model prog w)
  have l1 := looks_mroIn (M := model prog w) X hm
  refine codeAny_call_builtin KF.slot_gs.plain KF.entry_gs ?_
  refine KF.slot_gs.check _ _ _ _ _ _ _ _ KF.type_class (KF.args_gs _ _ _) ?_
  unfold Builtin.«getset_descriptor.__get__» descrGet
  rw [dga_obj]
  refine wpAny_bind (wpAny_pure ?_)
  unfold descrGetter descrCheckInstance descrNameAndClass isInstance
  simp only [KF.owner_class]
  repeat lk
  refine ⟨Code.quiet_builtin _ (by decide +kernel), codeAny_builtin KF.entry_class ?_⟩
  unfold Builtin.«object.__class__» shownTypeOf
  repeat lk
  exact h

theorem exc_entry {tk : Tok} {Q : PySem.Fin → Shared → Prop} (X : K.In s.heap) (T : ExcCls K C) (I : ExcAt C e s.heap) (h : Q (.done (.ret (.ref C))) s) :
    wpAny (model prog w) A (Builtin.«object.__getattribute__» ⟨[.ref e, .str "__class__" tk], []⟩) Q E s := by
  obtain ⟨hp, gs, dr, t, os⟩ := s
  have l0 := I.type (M := model prog w)
  have l1 := exc_find (e := e) (M := model prog w) X T
  unfold Builtin.«object.__getattribute__»
  repeat (first | with_reducible refine wpAny_call ?_ | lk)
  refine exc_class_get X I T.ob ?_
  repeat lk
  exact h
theorem exc_class {Q : Option Value → Shared → Prop} (X : K.In s.heap) (T : ExcCls K C) (I : ExcAt C e s.heap) (h : Q (some (.ref C)) { s with toks := s.toks + 1 }) : wpAny (model prog w) A (getAttr? (.ref e) "__class__") Q E s := by
  obtain ⟨hp, gs, dr, t, os⟩ := s
  have l0 := I.type (M := model prog w)
  have l1 := looks_findIn (M := model prog w) X T.ga
  have l2 := looks_findIn (M := model prog w) X T.gt
  have l3 := looks_mroIn (M := model prog w) X T.be
  unfold getAttr? getAttrBy? getAttrBy
  refine wpAny_bind (wpAny_mkText (wpAny_bind (wpAny_attempt (wpAny_holding (wpAny_bind (l0.at (wpAny_bind (l1.at ?_))))))))
  dsimp only
  have ne : (Value.builtin "BaseException.__getattribute__" == Value.builtin "object.__getattribute__") = false := by decide +kernel
  rw [if_neg (by rw [ne, Bool.and_false]; exact Bool.false_ne_true)]
  unfold getAttrByItsOwn hookBefore
  repeat (first | with_reducible refine wpAny_call ?_ | with_reducible refine wpAny_attempt ?_ | lk)
  have hk : builtinKind "BaseException.__getattribute__" = some .slot := by decide +kernel
  have hsplit : splitId "BaseException.__getattribute__" = some ("BaseException", "__getattribute__") := by decide +kernel
  refine codeAny_call_builtin (by decide +kernel) F.entry_bexc_ga ?_
  have ha := F.args_bexc_ga (.ref e) (.str (Str.ofString "__class__") t)
  show wpAny _ _ (checkBuiltinCall "BaseException.__getattribute__" ⟨[.ref e, .str (Str.ofString "__class__") t], []⟩) _ _ _
  simp only [checkBuiltinCall, hk, hsplit]
  unfold isInstance
  refine wpAny_bind (wpAny_bind (l0.at (l3.at ?_)))
  simp only [Bool.not_true, Bool.false_eq_true, if_false]
  refine wpAny_of_eq (show _ = pure () from ha) ?_
  refine wpAny_mono (exc_entry (E := fun _ _ => False) (Q := fun fin s' => fin = .done (.ret (.ref C)) ∧ s' = ⟨hp, gs, dr, t + 1, os⟩) X T I ⟨rfl, rfl⟩) (fun fin s' z => ?_) fun _ _ z => z.elim
  obtain ⟨rfl, rfl⟩ := z
  exact wpAny_pure (wpAny_pure h)
end
theorem kitx_exc {K : Frag} {e C : Addr} (T : ExcCls K C) : KitX K (.ref e) (.ref C) (ExcAt C e) where
  ty := fun _ _ _ I => I.type
  it := fun M h X _ => by
    obtain ⟨cd, hc⟩ := Option.isSome_iff_exists.mp T.cls
    unfold clsIn at hc
    split at hc
    · rename_i c' d' cd' sl' ho
      intro A' Q' E' s' k q
      unfold isType loadHead
      exact wpAny_bind (wpAny_loadPart (k _ _ (X _ _ ho)) (wpAny_pure q))
    · cases hc
  ne := fun h tp dd its n sl X htp => by
    obtain ⟨cd, hc⟩ := Option.isSome_iff_exists.mp T.cls
    refine Bool.eq_false_iff.mpr fun q => ?_
    have ee : C = tp := Value.ref.inj (beq_iff_eq.mp q)
    subst ee
    unfold clsIn at hc
    split at hc
    · rename_i c' d' cd' sl' ho
      have z := (X _ _ ho).symm.trans htp
      cases z
    · cases hc
  ca := fun X I k => exc_class X T I k
end L2

namespace L2
open PySem PySem.Spec PyProof.Rows

structure RoomQ (k : Nat) (A : Around) : Prop where
  dp : A.depth + 3 * k + 5 < recursionLimit
  un : A.units + 16 * k + 200 < cLine
theorem Room.q {k : Nat} {A : Around} (r : Room k A) : RoomQ k A := ⟨r.dp, r.un⟩
theorem RoomQ.mark {k : Nat} {A : Around} (r : RoomQ k A) (h : Option Value) : RoomQ k (A.mark h) := ⟨r.dp, r.un⟩
theorem RoomQ.mono {j k : Nat} {A : Around} (r : RoomQ k A) (h : j ≤ k) : RoomQ j A := ⟨by have := r.dp; omega, by have := r.un; omega⟩
theorem RoomQ.deeper {k : Nat} {A : Around} (r : RoomQ (k + 1) A) (env : Env) : RoomQ k (A.deeper env) :=
  ⟨by have := r.dp; show A.depth + 1 + 3 * k + 5 < _; omega, by have := r.un; show A.units + 3 + 16 * k + 200 < _; omega⟩
structure FnOkQ (P : Program) (w : World) (K : PySem.W.Frag) (mg : Str → Option Value) (base : Heap) (k : Nat) (f : Addr) (fd : FuncData) (ps : List Str) (sp : Sp) : Prop where
  len : ∀ vs H Q E, sp vs H Q E → vs.length = ps.length
  run : ∀ (A : Around) (outer : List Env) (s : Shared) (H : Hp) (args : Args) (us : List Value) (vs : List V) (Q : VK) (E : XK), RoomQ k A → Env0 P w K mg base A outer s H → BindsTo s fd args (ps.zip us) → Vals vs us → sp vs H Q E →
    codeAny (model P w) A (.call (.ref f) args) (CR CX0 outer P w H s Q E) s
def cxQ (P : Program) (w : World) (K : PySem.W.Frag) (mg : Str → Option Value) (base : Heap) (N : List Str) (qual : Str) (scope : Scope) (f : Addr) (cd : Value) (A : Around) (outer : List Env) (s : Shared) (H : Hp) : Cx :=
  { cxOf CX0 P w K mg base N qual scope f cd A outer s H E0 with calm := false, still := false, xe := fun _ _ => False }
theorem inv_startQ {P : Program} {w : World} {K : PySem.W.Frag} {mg : Str → Option Value} {base : Heap} {N ps : List Str} {qual : Str} {scope : Scope} {f : Addr} {cd : Value} {A : Around} {outer : List Env} {s s1 : Shared} {H : Hp} {us : List Value} {vs : List V}
    (S : FnScope N ps scope) (e0 : Env0 P w K mg base A outer s H) (hl : vs.length = ps.length) (r : Vals vs us)
    (x : InCallC s s.heap.objs.size (bindL (envOfC qual scope s.heap.objs.size f cd).kindOf (ps.zip us) fun _ => none) (cellsFrom (s.heap.objs.size + 1) scope.names []) (bindC (envOfC qual scope s.heap.objs.size f cd).kindOf (ps.zip us) fun _ => none) s1) :
    Inv (cxQ P w K mg base N qual scope f cd A outer s H) [] (start N vs) H s1 := by
  -- the same state, read under an Around that handles nothing
  have e1 : Env0 P w K mg base { A with handled := none } outer s H := ⟨e0.frames, e0.mod, e0.bs, e0.bsz, e0.funs, e0.frf, e0.hok, e0.bare⟩
  have J := inv_start (CX := CX0) (E := E0) (A := { A with handled := none }) S rfl e1 hl r x
  have ok := J.ok
  exact ⟨⟨ok.mod, ok.kind, ok.glob, ok.blt, ok.above, ok.inj, ok.has, ok.cab, (fun h => by cases h), (fun h => by cases h), (show (A.deeper _).frames = some (_ :: outer) from Around.frames_deeper e0.frames), ok.stk, ok.exf, ok.bs, ok.bsz, ok.noex, ok.exfs, ok.funs, ok.frf⟩,
    J.fzs, J.os, J.bare, J.base, J.loc, J.cell, J.free, J.freeC, J.pin, J.hok, J.len⟩
theorem fn_ofQ {P : Program} {w : World} {K : PySem.W.Frag} {mg : Str → Option Value} {base : Heap} {k : Nat} {f : Addr} {name qual : Str} {params : Arguments} {body : List Stmt} {scope : Scope} {dV kV doc pm cdv ct oc : Value} {an od : Option Addr}
    {osl : Array (Option Value)} {N ps : List Str} {sp : Sp} (lk : K.lookup f = some ⟨oc, od, .func (PySem.W.fnOf name qual params body scope dV kV doc pm an cdv ct), osl⟩) (hcd : PySem.W.codeIn K cdv qual = true) (S : FnScope N ps scope)
    (len : ∀ vs H Q E, sp vs H Q E → vs.length = ps.length)
    (hbody : ∀ (A : Around) (outer : List Env) (s : Shared) (H : Hp) (vs : List V) (Q : VK) (E : XK), RoomQ k (A.deeper (envOfC qual scope s.heap.objs.size f cdv)) → sp vs H Q E →
      ∃ t, PSs (cxQ P w K mg base N qual scope f cdv A outer s H) body t ∧ t { nx := fun _ H' => Q .non H', rt := Q } (start N vs) H) :
    FnOkQ P w K mg base (k + 1) f (PySem.W.fnOf name qual params body scope dV kV doc pm an cdv ct) ps sp := by
  refine ⟨len, fun A outer s H args us vs Q E hr e0 hb r hsp => ?_⟩
  have hl := len _ _ _ _ hsp
  have KX : K.In s.heap := e0.mod.kin.keeps fun b o e => (e0.bs b o e).1
  have lim : s.heap.NoLimit := e0.mod.nolimit.keeps fun b o e => (e0.bs b o e).1
  have hkind : ∀ y ∈ ps.zip us, scope.names.lookup y.1 = some .local ∨ (scope.names.lookup y.1 = some .cell ∧ ((cellsFrom (s.heap.objs.size + 1) scope.names []).lookup y.1).isSome = true) := fun ⟨n, v⟩ hy => by
    rcases S.par n (List.of_mem_zip hy).1 with q | q
    · exact .inl q
    · exact .inr ⟨q, PySem.W.cellsFrom_some _ _ _ (.inl q)⟩
  have hdep : A.depth < recursionLimit := by have := hr.dp; omega
  refine codeAny_call_function hdep (KX _ _ lk) rfl S.co S.gen rfl (PySem.W.codeRec_of KX hcd) (hb _ _ _ _ ?_)
  refine wpAny_newFunctionEnv_cells S.kind hkind fun env he s1 x => ?_
  subst he
  refine ⟨lim.keeps x.toInCall.keep, codeAny_func ?_⟩
  obtain ⟨t, ht, hq⟩ := hbody A outer s H vs Q E (hr.deeper _) hsp
  have I : Inv (cxQ P w K mg base N qual scope f cdv A outer s H) [] (start N vs) H s1 := inv_startQ S e0 hl r x
  refine wpAny_mono (ht [] s1 (start N vs) H _ I hq) (fun fl s' hs => ?_) fun e s' hs => False.elim hs
  have fin : ∀ {σ' : St} {H' : Hp} {v : V} {u : Value}, Inv (cxQ P w K mg base N qual scope f cdv A outer s H) [] σ' H' s' → RelV v u → Q v H' → CE outer P w H s Q u s' :=
    fun {σ' H' v u} J rv q => ⟨v, H', J.os, J.bare, J.base, J.hok, rv, q⟩
  cases fl with
  | ret u =>
    obtain ⟨v, σ', H', J, rv, q⟩ := hs
    exact fin J rv q
  | next =>
    obtain ⟨σ', H', J, q⟩ := hs
    exact fin (v := V.non) (u := Value.none) J rfl q
  | brk =>
    obtain ⟨_, _, _, q⟩ := hs
    exact False.elim q
  | cont =>
    obtain ⟨_, _, _, q⟩ := hs
    exact False.elim q
section
variable {P : Program} {w : World} {K : PySem.W.Frag} {mg : Str → Option Value} {base : Heap}
theorem Fun.okQ {x qual : Str} {st : Stmt} {f : Addr} {fd : FuncData} {N ps : List Str} {k : Nat} {sp : Sp} (F : Fun K x qual st f fd) (S : FnScope N ps (defScope st)) (len : ∀ vs H Q E, sp vs H Q E → vs.length = ps.length)
    (hbody : ∀ (cdv : Value) (A : Around) (outer : List Env) (s : Shared) (H : Hp) (vs : List V) (Q : VK) (E : XK), RoomQ k (A.deeper (envOfC qual (defScope st) s.heap.objs.size f cdv)) → sp vs H Q E →
      ∃ t, PSs (cxQ P w K mg base N qual (defScope st) f cdv A outer s H) (defBody st) t ∧ t { nx := fun _ H' => Q .non H', rt := Q } (start N vs) H) : FnOkQ P w K mg base (k + 1) f fd ps sp := by
  obtain ⟨oc, od, kV, doc, pm, an, cdv, ct, osl, rfl, lk, hcd⟩ := F.ex
  exact fn_ofQ lk hcd S len fun A outer s H vs Q E hr hsp => hbody cdv A outer s H vs Q E hr hsp
theorem Fun.okX {x qual : Str} {st : Stmt} {f : Addr} {fd : FuncData} {N ps : List Str} {k : Nat} {sp : Sp} (F : Fun K x qual st f fd) (S : FnScope N ps (defScope st)) (len : ∀ vs H Q E, sp vs H Q E → vs.length = ps.length)
    (hbody : ∀ (cdv : Value) (A : Around) (outer : List Env) (s : Shared) (H : Hp) (vs : List V) (Q : VK) (E : XK), Room k (A.deeper (envOfC qual (defScope st) s.heap.objs.size f cdv)) → sp vs H Q E →
      ∃ t, PSs (cxOf (XF P w) P w K mg base N qual (defScope st) f cdv A outer s H E) (defBody st) t ∧ t { nx := fun _ H' => Q .non H', rt := Q } (start N vs) H) : FnOk P w K mg base (XF P w) (k + 1) f fd ps sp := by
  obtain ⟨oc, od, kV, doc, pm, an, cdv, ct, osl, rfl, lk, hcd⟩ := F.ex
  exact fn_of lk hcd S len fun A outer s H vs Q E hr hsp => hbody cdv A outer s H vs Q E hr hsp
end
section
variable {X : Cx} {k : Nat} {f : Addr} {fd : FuncData} {ps : List Str} {sp : Sp} {dvs : List V} {ds : List Value} {x : Str} {p pos : Pos} {e : Expr} {es : List Expr} {t : TA}
theorem pe_callQ (F : FnOkQ X.prog X.w X.K X.mg X.base k f fd ps sp) (hr : RoomQ k X.A) (hg : Gl X x) (hm : X.mg x = some (.ref f)) (hk : PySem.W.keepIn X.K (.ref f) = true) (hb : Binds X.K fd ps ds) (hd : Vals dvs ds)
    (ha : PA X (e :: es) t) (hdb : (x == ("__debug__" : Str)) = false := by decide) (he : starEach (e :: es) X.env = (false, eval e X.env) :: starEach es X.env := by rfl) (hpl : (backTo pos (starEach es X.env)).any (·.1) = false := by rfl) :
    PE X (.Call (.Name x p) (e :: es) [] pos) (tCall sp dvs E0 t) := by
  intro pins s σ H Q I h
  refine wpAny_Call_Name_kw (ld_glob I hg hm ?_ hdb)
  refine PySem.W.callWith_K (h₀ := X.base) I.ok.mod.kin hk (thn (ha pos pins s σ H _ I h) fun us s1 ⟨vs, H1, I1, r, q⟩ => ⟨I1.kIn, ?_⟩) he hpl
  have r2 : Vals (vs ++ dvs) (us ++ ds) := r.append hd
  have hl : (us ++ ds).length = ps.length := by rw [← r2.length]; exact F.len _ _ _ _ q
  refine wpAny_call (codeAny_mono (F.run X.A X.stack s1 H1 ⟨us, []⟩ (us ++ ds) (vs ++ dvs) Q E0 hr I1.env0 (hb s1 us I1.kIn hl) r2 q) fun r s' hq => ?_)
  cases r with
  | error e => exact False.elim hq
  | ok fl =>
    cases fl with
    | ret u => exact I1.after hq
    | next => exact False.elim hq
    | brk => exact False.elim hq
    | cont => exact False.elim hq
end
theorem PS.nox {X : Cx} {st : Stmt} {t : TS} (h : PS X.nox st t) : PS X st t := fun pins s σ H D I hw =>
  wpAny_mono (h pins s σ H D (I.wish _) hw) (fun _ _ q => q.unwish) fun _ _ z => z.elim

theorem exc_obj {K : PySem.W.Frag} {h : Heap} {C : Addr} {bmB : List Value} {newId : String} (X : K.In h) (q : PySem.W.excIn K C bmB newId = true) :
    ∃ bm N nm qn bs hdct sn sub ab col dd k0 k1 k2 k3 k5 mN, h.get? C = some (excClassObj nm qn C N bs bm hdct sn sub ab col dd k0 k1 k2 k3 k5 newId) ∧ h.Ns N mN ∧ mN "__init__" = none ∧ OwnTail h bmB bm := by
  unfold PySem.W.excIn at q
  split at q
  · rename_i dd cd sl ho
    split at q
    · rename_i C' bm k0 k1 k2 k3 n k5 hm hs
      simp only [Bool.and_eq_true, beq_iff_eq, Bool.not_eq_true'] at q
      obtain ⟨⟨⟨⟨⟨c1, c2⟩, c3⟩, c4⟩, c5⟩, c6⟩ := q
      subst c1 c2
      obtain ⟨nm, bs, mro, ns, qn, hd, sn, sub, ab, col, del⟩ := cd
      dsimp only at hm c3 c5 c6
      subst hm c3
      obtain ⟨l⟩ := sl
      have hs' : l = [k0, k1, k2, k3, some (.builtin n), k5] := hs
      subst hs'
      exact ⟨bm, ns, nm, qn, bs, hd, sn, sub, ab, col, dd, k0, k1, k2, k3, k5, _, X _ _ ho, .of_isNs (PySem.W.isNs_of_in X c5), PySem.W.nsMap_none_of_in X c5 c6, PySem.W.tail_of_in X c4⟩
    · cases q
  · cases q
abbrev bmVE : List Value := [.type "ValueError", .type "Exception", .type "BaseException", .type "object"]
def tRaise (C : Addr) (E : XK) (ta : TA) : TS := fun _ σ H => ta σ H fun vs H1 => vs.length ≤ sizeLine ∧ E (.ref C) none H1
section
variable {P : Program} {w : World} {K : PySem.W.Frag} {mg : Str → Option Value} {base : Heap} {N : List Str} {qual : Str} {scope : Scope} {f : Addr} {cd : Value} {A : Around} {outer : List Env} {s0 : Shared} {H0 : Hp} {E : XK}
  {x : Str} {C : Addr} {np cpos pos : Pos} {e : Expr} {es : List Expr} {t : TA}
theorem ps_raise (hm : mg x = some (.ref C)) (hq : PySem.W.excIn K C bmVE "ValueError.__new__" = true) (hg : Gl (cxOf (XF P w) P w K mg base N qual scope f cd A outer s0 H0 E) x)
    (ha : PA (cxOf (XF P w) P w K mg base N qual scope f cd A outer s0 H0 E) (e :: es) t) (hdb : (x == ("__debug__" : Str)) = false := by decide)
    (he : starEach (e :: es) (cxOf (XF P w) P w K mg base N qual scope f cd A outer s0 H0 E).env = (false, eval e (cxOf (XF P w) P w K mg base N qual scope f cd A outer s0 H0 E).env) :: starEach es (cxOf (XF P w) P w K mg base N qual scope f cd A outer s0 H0 E).env := by rfl)
    (hpl : (backTo cpos (starEach es (cxOf (XF P w) P w K mg base N qual scope f cd A outer s0 H0 E).env)).any (·.1) = false := by rfl) :
    PS (cxOf (XF P w) P w K mg base N qual scope f cd A outer s0 H0 E) (.Raise (some (.Call (.Name x np) (e :: es) [] cpos)) none pos) (tRaise C E t) := by
  intro pins s σ H D I h
  obtain ⟨bm, Nn, nm, qn, bs, hdct, sn, sub, ab, col, dd, k0, k1, k2, k3, k5, mN, hC, hN, hni, TL⟩ := exc_obj I.mod.kin hq
  have hpl' : (backTo cpos (starEach (e :: es) (cxOf (XF P w) P w K mg base N qual scope f cd A outer s0 H0 E).env)).any (·.1) = false := by
    rw [he]
    show (false || (backTo cpos (starEach es _)).any (·.1)) = false
    rw [hpl]
    rfl
  refine wpAny_Raise_call_subT (C := C) (nm := nm) (q := qn) (N := Nn) (bs := bs) (bm := bm) (hdct := hdct) (sn := sn) (sub := sub) (ab := ab) (col := col) (dd := dd) (k0 := k0) (k1 := k1) (k2 := k2) (k3 := k3) (k5 := k5)
    PySem.F.excBase_ValueError (mN := mN) (TL.hasType PySem.F.excBase_ValueError.hasBase) (I.ok.hd rfl) hpl' hni (ld_glob I hg hm ⟨rfl, ?_⟩ hdb)
  have h2 := ha cpos pins s σ H _ I h
  rw [he] at h2 ⊢
  exact Calls.evalArgs_plain (wpAny_mono h2 (fun us s1 ⟨vs, H1, I1, r, z, q⟩ => ⟨rfl, by show us.length ≤ _; rw [← r.length]; exact z, I1.bk _ _ hC, hN.keeps I1.bk, TL.keeps I1.bk, fun h' ea hm' => raise_xe I1 hm' q⟩) fun _ _ y => y)
end
end L2

namespace L2
open PySem PySem.Spec PyProof.Rows

abbrev Cx.marked (X : Cx) (e : Addr) : Cx := { X with A := X.A.mark (some (.ref e)), calm := false, still := false, xe := fun _ _ => False }
theorem Cx.Ok.marked {X : Cx} (ok : X.Ok) (e : Addr) : (X.marked e).Ok :=
  ⟨ok.mod, ok.kind, ok.glob, ok.blt, ok.above, ok.inj, ok.has, ok.cab, (fun h => by cases h), (fun h => by cases h), ok.frames, ok.stk, ok.exf, ok.bs, ok.bsz, ok.noex, ok.exfs, ok.funs, ok.frf⟩
section
variable {X : Cx} {pins : List (Addr × Obj)} {σ : St} {H H' : Hp} {s s' : Shared} {e : Addr}
theorem Inv.marked (I : Inv X pins σ H s) (e : Addr) : Inv (X.marked e) pins σ H s := ⟨I.ok.marked e, I.fzs, I.os, I.bare, I.base, I.loc, I.cell, I.free, I.freeC, I.pin, I.hok, I.len⟩
theorem Inv.unmarked (ok : X.Ok) (I : Inv (X.marked e) pins σ H s) : Inv X pins σ H s := ⟨ok, I.fzs, I.os, I.bare, I.base, I.loc, I.cell, I.free, I.freeC, I.pin, I.hok, I.len⟩
theorem Un.more {fs : List Addr} {H H1 : Hp} {h h1 : Heap} {a : Addr} {o : HO} (u : Un fs [] H H1 h h1) (n : h.get? a = none) (n1 : H1 a = none) : Un fs [] H (upd H1 a o) h h1 where
  keep := u.keep
  slot := u.slot
  free := fun b ob q m hx => by
    have ne : b ≠ a := fun z => by subst z; rw [n] at q; cases q
    rw [upd_ne ne]
    exact u.free b ob q m hx
  there := u.there
  tups := fun b xs q => by
    have z := u.tups b xs q
    rw [upd_ne (ne_of_none z n1)]
    exact z
  frzs := fun b ob v q => by
    have z := u.frzs b ob v q
    rw [upd_ne (ne_of_none z n1)]
    exact z
  tbls := fun b ps q => by
    obtain ⟨m, z⟩ := u.tbls b ps q
    exact ⟨m, by rw [upd_ne (ne_of_none z n1)]; exact z⟩
theorem HOk.more {P : Program} {w : World} {H1 : Hp} {h1 : Heap} {a : Addr} {o : HO} (x : HOk P w H1 h1) (n1 : H1 a = none) (new : ObjOk P w (upd H1 a o) h1 a o) : HOk P w (upd H1 a o) h1 := fun b u e => by
  by_cases hb : b = a
  · subst hb; rw [upd_same] at e; cases e; exact new
  · rw [upd_ne hb] at e
    exact (x b u e).stay (fun _ _ _ q => q) (fun c q => by rw [upd_ne (ne_of_none q n1)]; exact q) fun c xs q => by rw [upd_ne (ne_of_none q n1)]; exact q
variable {cls a0 : Value} {ea C : Addr} {B h' : Heap} {t' : Nat}
theorem Fly.unF (x : Fly X.prog X.w X.stack H s cls a0 ea B H' s') (k : B.StaysIn h') (ups : s'.heap.UpToSlots h') : Un (frs X.stack) [] H H' s.heap h' :=
  x.un.onward (fun b o q nb old => k b o (x.cov b o q nb (.inr old))) fun b o q hb old => by
    obtain ⟨_, o', ho', nf⟩ := x.fly.2.2.1.mem hb
    rw [q] at ho'; cases ho'
    exact ups b o q nf
theorem Fly.hokF (x : Fly X.prog X.w X.stack H s cls a0 ea B H' s') (k : B.StaysIn h') : HOk X.prog X.w H' h' :=
  x.hok.onward fun b o hb q => k b o (x.cov b o q (fun z => hb (x.frf b z)) (.inl hb))
theorem Fly.notFrame (x : Fly X.prog X.w X.stack H s cls a0 ea B H' s') : ea ∉ frs X.stack := fun z => by
  obtain ⟨_, o', ho', nf⟩ := x.fly.2.2.1.mem z
  obtain ⟨oe, vs, he, _, hd, _⟩ := x.fly.first
  rw [he] at ho'; cases ho'
  exact nf vs hd
theorem Fly.new (x : Fly X.prog X.w X.stack H s cls a0 ea B H' s') : s.heap.get? ea = none ∧ H' ea = none := by
  obtain ⟨oe, vs, he, _, hd, _⟩ := x.fly.first
  constructor
  · cases q : s.heap.get? ea with
    | none => rfl
    | some o' =>
      have z := x.cov ea oe he x.notFrame (.inr ⟨o', q⟩)
      rw [x.fly.2.1] at z; cases z
  · cases q : H' ea with
    | none => rfl
    | some u =>
      have z := x.cov ea oe he x.notFrame (.inl (by rw [q]; simp))
      rw [x.fly.2.1] at z; cases z
theorem Inv.landed (I : Inv X pins σ H s) (x : Fly X.prog X.w X.stack H s cls a0 ea B H' s') (k : B.StaysIn h') (ups : s'.heap.UpToSlots h') : Inv X pins σ H' { s' with heap := h', toks := t' } :=
  I.call' (s' := { s' with heap := h', toks := t' }) (ch := []) x.os (x.unF k ups) (x.hokF k) x.bare fun b z => absurd z (by simp)
theorem Inv.landedE (I : Inv X pins σ H s) (x : Fly X.prog X.w X.stack H s (.ref C) a0 ea B H' s') {l : List Env} (fl : Heap.FlyingW B l ea (.ref C) a0 h') (ups : s'.heap.UpToSlots h') :
    Inv X pins σ (upd H' ea (.ext (ExcAt C ea))) { s' with heap := h', toks := t' } := by
  obtain ⟨oe, vs, he, hc, hd, _⟩ := fl.first
  have at_ : ExcAt C ea h' := ⟨oe, he, hc, by unfold PySem.W.notCls; rw [hd]⟩
  exact I.call' (s' := { s' with heap := h', toks := t' }) (ch := []) x.os ((x.unF fl.1 ups).more x.new.1 x.new.2) ((x.hokF fl.1).more x.new.2 ⟨at_, ⟨oe, he⟩, fun h1 h2 p q => p.stays q⟩) x.bare fun b z => absurd z (by simp)
theorem unbind_ok {M : Model} {A : Around} {E : Value → Shared → Prop} {i : Nat} {n : Str} {pos : Pos} {Q : Unit → Shared → Prop} (I : Inv X pins σ H s) (hN : X.N.Nodup) (hi : X.N[i]? = some n) (hk : X.env.scope.names.lookup n = some .local)
    (h : ∀ s', Inv X pins (σ.set i none) H s' → Q () s') : wpAny M A (do bindName X.env n .none; unbindBehindTheSuite X.env n pos) Q E s := by
  obtain ⟨m, hn, hl⟩ := id I.loc
  have hcls : (X.env.scope.kind == .class || (X.env.scope.kind == .module && X.env.locals != X.env.globals)) = false := by rw [I.ok.kind]; rfl
  have cne := I.cne
  obtain ⟨oL, _, _, hoL, _⟩ := id hn
  refine wpAny_nameGoes_keeps hk hn hcls fun h' v hn' hs => ?_
  have old : ∀ b o, X.s₀.heap.get? b = some o → h'.get? b = s.heap.get? b := fun b o e => hs.2 b (Nat.ne_of_lt (Nat.lt_of_lt_of_le (Heap.lt_size e) I.ok.above))
  refine h _ ⟨I.ok, I.fzs, I.os, I.bare, ⟨fun b o e k hb hx => (old b o e).trans (I.base.keep b o e k hb hx), fun b o e k hb hx => ?_, I.base.free, fun b o e hx => ?_, I.base.tups, I.base.frzs, I.base.tbls⟩, ⟨_, hn', fun j y v' e1 e2 e3 => ?_⟩, fun y c e => ?_, I.free, I.freeC, fun p hp => ?_, fun b ob e => ?_, by simpa using I.len⟩
  · obtain ⟨sl, e1⟩ := I.base.slot b o e k hb hx
    exact ⟨sl, (old b o e).trans e1⟩
  · obtain ⟨o', e1⟩ := I.base.there b o e hx
    exact ⟨o', (old b o e).trans e1⟩
  · by_cases hj : j = i
    · subst hj
      exfalso
      have hlt : j < σ.length := by rw [I.len]; exact (List.getElem?_eq_some_iff.mp hi).1
      rw [List.getElem?_set_self hlt] at e2
      cases e2
    · rw [List.getElem?_set_ne (Ne.symm hj)] at e2
      obtain ⟨u', r', q⟩ := hl j y v' e1 e2 e3
      refine ⟨u', r', ?_⟩
      rcases q with ⟨k, e⟩ | ⟨k, c, e, z⟩
      · refine .inl ⟨k, ?_⟩
        have ne : y ≠ n := fun z => hj (nodup_ix hN e1 (z ▸ hi))
        show (if y = n then v else m y) = some u'
        rw [if_neg ne]
        exact e
      · exact .inr ⟨k, c, e, z.sameBut hs (cne y c e)⟩
  · obtain ⟨w', z⟩ := I.cell y c e
    exact ⟨w', z.sameBut hs (cne y c e)⟩
  · obtain ⟨e, k, ne, nf, d⟩ := I.pin p hp
    exact ⟨(hs.2 p.1 ne).trans e, k, ne, nf, d⟩
  · refine (I.hok b ob e).stay (fun c w' hc q => (hs.2 c ?_).trans q) (fun _ q => q) fun _ _ q => q
    rintro rfl
    rcases hc with rfl | hc
    · rw [I.free] at e; cases e
    · rw [I.free] at hc; cases hc
def asEnds (D : Ends) (i : Nat) : Ends := { nx := fun σ H => D.nx (σ.set i none) H, rt := D.rt, bk := fun σ H => D.bk (σ.set i none) H, ct := fun σ H => D.ct (σ.set i none) H }
theorem handle_as {D : Ends} {ts : TS} {x n : Str} {np hpos : Pos} {b₀ : Stmt} {suite : List Stmt} {i : Nat} (I : Inv X pins σ H s) (fly : Fly X.prog X.w X.stack H s (.ref C) a0 ea B H' s') (hst : X.stack = X.env :: X.outer) (hf : X.env.frame = some X.env.locals)
    (hm : X.mg x = some (.ref C)) (hg : Gl X x) (hq : PySem.W.excIn X.K C bmVE "ValueError.__new__" = true) (hN : X.N.Nodup) (hi : X.N[i]? = some n) (hk : X.env.scope.names.lookup n = some .local)
    (hsu : PSs (X.marked ea) (b₀ :: suite) ts) (h : ts (asEnds D i) (σ.set i (some (.ref ea))) (upd H' ea (.ext (ExcAt C ea)))) (hdb : (x == ("__debug__" : Str)) = false) :
    wpAny (model X.prog X.w) X.A (noteFrame (.ref ea) X.env) (fun _ s₂ => wpAny (model X.prog X.w) X.A (setFlight (.ref ea) none) (fun _ s₃ =>
      wpAny (model X.prog X.w) X.A (handleBy (.ref ea) X.env [.ExceptHandler (some (.Name x np)) (some n) (b₀ :: suite) hpos]) (SP X pins D) X.xe s₃) X.xe s₂) X.xe s' := by
  obtain ⟨hp, gs, dr, tk, os⟩ := s'
  have fr : X.A.frames = some (X.env :: X.outer) := by rw [← hst]; exact I.ok.frames
  have fl : Heap.FlyingW B (X.env :: X.outer) ea (.ref C) a0 hp := by rw [← hst]; exact fly.fly
  refine wpAny_looks_onW fr hf fl fun h4 held4 u4 => ?_
  refine wpAny_landsW held4 fun h5 fl5 u5 => ?_
  have I5 : Inv X pins σ H' ⟨h5, gs, dr, tk, os⟩ := I.landed (t' := tk) fly fl5.1 (u4.trans u5)
  obtain ⟨ob, hob, hobc⟩ := fl5.there
  refine wpAny_handleBy_cons (codeAny_handlers_test (ld_glob (I5.marked ea) hg hm ?_ hdb)) (by intro q; cases q)
  obtain ⟨bm, Nn, nm, qn, bs, hdct, sn, sub, ab, col, dd, k0, k1, k2, k3, k5, mN, hC, hNs, hni, TL⟩ := exc_obj I5.kIn hq
  refine wpAny_excMatches_sub_self hC hob hobc (TL.hasType PySem.F.excBase_ValueError.hasBase) ?_
  refine codeAny_handlers_suite_as ?_
  refine lands_againW fl5 fun h6 fl6 u6 => ?_
  have I6 : Inv X pins σ (upd H' ea (.ext (ExcAt C ea))) ⟨h6, gs, dr, tk, os⟩ := I.landedE (t' := tk) fly fl6 ((u4.trans u5).trans u6)
  refine store_ok (X := X.marked ea) (i := i) (v := .ref ea) (I6.marked ea) hN hi (.inl hk) rfl (fun s7 I7 => ?_) (.inr hk)
  refine wpAny_mono (hsu pins s7 _ _ _ I7 h) (fun fw s8 q => ?_) fun _ _ z => False.elim z
  cases fw with
  | next =>
    obtain ⟨σ2, H2, J, q⟩ := q
    exact unbind_ok (J.unmarked I.ok) hN hi hk fun s9 J9 => ⟨_, _, J9, q⟩
  | ret v =>
    obtain ⟨v', σ2, H2, J, r, q⟩ := q
    exact unbind_ok (J.unmarked I.ok) hN hi hk fun s9 J9 => ⟨v', _, _, J9, r, q⟩
  | brk =>
    obtain ⟨σ2, H2, J, q⟩ := q
    exact unbind_ok (J.unmarked I.ok) hN hi hk fun s9 J9 => ⟨_, _, J9, q⟩
  | cont =>
    obtain ⟨σ2, H2, J, q⟩ := q
    exact unbind_ok (J.unmarked I.ok) hN hi hk fun s9 J9 => ⟨_, _, J9, q⟩
end
def tTryAs (sp : Sp) (C : Addr) (i : Nat) (ta : TA) (ts : TS) : TS := fun D σ H => ta σ H fun vs H1 => sp vs H1 (fun _ H2 => D.nx σ H2) fun cls _ H2 => cls = .ref C ∧ ∀ e, H2 e = none → ts (asEnds D i) (σ.set i (some (.ref e))) (upd H2 e (.ext (ExcAt C e)))
section
variable {X : Cx} {k : Nat} {f C : Addr} {fd : FuncData} {ps : List Str} {sp : Sp} {g x n : Str} {p pos pos2 pos3 np hpos : Pos} {e : Expr} {es : List Expr} {t : TA} {ts : TS} {b₀ : Stmt} {suite : List Stmt} {i : Nat}
end
end L2

namespace L2
open PySem PySem.Spec PyProof.Rows

theorem reads_bools (h : Heap) : ∀ {bs : List Bool} {us : List Value}, Vals (bs.map V.bl) us → ReadsAll h us (bs.map PyData.bool) []
  | [], _, .nil => .nil
  | b :: r, _, .cons q t => by
    have q' : _ = Value.bool b := q
    subst q'
    exact ReadsAll.cons (as := []) (bs := []) (.bool b) (reads_bools h t)
def rCount : V → List V → Hp → VK → Prop := fun x vs H Q => ∃ (l : Addr) (bs : List Bool) (k : Bool), x = .ref l ∧ vs = [.bl k] ∧ H l = some (.lst (bs.map V.bl)) ∧ Q (.int (countIn (.bool k) (bs.map PyData.bool))) H
theorem mt_count {X : Cx} : MtR X "list.count" rCount := by
  intro pins s σ H x vs v us Q I rx rv h
  obtain ⟨l, bs, k, rfl, rfl, hH, q⟩ := h
  cases rx
  obtain ⟨u, rfl, ru⟩ := rv.one
  have ru' : u = Value.bool k := ru
  subst ru'
  obtain ⟨z, its, n, r, hl, e⟩ := I.lstM hH
  exact count_list_bools (hp := s.heap) ⟨_, e, rfl, n, rfl⟩ (reads_bools _ r) (by rw [List.all_map]; simp [Shape.has]) ⟨.int (countIn (.bool k) (bs.map PyData.bool)), H, I.tok _, ⟨_, rfl⟩, q⟩

inductive TyX (K : PySem.W.Frag) (H : Hp) : V → Value → Prop where
  | of {x : V} {t : Value} (h : TyOf K H x t) : TyX K H x t
  | exc {e C : Addr} (T : ExcCls K C) (h : H e = some (.ext (ExcAt C e))) : TyX K H (.ref e) (.ref C)
def valOf : V → Value
  | .ref a => .ref a
  | .ty n => .type n
  | _ => .none
def rIsi (K : PySem.W.Frag) : List V → Hp → VK → Prop := fun xs H Q => ∃ x c t b, xs = [x, c] ∧ ((∃ a, c = .ref a) ∨ ∃ n, c = .ty n) ∧ TyX K H x t ∧ PySem.W.kitOne K t (valOf c) = some b ∧ Q (.bl b) H
theorem call_isi {X : Cx} : CallR X (.builtin "isinstance") (rIsi X.K) := by
  intro pins s σ H xs us Q I rv h
  obtain ⟨x, c, t, b, rfl, hc, ty, e, q⟩ := h
  obtain ⟨u, uc, rfl, ru, rc⟩ := rv.two
  have huc : uc = valOf c := by
    rcases hc with ⟨a, rfl⟩ | ⟨n, rfl⟩
    · exact rc
    · exact rc
  subst huc
  have fin : ∀ tk, EP X pins σ Q (.bool b) { s with toks := tk } := fun tk => ⟨.bl b, H, I.tok tk, rfl, q⟩
  cases ty with
  | of ty => exact isinst_ok I ru ty e fin
  | @exc ea C T he =>
    have ru' : u = Value.ref ea := ru
    subst ru'
    obtain ⟨p, _, _⟩ := (show ObjOk X.prog X.w H s.heap ea (.ext (ExcAt C ea)) from I.hok ea _ he)
    exact PySem.W.kia_one (kitx_exc T) I.kIn p e (fun z => nomatch z) fin

theorem bits_of_lay {ns : List Int} (h : PySem.W.WData.layableAll [PySem.W.WData.list (ns.map PySem.W.WData.int)] = true) : ∀ n ∈ ns, Builtin.Int.intBits n ≤ 1048576 := fun n hn => by
  have h1 := (PySem.W.layW_cons h).1
  have h2 := PySem.W.layableW_item h1 (.int n) (List.mem_map.mpr ⟨n, hn, rfl⟩)
  have h3 : PyData.layable0 (.int n) = true := h2
  exact PyData.bits_of_layable h3
theorem walk_b {l : PySem.W.OpenLaw} {n k : Nat} {q : Program} {loose : List Str} {XP : (Str → Option Value) → Heap → Prop} {YP : World → Heap → Prop} {d : DefRec} {K : Params → PySem.W.Frag} {CX : World → CXT} {sp : World → Sp} {x : Str}
    (hn : l.most = some n) (hn2 : n ≤ sizeLine) (hdf : d.params.defaults = []) (hr : Room k callerA)
    (hY : ∀ (w : World) (h : Heap), YP w h → (K w.params).In h)
    (F : ∀ (w : World) (mg : Str → Option Value) (fa : Addr) (h : Heap), (K w.params).In h → h.Ns mainGlobals mg → mg d.name = some (.ref fa) →
      ∃ fd : FuncData, (∀ (s : Shared) (u : Value), BindsTo s fd ⟨[u], []⟩ [(x, u)]) ∧
        ∀ base : Heap, (K w.params).In base → base.Ns mainGlobals mg → FnOk l.prog w (K w.params) mg base (CX w) k fa fd [x] (sp w))
    (hsp : ∀ (w : World) (H : Hp) (a : Addr) (ns : List Int), ns.length ≤ n → (∀ m ∈ ns, Builtin.Int.intBits m ≤ 1048576) → SqL (K w.params) H a (ns.map V.int) → sp w [.ref a] H (fun v _ => v = .bl true) fun _ _ _ => False)
    (hCX : ∀ (w : World) (H : Hp) (s : Shared) (e : Value) (s' : Shared), CX w [] H s (fun _ _ _ => False) e s' → False) :
    PySem.W.WalkO q loose XP YP l.row.toRowW d [] (fun f vs => PySem.call f vs) := by
  intro w s₀ s₁ mg mb G Y fa o pm cd doc dV kV ho hd hcd hD hmg hg args vals as hpre hlay hrd hwl hlo
  obtain ⟨a, vs, ns, rfl, rfl, hobj, hints, hlen⟩ := Att.script_of hn hpre hwl
  have KX := hY w _ Y
  obtain ⟨fd, hb, hF⟩ := F w mg fa _ KX G.T.g hmg
  have call := law_call KX G.T.g G.T.b G.T.builtins G.T.nolimit hg hobj hints (Nat.le_trans hlen hn2) hr hF hb (fun H hO hS => hsp w H a ns hlen (bits_of_lay hlay) hS) fun H e s' => hCX w H s₁ e s'
  refine PySem.W.enter_call (codeAny_mono call fun r s' hq => ?_)
  obtain ⟨rfl, h2, h3, h4⟩ := hq
  exact ⟨.inl ⟨.bool true, .bool true, [], rfl, fun _ => rfl, .bool true, Att.post_true l _, fun _ => ⟨List.Pairwise.nil, fun _ hm => (nomatch hm)⟩⟩, h2, h3, h4⟩
def spLaw (K : PySem.W.Frag) : Sp := fun vs H Q _ => ∃ (a : Addr) (ns : List Int), vs = [.ref a] ∧ SqL K H a (ns.map V.int) ∧ ns.length ≤ 63 ∧ (∀ m ∈ ns, Builtin.Int.intBits m ≤ 1048576) ∧ ∀ H', Q (.bl true) H'
end L2

namespace L2
open PySem PySem.Spec PyProof.Rows

def tCut (t u : TS) : TS := fun D σ H => ∃ R : St → Hp → Prop, t { D with nx := R } σ H ∧ ∀ σ' H', R σ' H' → u D σ' H'
theorem pss_cut {X : Cx} {st : Stmt} {rest : List Stmt} {t u : TS} (h1 : PS X st t) (h2 : PSs X rest u) : PSs X (st :: rest) (tCut t u) := by
  intro pins s σ H D I h
  obtain ⟨R, h, k⟩ := h
  refine wpAny_execs_cons (thn (h1 pins s σ H { D with nx := R } I h) fun f s1 q => ?_)
  cases f with
  | next =>
    obtain ⟨σ', H', I', q⟩ := q
    exact h2 pins s1 σ' H' D I' (k _ _ q)
  | ret v => exact q
  | brk => exact q
  | cont => exact q

theorem log2_lt_of {i : Int} {k : Nat} (h : i.natAbs < 2 ^ k) (hk : 0 < k) : i.natAbs.log2 < k := by
  by_cases h0 : i.natAbs = 0
  · rw [h0]; exact hk
  · exact (Nat.log2_lt h0).mpr h

def spCell (K : PySem.W.Frag) : Sp := fun vs H Q _ => ∃ (a : Addr) (ns : List Int) (k : Int), vs = [.ref a, .int k] ∧ SqL K H a (ns.map V.int) ∧ 0 ≤ k ∧ Q (.int (ns.getD k.toNat 0)) H
theorem cell_in {ns : List Int} {k : Int} (h0 : 0 ≤ k) (h : k < ((ns.map V.int).length : Nat)) : atI (ns.map V.int) k = some (.int (ns.getD k.toNat 0)) := by
  rw [List.length_map] at h
  have hk : k.toNat < ns.length := by omega
  have ek : k = ((k.toNat : Nat) : Int) := by omega
  have q : atI (ns.map V.int) ((k.toNat : Nat) : Int) = some (.int (ns.getD k.toNat 0)) := atI_nat (by
    rw [List.getElem?_map, List.getElem?_eq_getElem hk, List.getD_eq_getElem?_getD, List.getElem?_eq_getElem hk]
    rfl)
  rw [← ek] at q
  exact q
theorem cell_out {ns : List Int} {k : Int} (h : ¬ k < ((ns.map V.int).length : Nat)) (h0 : 0 ≤ k) : ns.getD k.toNat 0 = 0 := by
  rw [List.length_map] at h
  rw [List.getD_eq_getElem?_getD, List.getElem?_eq_none (by omega)]
  rfl
def spWhole : Sp := fun vs H Q _ => ∃ n, vs = [.int n] ∧ Q (.bl true) H
def spAlone (C : Addr) : Sp := fun vs H Q _ => ∃ e, vs = [.ref e] ∧ H e = some (.ext (ExcAt C e)) ∧ ∀ H', Same H H' → Q (.bl true) H'
theorem same_new {H : Hp} {p : Addr} (h : H p = none) (o : HO) : Same H (upd H p o) := fun b u q => by rw [upd_ne (ne_of_none q h)]; exact q
end L2
namespace L2
open PySem PySem.Spec PyProof.Rows
def Has (P : Program) (w : World) (K : PySem.W.Frag) (mg : Str → Option Value) (base : Heap) (CX : CXT) (k : Nat) (x : Str) (ps : List Str) (sp : Sp) : Prop :=
  ∃ (f : Addr) (fd : FuncData), FnOk P w K mg base CX k f fd ps sp ∧ Binds K fd ps [] ∧ PySem.W.keepIn K (.ref f) = true ∧ mg x = some (.ref f)
def HasQ (P : Program) (w : World) (K : PySem.W.Frag) (mg : Str → Option Value) (base : Heap) (k : Nat) (x : Str) (ps : List Str) (sp : Sp) : Prop :=
  ∃ (f : Addr) (fd : FuncData), FnOkQ P w K mg base k f fd ps sp ∧ Binds K fd ps [] ∧ PySem.W.keepIn K (.ref f) = true ∧ mg x = some (.ref f)
theorem decT {p : Prop} [Decidable p] (h : decide p = true) : p := of_decide_eq_true h
theorem decF {p : Prop} [Decidable p] (h : ¬ decide p = true) : ¬ p := of_decide_eq_false (Bool.eq_false_iff.mpr h)
end L2
namespace L2
open PySem PySem.Spec PyProof.Rows
inductive IntsE : List Expr → List Int → Prop where
  | nil : IntsE [] []
  | cons {i : Int} {j : Nat} {pos : Pos} {es : List Expr} {ns : List Int} (h : IntsE es ns) : IntsE (.Constant (.int i) j pos :: es) (i :: ns)
end L2
namespace L2
open PySem PySem.Spec PyProof.Rows
end L2

namespace Tx
open PySem PySem.Builtin PySem.Builtin.Str
abbrev L (x : Str) : List Nat := x.cps.toList
theorem ext {a b : Str} (h : L a = L b) : a = b := Str.ext' (Array.toList_inj.mp h)
theorem L_app (a b : Str) : L (a ++ b) = L a ++ L b := PySem.W.KAf.app_list a b
theorem len_L (a : Str) : (L a).length = a.length := Array.length_toList
theorem cut1 {c : Nat} : ∀ {a b r s : List Nat}, c ∉ a → c ∉ b → a ++ c :: r = b ++ c :: s → a = b ∧ r = s
  | [], [], r, s, _, _, h => ⟨rfl, by simpa using h⟩
  | [], b :: bs, r, s, _, hb, h => by
    have : c = b := by simpa using (List.cons.inj h).1
    exact absurd (by rw [this]; exact List.mem_cons_self ..) hb
  | a :: as, [], r, s, ha, _, h => by
    have : a = c := by simpa using (List.cons.inj h).1
    exact absurd (by rw [← this]; exact List.mem_cons_self ..) ha
  | a :: as, b :: bs, r, s, ha, hb, h => by
    obtain ⟨e1, e2⟩ := List.cons.inj h
    obtain ⟨e3, e4⟩ := cut1 (fun m => ha (List.mem_cons_of_mem _ m)) (fun m => hb (List.mem_cons_of_mem _ m)) e2
    exact ⟨by rw [e1, e3], e4⟩
theorem L_join1 (y x : Str) : L (Str.join y [x]) = L x := rfl
theorem L_join2 (c : Nat) (x z : Str) (r : List Str) : L (Str.join ⟨#[c]⟩ (x :: z :: r)) = L x ++ c :: L (Str.join ⟨#[c]⟩ (z :: r)) := by
  show L (x ++ ⟨#[c]⟩ ++ Str.join ⟨#[c]⟩ (z :: r)) = _
  rw [L_app, L_app]
  simp [L]
theorem join_inj {c : Nat} : ∀ {as bs : List Str}, as ≠ [] → bs ≠ [] → (∀ a ∈ as, c ∉ L a) → (∀ b ∈ bs, c ∉ L b) → L (Str.join ⟨#[c]⟩ as) = L (Str.join ⟨#[c]⟩ bs) → as = bs
  | [], _, h, _, _, _, _ => absurd rfl h
  | _, [], _, h, _, _, _ => absurd rfl h
  | [a], [b], _, _, _, _, h => by rw [ext (show L a = L b from h)]
  | [a], b :: b2 :: bs, _, _, ha, _, h => by
    rw [L_join2] at h
    exact absurd (by rw [show L a = _ from h]; simp) (ha a (List.mem_cons_self ..))
  | a :: a2 :: as, [b], _, _, _, hb, h => by
    rw [L_join2] at h
    exact absurd (by rw [show L b = _ from h.symm]; simp) (hb b (List.mem_cons_self ..))
  | a :: a2 :: as, b :: b2 :: bs, _, _, ha, hb, h => by
    rw [L_join2, L_join2] at h
    obtain ⟨e1, e2⟩ := cut1 (ha a (List.mem_cons_self ..)) (hb b (List.mem_cons_self ..)) h
    rw [ext e1, join_inj (as := a2 :: as) (bs := b2 :: bs) (by simp) (by simp) (fun x m => ha x (List.mem_cons_of_mem _ m)) (fun x m => hb x (List.mem_cons_of_mem _ m)) e2]
theorem split_words {c : Nat} {ws : List Str} (h0 : ws ≠ []) (h : ∀ w ∈ ws, c ∉ L w) : Txt.split (Str.join ⟨#[c]⟩ ws) ⟨#[c]⟩ = ws := by
  refine join_inj (c := c) ?_ h0 (StrLaws.split_free _ c) h ?_
  · intro e
    have := PyProof.Rows.split_pos (Str.join ⟨#[c]⟩ ws) ⟨#[c]⟩
    rw [e] at this
    cases this
  · rw [StrLaws.join_split]

theorem slice_from {x : Str} {i : Nat} (h : i ≤ x.length) : L (Txt.slice x (some (i : Int)) none) = (L x).drop i := by
  rw [PyProof.Rows.slice_from_eq (b := x.length) (by omega) (by omega) rfl]
  show ((L x).drop (i : Int).toNat).take ((x.length : Int) - i).toNat = _
  rw [Int.toNat_natCast, List.take_of_length_le (by rw [List.length_drop, len_L]; omega)]
theorem slice_neg {x : Str} {k : Nat} (k0 : 0 < k) (h : k ≤ x.length) : Txt.slice x none (some (-(k : Int))) = Txt.slice x none (some ((x.length : Int) - k)) := by
  have e : strSliceIndices none (some (-(k : Int))) 1 x.length = strSliceIndices none (some ((x.length : Int) - k)) 1 x.length := by
    unfold strSliceIndices
    simp only [show (1 : Int) > 0 by decide, if_true]
    rw [if_pos (show -(k : Int) < 0 by omega), if_neg (show ¬ ((x.length : Int) - k < 0) by omega), show -(k : Int) + (x.length : Int) = (x.length : Int) - k by omega]
  unfold Txt.slice
  rw [e]
theorem slice_off {x : Str} {k : Nat} (k0 : 0 < k) (h : k ≤ x.length) : L (Txt.slice x none (some (-(k : Int)))) = (L x).take (x.length - k) := by
  rw [slice_neg k0 h]
  have := PyProof.Rows.slice_closes_toL (x := x) (j := (x.length : Int) - k) (by omega) (by omega)
  rw [eq_of_beq this]
  show ((L x).drop (0 : Int).toNat).take (((x.length : Int) - k) - 0).toNat = _
  rw [show (0 : Int).toNat = 0 from rfl, List.drop_zero]
  congr 1
  omega
def nu (n : Int) : Str := Str.ofString (toString n)
theorem nu_digits {n : Int} (h0 : 0 ≤ n) : ∀ c ∈ L (nu n), 48 ≤ c ∧ c ≤ 57 := by
  obtain ⟨m, rfl⟩ := Int.eq_ofNat_of_zero_le h0
  intro c hc
  unfold nu L at hc
  rw [PySem.W.KIN.signs_num] at hc
  obtain ⟨ch, hch, e⟩ := List.mem_map.mp hc
  have r := PyProof.Rows.digit_range (Nat.isDigit_of_mem_toDigits (by decide) (by decide) hch)
  rw [← e]
  exact r
theorem nu_ne {n : Int} (h0 : 0 ≤ n) : L (nu n) ≠ [] := by
  obtain ⟨m, rfl⟩ := Int.eq_ofNat_of_zero_le h0
  unfold nu L
  rw [PySem.W.KIN.signs_num]
  intro e
  have h := PySem.toDigits_len_ge 10 m
  rw [List.map_eq_nil_iff.mp e] at h
  exact absurd h (by decide)
def av (n : Int) : Int := if n < 0 then -n else n
theorem av_nn (n : Int) : 0 ≤ av n := by unfold av; split <;> omega
def bl : Str := ⟨#[32]⟩
def tmS (n : Int) (l : Str) : Str := if av n = 1 then l else nu (av n) ++ bl ++ l
def sgB (n : Int) : Str := if n < 0 then ⟨#[32, 45, 32]⟩ else ⟨#[32, 43, 32]⟩
def sg (n : Int) : Str := if n < 0 then ⟨#[45]⟩ else ⟨#[43]⟩
def hd (n : Int) : Str := if n < 0 then ⟨#[45]⟩ else ⟨#[]⟩
abbrev Ts := List (Int × Str)
def rs : Ts → Str
  | [] => ⟨#[]⟩
  | (n, l) :: r => sgB n ++ tmS n l ++ rs r
def tx : Ts → Str
  | [] => ⟨#[]⟩
  | (n, l) :: r => hd n ++ tmS n l ++ rs r
def wd (p : Int × Str) : List Str := if av p.1 = 1 then [p.2] else [nu (av p.1), p.2]
def ww : Ts → List Str
  | [] => []
  | p :: r => sg p.1 :: (wd p ++ ww r)
theorem app_as (a b c : Str) : a ++ b ++ c = a ++ (b ++ c) := PySem.Str.append_assoc a b c
theorem app_e (a : Str) : a ++ ⟨#[]⟩ = a := ext (by rw [L_app]; simp [L])
theorem e_app (a : Str) : (⟨#[]⟩ : Str) ++ a = a := ext (by rw [L_app]; simp [L])
theorem rs_snoc (ts : Ts) (n : Int) (l : Str) : rs (ts ++ [(n, l)]) = rs ts ++ (sgB n ++ tmS n l) := by
  induction ts with
  | nil => show sgB n ++ tmS n l ++ ⟨#[]⟩ = ⟨#[]⟩ ++ (sgB n ++ tmS n l); rw [app_e, e_app]
  | cons p ts ih =>
    show sgB p.1 ++ tmS p.1 p.2 ++ rs (ts ++ [(n, l)]) = sgB p.1 ++ tmS p.1 p.2 ++ rs ts ++ (sgB n ++ tmS n l)
    rw [ih, ← app_as]
theorem tx_snoc {ts : Ts} (h : ts ≠ []) (n : Int) (l : Str) : tx (ts ++ [(n, l)]) = tx ts ++ sgB n ++ tmS n l := by
  match ts, h with
  | p :: ts, _ =>
    show hd p.1 ++ tmS p.1 p.2 ++ rs (ts ++ [(n, l)]) = hd p.1 ++ tmS p.1 p.2 ++ rs ts ++ sgB n ++ tmS n l
    rw [rs_snoc, ← app_as, app_as (hd p.1 ++ tmS p.1 p.2 ++ rs ts)]
theorem tx_one (n : Int) (l : Str) : tx [(n, l)] = hd n ++ tmS n l := by
  show hd n ++ tmS n l ++ ⟨#[]⟩ = _
  rw [app_e]
theorem wd_ne (p : Int × Str) : wd p ≠ [] := by unfold wd; split <;> simp
theorem join_app : ∀ (as bs : List Str), as ≠ [] → bs ≠ [] → L (Str.join bl (as ++ bs)) = L (Str.join bl as) ++ 32 :: L (Str.join bl bs)
  | [], _, h, _ => absurd rfl h
  | [a], b :: bs, _, _ => L_join2 32 a b bs
  | [a], [], _, h => absurd rfl h
  | a :: a2 :: as, bs, _, h => by
    have ih := join_app (a2 :: as) bs (by simp) h
    show L (Str.join bl (a :: a2 :: (as ++ bs))) = _
    rw [show Str.join bl (a :: a2 :: (as ++ bs)) = Str.join ⟨#[32]⟩ (a :: a2 :: (as ++ bs)) from rfl, L_join2]
    rw [show (a2 :: (as ++ bs)) = a2 :: as ++ bs from rfl, show (Str.join ⟨#[32]⟩ (a2 :: as ++ bs)) = Str.join bl (a2 :: as ++ bs) from rfl, ih]
    rw [show Str.join bl (a :: a2 :: as) = Str.join ⟨#[32]⟩ (a :: a2 :: as) from rfl, L_join2, List.append_assoc]
    rfl
theorem join_wd (p : Int × Str) : L (Str.join bl (wd p)) = L (tmS p.1 p.2) := by
  unfold wd tmS
  split
  · rfl
  · rw [show Str.join bl [nu (av p.1), p.2] = Str.join ⟨#[32]⟩ [nu (av p.1), p.2] from rfl, L_join2, L_app, L_app]
    simp [L, bl, Str.join]
theorem rs_join : ∀ {r : Ts}, r ≠ [] → L (rs r) = 32 :: L (Str.join bl (ww r))
  | [], h => absurd rfl h
  | p :: r, _ => by
    have e : L (rs (p :: r)) = L (sgB p.1) ++ L (tmS p.1 p.2) ++ L (rs r) := by
      show L (sgB p.1 ++ tmS p.1 p.2 ++ rs r) = _
      rw [L_app, L_app]
    have s1 : L (sgB p.1) = 32 :: (L (sg p.1) ++ [32]) := by unfold sgB sg; split <;> rfl
    have w1 : L (Str.join bl (sg p.1 :: wd p)) = L (sg p.1) ++ 32 :: L (tmS p.1 p.2) := by
      have := join_app [sg p.1] (wd p) (by simp) (wd_ne p)
      rw [join_wd] at this
      exact this
    rw [e, s1]
    by_cases h : r = []
    · subst h
      have : ww [p] = sg p.1 :: wd p := by show sg p.1 :: (wd p ++ []) = _; rw [List.append_nil]
      rw [this, w1]
      simp [rs, L]
    · have hw : ww r ≠ [] := by
        match r, h with
        | q :: r, _ => simp [ww]
      have := join_app (sg p.1 :: wd p) (ww r) (by simp) hw
      rw [show ww (p :: r) = sg p.1 :: wd p ++ ww r from rfl, this, w1, rs_join h]
      simp
theorem tx_join (p : Int × Str) (r : Ts) : L (tx (p :: r)) = L (hd p.1) ++ L (Str.join bl (wd p ++ ww r)) := by
  have e : L (tx (p :: r)) = L (hd p.1) ++ (L (tmS p.1 p.2) ++ L (rs r)) := by
    show L (hd p.1 ++ tmS p.1 p.2 ++ rs r) = _
    rw [L_app, L_app, List.append_assoc]
  rw [e]
  congr 1
  by_cases h : r = []
  · subst h
    rw [show wd p ++ ww [] = wd p from List.append_nil _, join_wd]
    simp [rs, L]
  · have hw : ww r ≠ [] := by
      match r, h with
      | q :: r, _ => simp [ww]
    rw [join_app _ _ (wd_ne p) hw, join_wd, rs_join h]
def Let (l : Str) : Prop := (∀ c ∈ L l, 120 ≤ c ∧ c ≤ 122) ∧ (L l).length = 2
theorem wd_free {p : Int × Str} (h : Let p.2) : ∀ w ∈ wd p, 32 ∉ L w := by
  intro w hw m
  unfold wd at hw
  split at hw
  · rw [List.mem_singleton.mp hw] at m
    have := h.1 _ m
    omega
  · rcases List.mem_cons.mp hw with e | hw
    · rw [e] at m
      have := nu_digits (av_nn p.1) _ m
      omega
    · rw [List.mem_singleton.mp hw] at m
      have := h.1 _ m
      omega
theorem ww_free : ∀ {ts : Ts}, (∀ p ∈ ts, Let p.2) → ∀ w ∈ ww ts, 32 ∉ L w
  | [], _, w, hw => by cases hw
  | p :: r, h, w, hw => by
    rcases List.mem_cons.mp hw with e | hw
    · rw [e]
      unfold sg
      split <;> simp [L]
    · rcases List.mem_append.mp hw with hw | hw
      · exact wd_free (h p (List.mem_cons_self ..)) w hw
      · exact ww_free (fun q m => h q (List.mem_cons_of_mem _ m)) w hw
theorem split_tx {p : Int × Str} {r : Ts} (h : ∀ q ∈ p :: r, Let q.2) {x : Str} (e : L x = L (Str.join bl (wd p ++ ww r))) : Txt.split x bl = wd p ++ ww r := by
  have ex : x = Str.join ⟨#[32]⟩ (wd p ++ ww r) := ext e
  rw [ex]
  refine split_words (by have := wd_ne p; simp [this]) fun w hw => ?_
  rcases List.mem_append.mp hw with hw | hw
  · exact wd_free (h p (List.mem_cons_self ..)) w hw
  · exact ww_free (fun q m => h q (List.mem_cons_of_mem _ m)) w hw
end Tx

namespace Tx
open PySem PySem.Builtin PySem.Builtin.Str
theorem len_app (a b : Str) : (a ++ b).length = a.length + b.length := PySem.Str.length_append ..
theorem nu_len {n : Int} (h0 : 0 ≤ n) {k : Nat} (hk : 0 < k) (h : n < 10 ^ k) : (nu n).length ≤ k := PyProof.Rows.toString_length_le h0 hk h
theorem first_digit : ∀ (k m : Nat), m < 10 ^ k → 0 < m → (Nat.toDigits 10 m).head? ≠ some '0'
  | 0, m, h, h0 => by simp at h; omega
  | k + 1, m, h, h0 => by
    by_cases c : m < 10
    · rw [Nat.toDigits_of_lt_base c]
      have : ∀ d : Nat, d < 10 → 0 < d → [Nat.digitChar d].head? ≠ some '0' := by decide
      exact this m c h0
    · rw [Nat.toDigits_of_base_le (by decide) (by omega)]
      have ih := first_digit k (m / 10) (by rw [Nat.pow_succ] at h; omega) (by omega)
      have ne : Nat.toDigits 10 (m / 10) ≠ [] := Nat.toDigits_ne_nil
      cases e : Nat.toDigits 10 (m / 10) with
      | nil => exact absurd e ne
      | cons a r => rw [e] at ih; exact ih
theorem nu_first {n : Int} (h0 : 0 < n) {c : Nat} (h : (L (nu n))[0]? = some c) : c ≠ 48 := by
  obtain ⟨m, rfl⟩ := Int.eq_ofNat_of_zero_le (show (0 : Int) ≤ n by omega)
  unfold nu L at h
  rw [PySem.W.KIN.signs_num, List.getElem?_map] at h
  have f := first_digit m m (Nat.lt_pow_self (by decide)) (by omega)
  cases e : (Nat.toDigits 10 m) with
  | nil => rw [e] at h; cases h
  | cons d r =>
    rw [e] at h f
    have hd : d.toNat = c := by simpa using h
    intro z
    rw [z] at hd
    apply f
    have : d = '0' := Char.ext (by apply UInt32.toNat_inj.mp; exact hd)
    rw [this]
    rfl
theorem digit_in {c : Nat} (h1 : 48 ≤ c) (h2 : c ≤ 57) : (!(occurrences (⟨#[48, 49, 50, 51, 52, 53, 54, 55, 56, 57]⟩ : Str) ⟨#[c]⟩ 0 10 1).isEmpty) = true := by
  have : c = 48 ∨ c = 49 ∨ c = 50 ∨ c = 51 ∨ c = 52 ∨ c = 53 ∨ c = 54 ∨ c = 55 ∨ c = 56 ∨ c = 57 := by omega
  rcases this with rfl | rfl | rfl | rfl | rfl | rfl | rfl | rfl | rfl | rfl <;> decide +kernel
def LS : List Str := [⟨#[120, 120]⟩, ⟨#[121, 121]⟩, ⟨#[122, 122]⟩, ⟨#[121, 122]⟩, ⟨#[120, 122]⟩, ⟨#[120, 121]⟩]
theorem LS_let : ∀ l ∈ LS, Let l := by
  intro l hl
  unfold LS at hl
  simp only [List.mem_cons, List.not_mem_nil, or_false] at hl
  unfold Let L
  rcases hl with rfl | rfl | rfl | rfl | rfl | rfl <;> refine ⟨fun c hc => ?_, rfl⟩ <;> simp at hc <;> omega
theorem LS_len : LS.length = 6 := rfl
def Sm (ts : Ts) : Prop := ∀ p ∈ ts, (L p.2).length = 2 ∧ p.1.natAbs < 10 ^ 60
theorem av_lt {n : Int} {B : Nat} (h : n.natAbs < B) : av n < B := by unfold av; split <;> omega
theorem tmS_len {n : Int} {l : Str} (h : (L l).length = 2) (hn : n.natAbs < 10 ^ 60) : (tmS n l).length ≤ 63 := by
  unfold tmS
  rw [len_L] at h
  split
  · omega
  · rw [len_app, len_app, h]
    have : (nu (av n)).length ≤ 60 := nu_len (av_nn n) (by decide) (by
      have := av_lt hn
      exact_mod_cast this)
    have : bl.length = 1 := rfl
    omega
theorem sgB_len (n : Int) : (sgB n).length = 3 := by unfold sgB; split <;> rfl
theorem hd_len (n : Int) : (hd n).length ≤ 1 := by unfold hd; split <;> decide
theorem rs_len : ∀ {ts : Ts}, Sm ts → (rs ts).length ≤ 66 * ts.length
  | [], _ => by decide
  | (n, l) :: r, h => by
    have h1 := h _ (List.mem_cons_self ..)
    have h2 := rs_len (fun p m => h p (List.mem_cons_of_mem _ m))
    show (sgB n ++ tmS n l ++ rs r).length ≤ _
    have := tmS_len (n := n) (l := l) h1.1 h1.2
    rw [len_app, len_app, sgB_len, List.length_cons]
    omega
theorem tx_len {ts : Ts} (h : Sm ts) : (tx ts).length ≤ 66 * ts.length := by
  match ts, h with
  | [], _ => decide
  | (n, l) :: r, h =>
    have h1 := h _ (List.mem_cons_self ..)
    have h2 := rs_len (ts := r) (fun p m => h p (List.mem_cons_of_mem _ m))
    show (hd n ++ tmS n l ++ rs r).length ≤ _
    have := tmS_len (n := n) (l := l) h1.1 h1.2
    have := hd_len n
    rw [len_app, len_app, List.length_cons]
    omega
def pt (p : Int × Str) : Str := sgB p.1 ++ tmS p.1 p.2
theorem join_rs (ts : Ts) : Txt.join ⟨#[]⟩ (ts.map pt) = rs ts := by
  show glued ⟨#[]⟩ (ts.map pt) = rs ts
  rw [StrLaws.glued_eq_join]
  match ts with
  | [] => rfl
  | [p] =>
    show pt p = pt p ++ ⟨#[]⟩
    rw [app_e]
  | p :: q :: r =>
    have ih := join_rs (q :: r)
    have ih' : Str.join ⟨#[]⟩ ((q :: r).map pt) = rs (q :: r) := by
      rw [← ih]
      show _ = glued ⟨#[]⟩ ((q :: r).map pt)
      rw [StrLaws.glued_eq_join]
    show pt p ++ ⟨#[]⟩ ++ Str.join ⟨#[]⟩ ((q :: r).map pt) = pt p ++ rs (q :: r)
    rw [ih', app_e]
theorem join_ok {ts : Ts} (h : Sm ts) (hn : ts.length ≤ 6) : JoinOk ⟨#[]⟩ (ts.map pt) = true := by
  refine PyProof.Rows.joinOk_of_weight ?_ (by decide)
  have : ((ts.map pt).map (·.length)).sum ≤ 66 * ts.length := by
    clear hn
    induction ts with
    | nil => decide
    | cons p ts ih =>
      have h1 := h _ (List.mem_cons_self ..)
      have h2 := ih (fun q m => h q (List.mem_cons_of_mem _ m))
      have := tmS_len h1.1 h1.2
      rw [List.map_cons, List.map_cons, List.sum_cons, List.length_cons]
      show (sgB p.1 ++ tmS p.1 p.2).length + _ ≤ _
      rw [len_app, sgB_len]
      omega
  rw [List.length_map]
  omega
def eo : Str := ⟨#[32, 61, 32, 48]⟩
def fu (ts : Ts) : Str := (if ts = [] then ⟨#[48]⟩ else tx ts) ++ eo
theorem rs_ne {p : Int × Str} {r : Ts} : rs (p :: r) ≠ ⟨#[]⟩ := by
  intro e
  have := congrArg Str.length e
  rw [show rs (p :: r) = sgB p.1 ++ tmS p.1 p.2 ++ rs r from rfl, len_app, len_app, sgB_len] at this
  have z : (⟨#[]⟩ : Str).length = 0 := rfl
  omega
theorem starts_rs {n : Int} {l : Str} {r : Ts} : Txt.startswith (rs ((n, l) :: r)) ⟨#[32, 45, 32]⟩ = decide (n < 0) := by
  show Txt.startswith (sgB n ++ tmS n l ++ rs r) _ = _
  rw [app_as, PySem.W.KAf.starts_left (by rw [sgB_len]; decide)]
  unfold sgB
  by_cases h : n < 0
  · rw [if_pos h, decide_eq_true h]; decide +kernel
  · rw [if_neg h, decide_eq_false h]; decide +kernel
theorem drop_rs {n : Int} {l : Str} {r : Ts} : Txt.slice (rs ((n, l) :: r)) (some 3) none = tmS n l ++ rs r := by
  refine ext ?_
  have e : rs ((n, l) :: r) = sgB n ++ (tmS n l ++ rs r) := by rw [← app_as]; rfl
  have h3 : (L (sgB n)).length = 3 := by rw [len_L, sgB_len]
  have := slice_from (x := rs ((n, l) :: r)) (i := 3) (by rw [e, len_app, sgB_len]; omega)
  rw [show ((3 : Nat) : Int) = 3 from rfl] at this
  rw [this, e, L_app, ← h3, List.drop_left]
theorem tx_ne {p : Int × Str} {r : Ts} (h : Let p.2) : tx (p :: r) ≠ ⟨#[]⟩ ∧ tx (p :: r) ≠ ⟨#[48]⟩ := by
  have key : ∃ c ∈ L (tx (p :: r)), 120 ≤ c := by
    obtain ⟨h1, h2⟩ := h
    match e : L p.2, h2 with
    | [a, b], _ =>
      refine ⟨a, ?_, (h1 a (by rw [e]; simp)).1⟩
      show a ∈ L (hd p.1 ++ tmS p.1 p.2 ++ rs r)
      rw [L_app, L_app]
      refine List.mem_append_left _ (List.mem_append_right _ ?_)
      unfold tmS
      split
      · rw [e]; simp
      · rw [L_app, e]; simp
  obtain ⟨c, hc, h0⟩ := key
  constructor
  · intro z; rw [z] at hc; cases hc
  · intro z
    rw [z] at hc
    have : c = 48 := by simpa [L] using hc
    omega
theorem app_inj {a b c : Str} (h : a ++ c = b ++ c) : a = b := by
  refine ext ?_
  have := congrArg L h
  rw [L_app, L_app] at this
  exact List.append_cancel_right this
theorem fu_ne {p : Int × Str} {r : Ts} (h : Let p.2) : fu (p :: r) ≠ ⟨#[48, 32, 61, 32, 48]⟩ := by
  intro e
  unfold fu at e
  rw [if_neg (by simp)] at e
  exact (tx_ne h).2 (app_inj (c := eo) (e.trans rfl))
theorem fu_off {ts : Ts} (h : ts ≠ []) : Txt.slice (fu ts) none (some (-4)) = tx ts := by
  have e : fu ts = tx ts ++ eo := by unfold fu; rw [if_neg h]
  have le : eo.length = 4 := rfl
  refine ext ?_
  have := slice_off (x := fu ts) (k := 4) (by decide) (by rw [e, len_app, le]; omega)
  rw [show (-((4 : Nat) : Int)) = -4 from rfl] at this
  rw [this, e, len_app, le, L_app, Nat.add_sub_cancel, ← len_L, List.take_left]
theorem fu_ends (ts : Ts) : Txt.endswith (fu ts) eo = true := PySem.W.KT.ends_app _ _
theorem starts_tx {n : Int} {l : Str} {r : Ts} (h : Let l) : Txt.startswith (tx ((n, l) :: r)) ⟨#[45]⟩ = decide (n < 0) := by
  show Txt.startswith (hd n ++ tmS n l ++ rs r) _ = _
  unfold hd
  by_cases c : n < 0
  · rw [if_pos c, decide_eq_true c, app_as, PySem.W.KAf.starts_left (by decide)]
    decide +kernel
  · rw [if_neg c, decide_eq_false c, e_app]
    unfold Txt.startswith
    rw [StrLaws.subAt_eq, List.drop_zero]
    have : ((L (tmS n l ++ rs r)).take 1 == L (⟨#[45]⟩ : Str)) = false := by
      rw [beq_eq_false_iff_ne]
      intro e
      have hm : (45 : Nat) ∈ (L (tmS n l ++ rs r)).take 1 := by rw [e]; simp [L]
      have h2 : 0 < (L (tmS n l)).length := by
        unfold tmS
        split
        · rw [h.2]; decide
        · rw [L_app, List.length_append, h.2]; omega
      rw [L_app, List.take_append_of_le_length (by omega)] at hm
      have hx := List.mem_of_mem_take hm
      unfold tmS at hx
      split at hx
      · have := h.1 _ hx; omega
      · have ne := nu_ne (av_nn n)
        have : (45 : Nat) ∈ L (nu (av n)) := by
          have : ((L (tmS n l)).take 1) = (L (nu (av n))).take 1 := by
            unfold tmS
            rw [if_neg (by assumption), L_app, L_app, List.append_assoc, List.take_append_of_le_length (by
              have := List.length_pos_iff.mpr ne
              omega)]
          rw [this] at hm
          exact List.mem_of_mem_take hm
        have := nu_digits (av_nn n) _ this
        omega
    rw [show (⟨#[45]⟩ : Str).length = 1 from rfl] at *
    rw [this, Bool.and_false]
theorem words_tx {n : Int} {l : Str} {r : Ts} (h : ∀ q ∈ (n, l) :: r, Let q.2) :
    (n < 0 → Txt.split (Txt.slice (tx ((n, l) :: r)) (some 1) none) bl = wd (n, l) ++ ww r) ∧ (¬ n < 0 → Txt.split (tx ((n, l) :: r)) bl = wd (n, l) ++ ww r) := by
  have tj := tx_join (n, l) r
  constructor
  · intro c
    refine split_tx h ?_
    have hh : L (hd n) = [45] := by unfold hd; rw [if_pos c]
    have := slice_from (x := tx ((n, l) :: r)) (i := 1) (by rw [← len_L, tj, List.length_append]; show 1 ≤ (L (hd n)).length + _; rw [hh]; simp)
    rw [show ((1 : Nat) : Int) = 1 from rfl] at this
    rw [this, tj]
    show (L (hd n) ++ _).drop 1 = _
    rw [hh]
    rfl
  · intro c
    refine split_tx h ?_
    rw [tj]
    show L (hd n) ++ _ = _
    have hh : L (hd n) = [] := by unfold hd; rw [if_neg c]
    rw [hh]
    rfl
def isS (w : Str) : Bool := decide (w = ⟨#[43]⟩) || decide (w = ⟨#[45]⟩)
def addL : List (List Str) → Str → List (List Str)
  | [], _ => []
  | [g], w => [g ++ [w]]
  | g :: h :: r, w => g :: addL (h :: r) w
def stp (gs : List (List Str)) (w : Str) : List (List Str) := addL (if isS w then gs ++ [[]] else gs) w
theorem addL_snoc : ∀ (gs : List (List Str)) (g : List Str) (w : Str), addL (gs ++ [g]) w = gs ++ [g ++ [w]]
  | [], _, _ => rfl
  | [a], g, w => rfl
  | a :: b :: r, g, w => by
    show a :: addL (b :: r ++ [g]) w = _
    rw [addL_snoc (b :: r) g w]
    rfl
theorem stp_sign {gs : List (List Str)} {w : Str} (h : isS w = true) : stp gs w = gs ++ [[w]] := by
  unfold stp; rw [if_pos h, addL_snoc]; rfl
theorem stp_word {gs : List (List Str)} {g : List Str} {w : Str} (h : isS w = false) : stp (gs ++ [g]) w = gs ++ [g ++ [w]] := by
  unfold stp; rw [h, if_neg (by decide), addL_snoc]
def grp (p : Int × Str) : List Str := sg p.1 :: wd p
theorem isS_sg (n : Int) : isS (sg n) = true := by
  unfold sg; split <;> decide +kernel
theorem isS_no {w : Str} (h : ∀ c ∈ L w, 48 ≤ c) : isS w = false := by
  unfold isS
  rw [Bool.or_eq_false_iff]
  constructor <;> refine decide_eq_false fun e => ?_ <;> subst e
  · have := h 43 (by simp [L]); omega
  · have := h 45 (by simp [L]); omega
theorem wd_word {p : Int × Str} (h : Let p.2) : ∀ w ∈ wd p, isS w = false := by
  intro w hw
  refine isS_no fun c hc => ?_
  unfold wd at hw
  split at hw
  · rw [List.mem_singleton.mp hw] at hc
    have := h.1 _ hc
    omega
  · rcases List.mem_cons.mp hw with e | hw
    · rw [e] at hc
      exact (nu_digits (av_nn p.1) _ hc).1
    · rw [List.mem_singleton.mp hw] at hc
      have := h.1 _ hc
      omega
theorem fold_words : ∀ (ws : List Str) (gs : List (List Str)) (g : List Str), (∀ w ∈ ws, isS w = false) → ws.foldl stp (gs ++ [g]) = gs ++ [g ++ ws]
  | [], gs, g, _ => by simp
  | w :: ws, gs, g, h => by
    rw [List.foldl_cons, stp_word (h w (List.mem_cons_self ..)), fold_words ws gs _ (fun x m => h x (List.mem_cons_of_mem _ m)), List.append_assoc]
    rfl
theorem fold_ww : ∀ (ts : Ts) (gs : List (List Str)), (∀ p ∈ ts, Let p.2) → (ww ts).foldl stp gs = gs ++ ts.map grp
  | [], gs, _ => by simp [ww]
  | p :: r, gs, h => by
    show (sg p.1 :: (wd p ++ ww r)).foldl stp gs = _
    rw [List.foldl_cons, stp_sign (isS_sg _), List.foldl_append, fold_words _ _ _ (wd_word (h p (List.mem_cons_self ..))), fold_ww r _ (fun q m => h q (List.mem_cons_of_mem _ m)), List.append_assoc]
    rfl
theorem stp_ne {gs : List (List Str)} {w : Str} (h : isS w = true ∨ gs ≠ []) : stp gs w ≠ [] := by
  cases e : isS w with
  | true => rw [stp_sign e]; simp
  | false =>
    rcases h with h | h
    · rw [e] at h; cases h
    · rw [show gs = gs.dropLast ++ [gs.getLast h] from (List.dropLast_concat_getLast h).symm, stp_word e]; simp
theorem fold_ne : ∀ (ws : List Str) (gs : List (List Str)), gs ≠ [] → ws.foldl stp gs ≠ []
  | [], _, h => h
  | w :: ws, gs, h => fold_ne ws _ (stp_ne (.inr h))
end Tx

namespace L2
open PySem PySem.Spec PyProof.Rows

def cxC (X : Cx) (N : List Str) (scope : Scope) (cl : List (Str × Addr)) (C : Addr) (s0 : Shared) (H0 : Hp) (fp : List Addr) (pins : List (Addr × Obj)) : Cx :=
  { X with N := N, s₀ := s0, H₀ := H0, env := compEnvC scope cl C X.env, outer := X.stack, ex := fp, fn := fun _ => false, pn := X.pn ++ pins, xe := fun _ _ => False }
structure CompScope (X : Cx) (N : List Str) (fr : List Nat) (x : Str) (scope : Scope) (cl : List (Str × Addr)) : Prop where
  kind : scope.kind = .function
  nocell : ∀ y ∈ scope.names, y.2 ≠ .cell
  loc : ∀ y ∈ scope.names, y.2 = .local → scope.names.lookup y.1 = some .local
  own : scope.names.lookup x = some .local
  clos : closureFor scope X.env = pure cl
  sub : ∀ y c, cl.lookup y = some c → X.env.cells.lookup y = some c
  has : ∀ y, ((relabel scope X.env).names.lookup y = some .cell ∨ (relabel scope X.env).names.lookup y = some .free) → ∃ c, cl.lookup y = some c
  nd : N.Nodup
  hN : N[0]? = some x
  len : N.length = fr.length + 1
  ownOnly : ∀ (j : Nat) (y : Str), N[j + 1]? = some y → (relabel scope X.env).names.lookup y ≠ some .local
  out : ∀ (j k : Nat), fr[j]? = some k → ∃ y, N[j + 1]? = some y ∧ X.N[k]? = some y ∧ X.env.kindOf y = some .cell
def compSt (σ : St) (fr : List Nat) (v : Option V) : St := v :: fr.map fun k => (σ[k]?).join
def tComp (wi : TI) (fr : List Nat) (te : TE) : TE := fun σ H Q => wi σ H fun J H1 => ∀ acc, H1 acc = none → ∃ W : Nat → Nat → Hp → List V → Prop, (∃ m, W 0 m (upd H1 acc (.lst [])) []) ∧
  ∀ i m H' vs, W i m H' vs → H' acc = some (.lst vs) ∧ ((J.stop i H' ∧ Q (.ref acc) H') ∨ (J.go i H' ∧ vs.length < sizeLine ∧ ∀ x H2, J.yld i H' x H2 → te (compSt σ fr (some x)) H2 fun y H3 => H3 acc = some (.lst vs) ∧ ∃ m', m' < m ∧ W (i + 1) m' (upd H3 acc (.lst (vs ++ [y]))) (vs ++ [y])))
def tCompIf (wi : TI) (fr : List Nat) (tc : TT) (te : TE) : TE := fun σ H Q => wi σ H fun J H1 => ∀ acc, H1 acc = none → ∃ W : Nat → Nat → Hp → List V → Prop, (∃ m, W 0 m (upd H1 acc (.lst [])) []) ∧
  ∀ i m H' vs, W i m H' vs → H' acc = some (.lst vs) ∧ ((J.stop i H' ∧ Q (.ref acc) H') ∨ (J.go i H' ∧ vs.length < sizeLine ∧ ∀ x H2, J.yld i H' x H2 → tc (compSt σ fr (some x)) H2 fun b H3 =>
    if b = true then te (compSt σ fr (some x)) H3 fun y H4 => H4 acc = some (.lst vs) ∧ ∃ m', m' < m ∧ W (i + 1) m' (upd H4 acc (.lst (vs ++ [y]))) (vs ++ [y]) else ∃ m', m' < m ∧ W (i + 1) m' H3 vs))
section
variable {X : Cx} {N : List Str} {fr : List Nat} {x : Str} {scope : Scope} {cl : List (Str × Addr)} {elt iter : Expr} {px pos : Pos} {wi : TI} {te : TE}
theorem cxC_ok {pins : List (Addr × Obj)} {σ : St} {H : Hp} {s : Shared} {fp : List Addr} {C : Addr} (S : CompScope X N fr x scope cl) (I : Inv X pins σ H s) (hf : ∀ b ∈ fp, FpOk X pins H b) (hC : s.heap.objs.size ≤ C) (hfl : ∀ b ∈ fp, b < s.heap.objs.size) : (cxC X N scope cl C s H fp pins).Ok where
  mod := I.ok.mod
  kind := S.kind
  glob := I.ok.glob
  blt := I.ok.blt
  above := hC
  inj := fun y z c h1 h2 => I.ok.inj y z c (S.sub _ _ h1) (S.sub _ _ h2)
  has := fun y h => S.has y h
  cab := fun y c h => by cases h
  hd := I.ok.hd
  hs := I.ok.hs
  frames := I.ok.frames
  stk := .inl rfl
  exf := fun b hb => ⟨Nat.ne_of_lt (Nat.lt_of_lt_of_le (hfl b hb) hC), fun y c h => (hf b hb).2.2.2.2.1 y c (S.sub _ _ h)⟩
  bs := fun b o e => I.bs b o e
  bsz := Nat.le_trans I.ok.bsz I.sz
  noex := fun b o e hb => by
    rcases (hf b hb).2.2.2.1 with z | z
    · exact I.ok.noex b o e z
    · exact absurd (Nat.lt_of_lt_of_le (Heap.lt_size e) (Nat.le_trans I.ok.bsz z)) (Nat.lt_irrefl _)
  exfs := fun b hb z => by
    rcases List.mem_cons.mp (I.stkSub b z) with e | e
    · exact (hf b hb).2.1 e
    · exact (hf b hb).2.2.1 e
  funs := I.stack
  frf := I.stkFree
theorem cxC_start {pins : List (Addr × Obj)} {σ : St} {H : Hp} {s s4 : Shared} {fp : List Addr} {C : Addr} {m : Str → Option Value} (S : CompScope X N fr x scope cl) (I : Inv X pins σ H s) (hf : ∀ b ∈ fp, FpOk X pins H b) (hC : s.heap.objs.size ≤ C) (hfl : ∀ b ∈ fp, b < s.heap.objs.size)
    (hn : s4.heap.Ns C m) (hk : ∀ b o, s.heap.get? b = some o → s4.heap.get? b = some o) (ho : s4.os = s.os) (hg : s4.gens = s.gens) : Inv (cxC X N scope cl C s H fp pins) [] (compSt σ fr none) H s4 := by
  obtain ⟨m0, hn0, hl⟩ := id I.loc
  refine ⟨cxC_ok S I hf hC hfl, I.fzs, ho, by rw [hg]; exact I.bare, Un.kept hk, ⟨m, hn, fun i y v e1 e2 e3 => ?_⟩, fun y c h => ?_, I.hok.fresh hC, fun y c h => I.freeC y c (S.sub _ _ h), fun p hp => ?_, I.hok.kept hk, ?_⟩
  · cases i with
    | zero => cases e2
    | succ j =>
      have e2' : (fr.map fun k => (σ[k]?).join)[j]? = some (some v) := e2
      rw [List.getElem?_map] at e2'
      cases ek : fr[j]? with
      | none => rw [ek] at e2'; cases e2'
      | some k =>
        rw [ek] at e2'
        have e4 : (σ[k]?).join = some v := Option.some.inj e2'
        obtain ⟨y', h1, h2, h3⟩ := S.out j k ek
        have e1' : N[j + 1]? = some y := e1
        obtain rfl : y' = y := Option.some.inj (h1.symm.trans e1')
        have e5 : σ[k]? = some (some v) := by
          cases q : σ[k]? with
          | none => rw [q] at e4; cases e4
          | some w => rw [q] at e4; exact congrArg some e4
        obtain ⟨u, r, lk⟩ := hl k y' v h2 e5 (.inr (.inl h3))
        refine ⟨u, r, .inr ?_⟩
        rcases lk with ⟨z, _⟩ | ⟨_, c, hc, hcell⟩
        · rw [h3] at z; cases z
        · have e6 : Vis (relabel scope X.env) y' := e3
          have hk2 : (relabel scope X.env).names.lookup y' = some .cell ∨ (relabel scope X.env).names.lookup y' = some .free := by
            rcases e6 with e6 | e6 | e6
            · exfalso
              have nd := S.nd
              -- a name of the block's own is the first one
              exact S.ownOnly _ _ h1 e6
            · exact .inl e6
            · exact .inr e6
          obtain ⟨c2, hc2⟩ := S.has y' hk2
          have := S.sub _ _ hc2
          rw [hc] at this; cases this
          obtain ⟨o, z1, z2⟩ := hcell
          exact ⟨hk2, c, hc2, o, hk _ _ z1, z2⟩
  · obtain ⟨v, o, z1, z2⟩ := I.cell y c (S.sub _ _ h)
    exact ⟨v, o, hk _ _ z1, z2⟩
  · rw [List.append_nil] at hp
    obtain ⟨e, k, ne, nf, d⟩ := I.pin p hp
    refine ⟨hk _ _ e, k, Nat.ne_of_lt (Nat.lt_of_lt_of_le (Heap.lt_size e) hC), fun z => ?_, d⟩
    rcases List.mem_cons.mp (I.stkSub _ z) with q | q
    · exact ne q
    · exact nf q
  · show (compSt σ fr none).length = N.length
    rw [S.len]
    simp [compSt]
theorem cxC_end {pins : List (Addr × Obj)} {σ σ' : St} {H H' : Hp} {s s' : Shared} {fp : List Addr} {C : Addr} {h' : Heap} (I : Inv X pins σ H s) (hf : ∀ b ∈ fp, FpOk X pins H b) (hC : s.heap.objs.size ≤ C) (J : Inv (cxC X N scope cl C s H fp pins) [] σ' H' s') (hs : Heap.SameBut C s'.heap h') :
    Inv X pins σ H' { s' with heap := h' } := by
  have ne : ∀ b o, s.heap.get? b = some o → b ≠ C := fun b o e => Nat.ne_of_lt (Nat.lt_of_lt_of_le (Heap.lt_size e) hC)
  have u : Un (frs X.stack) fp H H' s.heap s'.heap := J.base
  have u2 : Un (frs X.stack) fp H H' s.heap h' := ⟨fun b o e n hb hx => (hs.2 b (ne b o e)).trans (u.keep b o e n hb hx), fun b o e n hb hx => (by
      obtain ⟨sl, q⟩ := u.slot b o e n hb hx
      exact ⟨sl, (hs.2 b (ne b o e)).trans q⟩), u.free, fun b o e hx => (by
      obtain ⟨o', q⟩ := u.there b o e hx
      exact ⟨o', (hs.2 b (ne b o e)).trans q⟩), u.tups, u.frzs, u.tbls⟩
  have nC : H' C = none := J.free
  refine I.call' (s' := { s' with heap := h' }) (ch := fp) J.os u2 (J.hok.onward fun b o hb q => (hs.2 b fun z => hb (z ▸ nC)).trans q) J.bare fun b hb => ?_
  obtain ⟨_, f2, _, f4, f5, f6⟩ := hf b hb
  exact ⟨f4, f2, f5, f6⟩
def PTs (X : Cx) (ifs : List Expr) (t : TT) : Prop :=
  ∀ (pins : List (Addr × Obj)) (s : Shared) (σ : St) (H : Hp) (Q : Bool → Hp → Prop), Inv X pins σ H s → t σ H Q → wpAny (model X.prog X.w) X.A (forIn ifs true fun c r => if r = true then do let ok ← PySem.isTrue c X.env (eval c X.env); pure (ForInStep.yield ok) else pure (ForInStep.yield r)) (TP X pins σ Q) X.xe s
theorem pts_one {X : Cx} {c : Expr} {t : TT} (h : PT X c t) : PTs X [c] t := fun pins s σ H Q I q => wpAny_tests_one (h pins s σ H Q I q)
theorem pts_nil {X : Cx} : PTs X [] (fun _ H Q => Q true H) := fun pins s σ H Q I q => by
  show wpAny _ _ (pure true) _ _ _
  exact wpAny_pure ⟨H, I, q⟩
theorem comp_core {ifs : List Expr} {tc : TT} {use : Option (Value → Sem Unit)} {R : Value → Shared → Prop} {Q : VK} {pins : List (Addr × Obj)} {s : Shared} {σ : St} {H : Hp} {ep : Pos} (hc : X.still = true) (S : CompScope X N fr x scope cl) (hi : PI X (.Name x px) iter wi)
    (ht : ∀ (C : Addr) (s0 : Shared) (H0 : Hp) (fp : List Addr) (pins : List (Addr × Obj)), PTs (cxC X N scope cl C s0 H0 fp pins) ifs tc) (he : ∀ (C : Addr) (s0 : Shared) (H0 : Hp) (fp : List Addr) (pins : List (Addr × Obj)), PE (cxC X N scope cl C s0 H0 fp pins) elt te)
    (hs : ∀ y, foldedSetIterable iter X.env y = pure y) (I : Inv X pins σ H s) (h : tCompIf wi fr tc te σ H Q)
    (fin : ∀ (acc C : Addr) (m : Str → Option Value) (H6 : Hp) (s7 : Shared), Q (.ref acc) H6 → s7.heap.Ns C m → (∀ h' : Heap, Heap.SameBut C s7.heap h' → Inv X pins σ H6 { s7 with heap := h' }) → H6 C = none → X.env.locals ≠ C → (∀ z c, X.env.cells.lookup z = some c → c ≠ C) → (∀ p ∈ X.pn ++ pins, p.1 ≠ C) → X.s₀.heap.objs.size ≤ C → compPost (model X.prog X.w) X.A X.xe use R (.ref acc) C (.ok .next) s7) :
    wpAny (model X.prog X.w) X.A (comprehension (.ListComp elt [⟨.Name x px, iter, ifs, 0⟩] scope pos) scope X.env ep (newList []) false (eval iter X.env) use) R X.xe s := by
  refine wpAny_comprehension_free (use := use) rfl hs S.clos S.kind S.loc (thn (hi pins s σ H _ I h) fun v s1 h1 => thn h1 fun itv s2 h2 => ?_)
  obtain ⟨it, fp, tn, J, H2, e, I2, T, st2, f2, hW⟩ := h2
  subst e
  have hfl : ∀ b ∈ fp, b < s2.heap.objs.size := fun b hb => by
    obtain ⟨o, q, _⟩ := T.obj _ _ st2 b hb
    exact Heap.lt_size q
  have hfr : H2 s2.heap.objs.size = none := I2.hok.fresh (Nat.le_refl _)
  refine wpAny_newObj_type ?_
  have keep3 : ∀ b o, s2.heap.get? b = some o → (s2.heap.push { cls := .type "list", dict := none, data := .seq ([] : List Value).toArray }).get? b = some o := fun b o q => Heap.get?_push_of_some _ q
  have I3 : Inv X pins σ (upd H2 s2.heap.objs.size (.lst [])) { s2 with heap := s2.heap.push { cls := .type "list", dict := none, data := .seq ([] : List Value).toArray } } :=
    I2.laid (t' := s2.toks) keep3 (Nat.le_refl _) ⟨Nat.zero_le _, [], 0, .nil, Heap.get?_push_size _ rfl⟩
  obtain ⟨W, ⟨m0, w0⟩, turn⟩ := hW s2.heap.objs.size hfr
  have f3 : ∀ b ∈ fp, FpOk X pins (upd H2 s2.heap.objs.size (.lst [])) b := fun b hb => ⟨by rw [upd_ne (Nat.ne_of_lt (hfl b hb))]; exact (f2 b hb).1, (f2 b hb).2⟩
  refine wpAny_newFunctionEnv S.nocell (by intro y hy; simp at hy) (fun h4 hns hsb => ?_) S.kind
  have hfl3 : ∀ b ∈ fp, b < (s2.heap.push { cls := .type "list", dict := none, data := .seq ([] : List Value).toArray }).objs.size := fun b hb => by
    rw [Heap.size_push]
    exact Nat.lt_succ_of_lt (hfl b hb)
  have keep4 : ∀ b o, (s2.heap.push { cls := .type "list", dict := none, data := .seq ([] : List Value).toArray }).get? b = some o → h4.get? b = some o := fun b o q =>
    (hsb.2 b (Nat.ne_of_lt (Heap.lt_size q))).trans (Heap.get?_push_of_some _ q)
  have I4 : Inv (cxC X N scope cl (s2.heap.push { cls := .type "list", dict := none, data := .seq ([] : List Value).toArray }).objs.size { s2 with heap := s2.heap.push { cls := .type "list", dict := none, data := .seq ([] : List Value).toArray } } (upd H2 s2.heap.objs.size (.lst [])) fp pins) [] (compSt σ fr none) (upd H2 s2.heap.objs.size (.lst []))
      { s2 with heap := h4, toks := s2.toks + ([] : List (Str × Value)).length } := cxC_start S I3 f3 (Nat.le_refl _) hfl3 hns keep4 rfl rfl
  have st4 : tn 0 h4 := T.keep _ _ _ st2 fun b hb o q => keep4 b o (keep3 b o q)
  generalize hY : cxC X N scope cl (s2.heap.push { cls := .type "list", dict := none, data := .seq ([] : List Value).toArray }).objs.size { s2 with heap := s2.heap.push { cls := .type "list", dict := none, data := .seq ([] : List Value).toArray } } (upd H2 s2.heap.objs.size (.lst [])) fp pins = Y at I4
  have hel : PE Y elt te := hY ▸ he _ _ _ _ _
  have htl : PTs Y ifs tc := hY ▸ ht _ _ _ _ _
  have eA : Y.A = X.A := by rw [← hY]; rfl
  have eP : Y.prog = X.prog := by rw [← hY]; rfl
  have ew : Y.w = X.w := by rw [← hY]; rfl
  have eK : Y.K = X.K := by rw [← hY]; rfl
  have eC : Y.still = true := by rw [← hY]; exact hc
  have eE : Y.env = compEnvC scope cl (s2.heap.push { cls := .type "list", dict := none, data := .seq ([] : List Value).toArray }).objs.size X.env := by rw [← hY]; rfl
  have eX : Y.xe = fun _ _ => False := by rw [← hY]; rfl
  have hg : PG Y (.Name x px) (gName 0) := by
    subst hY
    exact pg_name (i := 0) S.nd S.hN (.inl (lookup_relabel_local S.own)) (.inr (lookup_relabel_local S.own))
  have fY : ∀ {H' : Hp}, (∀ b ∈ fp, H' b = none) → ∀ b ∈ fp, FpOk Y [] H' b := fun {H'} hn b hb => by
    subst hY
    obtain ⟨_, g2, g3, g4, g5, g6⟩ := f3 b hb
    refine ⟨hn b hb, Nat.ne_of_lt (hfl3 b hb), fun z => ?_, .inl hb, fun y c q => g5 y c (S.sub _ _ q), fun p hp => ?_⟩
    · rcases List.mem_cons.mp (I3.stkSub b z) with q | q
      · exact g2 q
      · exact g3 q
    · rw [List.append_nil] at hp
      exact g6 p hp
  have loop : ∀ s5 : Shared, s5 = { s2 with heap := h4, toks := s2.toks + ([] : List (Str × Value)).length } →
      codeAny (model X.prog X.w) X.A (.compLoop (.ListComp elt [⟨.Name x px, iter, ifs, 0⟩] scope pos) 0 (.ref it) (.ref s2.heap.objs.size) (compEnvC scope cl (s2.heap.push { cls := .type "list", dict := none, data := .seq ([] : List Value).toArray }).objs.size X.env))
        (compPost (model X.prog X.w) X.A X.xe use R (.ref s2.heap.objs.size) (s2.heap.push { cls := .type "list", dict := none, data := .seq ([] : List Value).toArray }).objs.size) s5 := by
    rintro s5 rfl
    refine codeAny_compLoop_tests (fun n s' => ∃ i v H' vs, Inv Y [] (compSt σ fr v) H' s' ∧ tn i s'.heap ∧ (∀ b ∈ fp, H' b = none) ∧ W i n H' vs) ?_ m0 ⟨0, none, _, [], I4, st4, fun b hb => (f3 b hb).1, w0⟩
    rintro n s6 ⟨i, v6, H6, vs, I6, st6, fr6, w6⟩
    obtain ⟨hacc, hgo⟩ := turn i n H6 vs w6
    rcases hgo with ⟨stop, qn⟩ | ⟨go, hz, step⟩
    · have hd := T.done Y eP ew eK eC i [] s6 _ H6 (fun _ _ => False) I6 (fY fr6) st6 stop
      rw [eA] at hd
      refine wpAny_mono hd (fun r s7 ⟨hr, I7⟩ => ?_) fun _ _ z => z.elim
      subst hr
      obtain ⟨m, hn, _⟩ := id I7.loc
      rw [eE] at hn
      have hend : ∀ h' : Heap, Heap.SameBut (s2.heap.push { cls := .type "list", dict := none, data := .seq ([] : List Value).toArray }).objs.size s7.heap h' → Inv X pins σ H6 { s7 with heap := h' } := fun h' hs' => by
        subst hY
        exact cxC_end I3 f3 (Nat.le_refl _) I7 hs'
      have cf : H6 (s2.heap.push { cls := .type "list", dict := none, data := .seq ([] : List Value).toArray }).objs.size = none := by
        subst hY
        exact I7.free
      have big : ∀ b o, s2.heap.get? b = some o → b ≠ (s2.heap.push { cls := .type "list", dict := none, data := .seq ([] : List Value).toArray }).objs.size := fun b o q => Nat.ne_of_lt (by rw [Heap.size_push]; exact Nat.lt_succ_of_lt (Heap.lt_size q))
      obtain ⟨m2, hn2, _⟩ := id I2.loc
      obtain ⟨oL, _, _, hoL, _⟩ := id hn2
      exact fin _ _ m H6 s7 qn hn hend cf (big _ _ hoL) (fun z c q => by
        obtain ⟨_, o, w1, _⟩ := I2.cell z c q
        exact big _ _ w1) (fun p hp => by
        obtain ⟨e, _⟩ := I2.pin p hp
        exact big _ _ e) (by
        rw [Heap.size_push]
        exact Nat.le_succ_of_le (Nat.le_trans (Nat.le_refl _) I2.sz))
    · have hd := T.item Y eP ew eK eC i [] s6 _ H6 (fun _ _ => False) I6 (fY fr6) st6 go
      rw [eA] at hd
      refine wpAny_mono hd (fun r s7 ⟨u, hr, h7⟩ => ?_) fun _ _ z => z.elim
      subst hr
      show wpAny _ _ ((pure () : Sem Unit) >>= fun _ => assign (.Name x px) _ u) _ _ s7
      refine wpAny_bind (wpAny_mono h7 (fun _ s8 ⟨y, H8, I8, r8, y8, st8, fr8⟩ => ?_) fun _ _ z => z.elim)
      have I8' := I8.pinned (fY fr8) (T.obj _ _ st8)
      have h9 := hg _ s8 _ H8 y u (fun σ9 H9 => σ9 = compSt σ fr (some y) ∧ H9 = H8) I8' r8 ⟨rfl, rfl⟩
      rw [eA, eP, ew, eE, eX] at h9
      refine wpAny_mono h9 (fun _ s9 ⟨σ9, H9, I9, e9, e9'⟩ => ?_) fun _ _ z => z.elim
      subst e9 e9'
      have ht10 := htl _ s9 _ _ _ I9 (step y _ y8)
      rw [eA, eP, ew, eE, eX] at ht10
      refine wpAny_mono ht10 (fun ok s9t ⟨H9t, I9t, q9t⟩ => ?_) fun _ _ z => z.elim
      cases ok with
      | false =>
        rw [if_neg Bool.false_ne_true] at q9t
        rw [if_neg Bool.false_ne_true]
        obtain ⟨m', hm, w10⟩ := q9t
        refine ⟨m', hm, i + 1, some y, _, vs, I9t.unpinned, T.keep _ _ _ st8 fun b hb o q => (I9t.pin (b, o) (List.mem_append_right _ (List.mem_append_right _ (mem_pinsAt hb q)))).1, fun b hb => ?_, w10⟩
        obtain ⟨o, q, _⟩ := T.obj _ _ st8 b hb
        exact (I9t.pin (b, o) (List.mem_append_right _ (List.mem_append_right _ (mem_pinsAt hb q)))).2.1
      | true =>
      rw [if_pos rfl] at q9t
      rw [if_pos rfl]
      have h10 := hel _ s9t _ _ _ I9t q9t
      rw [eA, eP, ew, eE, eX] at h10
      refine wpAny_mono h10 (fun u10 s10 ⟨z10, H10, I10, r10, a10, m', hm, w10⟩ => ?_) fun _ _ z => z.elim
      have h11 := mt_append _ s10 _ H10 (.ref s2.heap.objs.size) [z10] (.ref s2.heap.objs.size) [u10] (fun _ H11 => H11 = upd H10 s2.heap.objs.size (.lst (vs ++ [z10]))) I10 rfl (.cons r10 .nil) ⟨_, vs, z10, rfl, rfl, a10, hz, rfl⟩
      rw [eA, eP, ew, eX] at h11
      refine wpAny_mono h11 (fun _ s11 ⟨_, H11, I11, _, e11⟩ => ?_) fun _ _ z => z.elim
      subst e11
      refine ⟨m', hm, i + 1, some y, _, vs ++ [z10], I11.unpinned, T.keep _ _ _ st8 fun b hb o q => (I11.pin (b, o) (List.mem_append_right _ (List.mem_append_right _ (mem_pinsAt hb q)))).1, fun b hb => ?_, w10⟩
      obtain ⟨o, q, _⟩ := T.obj _ _ st8 b hb
      exact (I11.pin (b, o) (List.mem_append_right _ (List.mem_append_right _ (mem_pinsAt hb q)))).2.1
  exact codeAny_compStart_list (loop _ rfl) (T.self _ 0 _ _ _ st4 (loop _ rfl))
theorem pe_comp (hc : X.still = true) (S : CompScope X N fr x scope cl) (hi : PI X (.Name x px) iter wi) (he : ∀ (C : Addr) (s0 : Shared) (H0 : Hp) (fp : List Addr) (pins : List (Addr × Obj)), PE (cxC X N scope cl C s0 H0 fp pins) elt te)
    (hs : ∀ y, foldedSetIterable iter X.env y = pure y := by intro _; rfl) : PE X (.ListComp elt [⟨.Name x px, iter, [], 0⟩] scope pos) (tComp wi fr te) := by
  intro pins s σ H Q I h
  rw [eval_ListComp]
  exact comp_core (tc := fun _ H Q => Q true H) (use := none) hc S hi (fun _ _ _ _ _ => pts_nil) he hs I h fun acc C m H6 s7 qn hn hend _ _ _ _ _ => ⟨m, hn, fun h' hs' => ⟨.ref acc, H6, hend h' hs', rfl, qn⟩⟩
end
end L2

namespace L2
open PySem PySem.Spec PyProof.Rows
theorem call_all {X : Cx} (hc : X.still = true) : CallR X (.builtin "all") (fun xs H Q => ∃ (l : Addr) (bs : List Bool), xs = [.ref l] ∧ H l = some (.lst (bs.map V.bl)) ∧ Q (.bl (bs.all id)) H) := by
  intro pins s σ H xs us Q I rv h
  obtain ⟨l, bs, rfl, hH, q⟩ := h
  obtain ⟨u, rfl, ru⟩ := rv.one
  cases ru
  obtain ⟨z, its, n, r, hl, e⟩ := I.lstM hH
  have hlt : l < s.heap.objs.size := Heap.lt_size e
  refine call_all_walk (wpAny_pyIter_list (A := X.A.in1) ⟨_, e, rfl, n, rfl⟩ ?_)
  obtain ⟨fp, st, W, st0, _⟩ := walks_list_any (P := X.prog) (w := X.w) (I.stl hc).in1 s.heap.objs.size l (Nat.ne_of_lt hlt) (I.stn hc (I.hok.fresh (Nat.le_refl _))) its.toArray
  refine ⟨s.heap.objs.size, _, _, _, _, _, fun i => bs.getD i true, rfl, W, st0 _ ⟨_, Heap.get?_push_size _ rfl, rfl, rfl⟩ ⟨_, Heap.get?_push_of_some _ e, rfl, n, rfl⟩ (fun b o x => Heap.get?_push_of_some _ x), ?_, ?_⟩
  · intro i v s' Q' E' hP hQ
    have hv : its[i]? = some v := by simpa using hP
    obtain ⟨b, hb, rfl⟩ : ∃ b, bs[i]? = some b ∧ v = Value.bool b := by
      cases hbi : bs[i]? with
      | none =>
        have h1 := r.none_of (i := i) (by rw [List.getElem?_map, hbi]; rfl)
        rw [h1] at hv; cases hv
      | some b =>
        obtain ⟨u', h1, h2⟩ := r.get (i := i) (x := .bl b) (by rw [List.getElem?_map, hbi]; rfl)
        rw [h1] at hv; cases hv
        exact ⟨b, rfl, h2⟩
    have hQ2 : Q' (bs.getD i true) s' := hQ
    rw [List.getD_eq_getElem?_getD, hb] at hQ2
    exact wpAny_truthy_bool hQ2
  · intro h' tk hk
    have e2 : ((List.range its.toArray.size).all fun i => bs.getD i true) = bs.all id := by
      have hlen : its.toArray.size = bs.length := by
        rw [List.size_toArray, ← r.length, List.length_map]
      rw [hlen]
      rw [Bool.eq_iff_iff, List.all_eq_true, List.all_eq_true]
      constructor
      · intro hA b hb
        obtain ⟨i, hi, e⟩ := List.getElem_of_mem hb
        have := hA i (List.mem_range.mpr hi)
        rw [List.getD_eq_getElem?_getD, List.getElem?_eq_getElem hi, e] at this
        exact this
      · intro hA i hi
        have hi' := List.mem_range.mp hi
        rw [List.getD_eq_getElem?_getD, List.getElem?_eq_getElem hi']
        exact hA _ (List.getElem_mem hi')
    rw [e2]
    refine ⟨.bl (bs.all id), H, ?_, rfl, q⟩
    exact I.kept (h' := h') (t' := tk) fun b o q' => hk b o (fun zz => by
      have : b = s.heap.objs.size := by simpa using zz
      subst this
      exact absurd (Heap.lt_size q') (Nat.lt_irrefl _)) (Heap.get?_push_of_some _ q')
end L2

namespace L2
open PySem PySem.Spec PyProof.Rows

section
variable {κ : Type} [DecidableEq κ]
def valV (kvs : List (κ × V)) (k : κ) : Option V := (kvs.find? fun kv => decide (kv.1 = k)).map (·.2)
def putK (kvs : List (κ × V)) (k : κ) (v : V) : List (κ × V) :=
  if (kvs.any fun kv => decide (kv.1 = k)) = true then kvs.map (fun kv => if kv.1 = k then (kv.1, v) else kv) else kvs ++ [(k, v)]
def dropK (kvs : List (κ × V)) (k : κ) : List (κ × V) := kvs.filter fun kv => decide (kv.1 ≠ k)

theorem valV_pos {p : κ × V} {r : List (κ × V)} {k : κ} (e : p.1 = k) : valV (p :: r) k = some p.2 := by simp [valV, List.find?_cons, e]
theorem valV_neg {p : κ × V} {r : List (κ × V)} {k : κ} (e : ¬ p.1 = k) : valV (p :: r) k = valV r k := by simp [valV, List.find?_cons, e]
theorem valV_any (k : κ) : ∀ kvs : List (κ × V), (kvs.any fun kv => decide (kv.1 = k)) = (valV kvs k).isSome
  | [] => rfl
  | p :: r => by
    rw [List.any_cons]
    by_cases e : p.1 = k
    · simp only [valV_pos e, decide_eq_true e, Bool.true_or, Option.isSome_some]
    · rw [valV_neg e, decide_eq_false e, Bool.false_or]; exact valV_any k r
theorem valV_map (k j : κ) (y : V) : ∀ kvs : List (κ × V), valV (kvs.map fun kv => if kv.1 = k then (kv.1, y) else kv) j = (valV kvs j).map fun x => if j = k then y else x
  | [] => rfl
  | p :: r => by
    have ih := valV_map k j y r
    rw [List.map_cons]
    by_cases h : p.1 = k
    · rw [if_pos h]
      by_cases e : p.1 = j
      · rw [valV_pos (p := (p.1, y)) e, valV_pos e, Option.map_some, if_pos (e.symm.trans h)]
      · rw [valV_neg (p := (p.1, y)) e, valV_neg e, ih]
    · rw [if_neg h]
      by_cases e : p.1 = j
      · rw [valV_pos (p := p) e, valV_pos e, Option.map_some, if_neg (fun z => h (e.trans z))]
      · rw [valV_neg (p := p) e, valV_neg e, ih]
theorem valV_snoc (k j : κ) (y : V) : ∀ kvs : List (κ × V), valV kvs k = none → valV (kvs ++ [(k, y)]) j = if j = k then some y else valV kvs j
  | [], _ => by
    by_cases e : k = j
    · rw [if_pos e.symm]; exact valV_pos (p := (k, y)) e
    · rw [if_neg (fun z => e z.symm)]; exact valV_neg (p := (k, y)) e
  | p :: r, hn => by
    rw [List.cons_append]
    have hk : ¬ p.1 = k := fun z => by rw [valV_pos z] at hn; cases hn
    rw [valV_neg hk] at hn
    have ih := valV_snoc k j y r hn
    by_cases e : p.1 = j
    · rw [valV_pos e, valV_pos e, if_neg (fun z => hk (e.trans z))]
    · rw [valV_neg e, valV_neg e, ih]
theorem valV_put (kvs : List (κ × V)) (k j : κ) (y : V) : valV (putK kvs k y) j = if j = k then some y else valV kvs j := by
  unfold putK
  by_cases a : (kvs.any fun kv => decide (kv.1 = k)) = true
  · rw [if_pos a, valV_map]
    rw [valV_any] at a
    by_cases e : j = k
    · obtain ⟨x, hx⟩ := Option.isSome_iff_exists.mp a
      rw [if_pos e, e, hx, Option.map_some, if_pos rfl]
    · rw [if_neg e]
      cases valV kvs j with
      | none => rfl
      | some x => rw [Option.map_some, if_neg e]
  · rw [if_neg a]
    refine valV_snoc k j y kvs ?_
    rw [valV_any] at a
    cases q : valV kvs k with
    | none => rfl
    | some x => rw [q] at a; exact (a rfl).elim
theorem length_putK (kvs : List (κ × V)) (k : κ) (v : V) : (putK kvs k v).length ≤ kvs.length + 1 := by
  unfold putK
  split
  · rw [List.length_map]; omega
  · rw [List.length_append, List.length_cons, List.length_nil]; omega
theorem putK_new {kvs : List (κ × V)} {k : κ} (v : V) (h : valV kvs k = none) : putK kvs k v = kvs ++ [(k, v)] := by
  unfold putK
  rw [valV_any, h]
  exact if_neg (by decide)

theorem RelO.isSome_eq {o : Option V} {u : Option Value} (r : RelO o u) : o.isSome = u.isSome := by
  cases o with
  | none => cases u with
    | none => rfl
    | some _ => exact (show False from r).elim
  | some _ => cases u with
    | none => exact (show False from r).elim
    | some _ => rfl
theorem RelO.getD {o : Option V} {u : Option Value} {d : V} {d' : Value} (r : RelO o u) (rd : RelV d d') : RelV (o.getD d) (u.getD d') := by
  cases o with
  | none => cases u with
    | none => exact rd
    | some _ => exact (show False from r).elim
  | some _ => cases u with
    | none => exact (show False from r).elim
    | some _ => exact r

theorem KV.val {kvs : List (κ × V)} {vs : List (κ × Value)} (r : KV kvs vs) (k : κ) : RelO (valV kvs k) (valueAt vs k) := by
  unfold KV at r
  induction r with
  | nil => exact True.intro
  | @cons p q ps qs h t ih =>
    obtain ⟨h1, h2⟩ := h
    by_cases e : p.1 = k
    · have e' : q.1 = k := h1.symm.trans e
      have b : valueAt (q :: qs) k = some q.2 := by simp [valueAt, List.find?_cons, e']
      rw [valV_pos e, b]; exact h2
    · have e' : ¬ q.1 = k := fun z => e (h1.trans z)
      have b : valueAt (q :: qs) k = valueAt qs k := by simp [valueAt, List.find?_cons, e']
      rw [valV_neg e, b]; exact ih
theorem KV.any {kvs : List (κ × V)} {vs : List (κ × Value)} (r : KV kvs vs) (k : κ) : (kvs.any fun kv => decide (kv.1 = k)) = vs.any fun kv => decide (kv.1 = k) := by
  unfold KV at r
  induction r with
  | nil => rfl
  | cons h t ih => rw [List.any_cons, List.any_cons, ih, h.1]
theorem KV.repl {kvs : List (κ × V)} {vs : List (κ × Value)} (r : KV kvs vs) (k : κ) {y : V} {u : Value} (ry : RelV y u) :
    KV (kvs.map fun kv => if kv.1 = k then (kv.1, y) else kv) (vs.map fun kv => if kv.1 = k then (kv.1, u) else kv) := by
  unfold KV at r ⊢
  induction r with
  | nil => exact .nil
  | @cons p q ps qs h t ih =>
    rw [List.map_cons, List.map_cons]
    refine .cons ?_ ih
    obtain ⟨h1, h2⟩ := h
    by_cases e : p.1 = k
    · rw [if_pos e, if_pos (h1.symm.trans e)]; exact ⟨h1, ry⟩
    · rw [if_neg e, if_neg (fun z => e (h1.trans z))]; exact ⟨h1, h2⟩
theorem KV.put {kvs : List (κ × V)} {vs : List (κ × Value)} (r : KV kvs vs) (k : κ) {y : V} {u : Value} (ry : RelV y u) : KV (putK kvs k y) (stored vs k u) := by
  unfold putK stored
  rw [r.any k]
  by_cases e : (vs.any fun kv => decide (kv.1 = k)) = true
  · rw [if_pos e, if_pos e]; exact r.repl k ry
  · rw [if_neg e, if_neg e]; exact Paired.snoc r ⟨rfl, ry⟩
theorem KV.drop {kvs : List (κ × V)} {vs : List (κ × Value)} (r : KV kvs vs) (k : κ) : KV (dropK kvs k) (without vs k) := by
  unfold KV at r ⊢
  unfold dropK without
  induction r with
  | nil => exact .nil
  | @cons p q ps qs h t ih =>
    obtain ⟨h1, h2⟩ := h
    rw [List.filter_cons, List.filter_cons]
    by_cases e : p.1 = k
    · have a : ¬ decide (p.1 ≠ k) = true := by simp [e]
      have b : ¬ decide (q.1 ≠ k) = true := by simp [h1.symm.trans e]
      rw [if_neg a, if_neg b]; exact ih
    · have e' : ¬ q.1 = k := fun z => e (h1.trans z)
      have a : decide (p.1 ≠ k) = true := by simp [e]
      have b : decide (q.1 ≠ k) = true := by simp [e']
      rw [if_pos a, if_pos b]; exact .cons ⟨h1, h2⟩ ih
theorem KV.length {kvs : List (κ × V)} {vs : List (κ × Value)} (r : KV kvs vs) : kvs.length = vs.length := Paired.length r
theorem dropK_le (kvs : List (κ × V)) (k : κ) : (dropK kvs k).length ≤ kvs.length := List.length_filter_le _ _
end

theorem kV_is {P : Program} {w : World} {k : Key} {u : Value} (r : RelV (kV k) u) : (mixKind P w).is k u = true := by
  cases k with
  | inl i => obtain ⟨t, e⟩ := (show ∃ t, u = Value.int i t from r); subst e; exact mixKind_int P w i t
  | inr x => obtain ⟨t, e⟩ := (show ∃ t, u = Value.str x t from r); subst e; exact mixKind_str P w x t
theorem items_are {P : Program} {w : World} : ∀ {ks : List Key} {us : List Value}, Vals (ks.map kV) us → ItemsAre (mixKind P w) ks us
  | [], _, r => by rw [List.map_nil] at r; cases r; exact .nil
  | k :: ks, _, r => by
    rw [List.map_cons] at r
    cases r with
    | cons h t => exact .cons (kV_is h) (items_are t)

abbrev KT (H : Hp) : List (List Key × V) → List (List Key × Addr × Value) → Prop := Paired fun p q => p.1 = q.1 ∧ H q.2.1 = some (.tup (p.1.map kV)) ∧ RelV p.2 q.2.2
theorem KT.val {H : Hp} {kvs : List (List Key × V)} {xs : List (List Key × Addr × Value)} (r : KT H kvs xs) (k : List Key) : RelO (valV kvs k) ((atKey xs k).map (·.2)) := by
  induction r with
  | nil => exact True.intro
  | @cons p q ps qs h t ih =>
    obtain ⟨h1, _, h2⟩ := h
    by_cases e : p.1 = k
    · have e' : q.1 = k := h1.symm.trans e
      have b : atKey (q :: qs) k = some q.2 := by simp [atKey, List.find?_cons, e']
      rw [valV_pos e, b]; exact h2
    · have e' : ¬ q.1 = k := fun z => e (h1.trans z)
      have b : atKey (q :: qs) k = atKey qs k := by simp [atKey, List.find?_cons, e']
      rw [valV_neg e, b]; exact ih
theorem KT.repl {H : Hp} {kvs : List (List Key × V)} {xs : List (List Key × Addr × Value)} (r : KT H kvs xs) (k : List Key) {y : V} {u : Value} (ry : RelV y u) :
    KT H (kvs.map fun kv => if kv.1 = k then (kv.1, y) else kv) (xs.map (putAt k u)) := by
  induction r with
  | nil => exact .nil
  | @cons p q ps qs h t ih =>
    rw [List.map_cons, List.map_cons]
    refine .cons ?_ ih
    obtain ⟨h1, h2, h3⟩ := h
    unfold putAt
    by_cases e : p.1 = k
    · rw [if_pos e, if_pos (h1.symm.trans e)]; exact ⟨h1, h2, ry⟩
    · rw [if_neg e, if_neg (fun z => e (h1.trans z))]; exact ⟨h1, h2, h3⟩
theorem KT.put {H : Hp} {kvs : List (List Key × V)} {xs : List (List Key × Addr × Value)} (r : KT H kvs xs) (k : List Key) {b : Addr} {y : V} {u : Value} (hb : H b = some (.tup (k.map kV))) (ry : RelV y u) :
    KT H (putK kvs k y) (storedH xs k b u) := by
  have e : (kvs.any fun kv => decide (kv.1 = k)) = (atKey xs k).isSome := by
    rw [valV_any, (r.val k).isSome_eq, Option.isSome_map]
  unfold putK storedH
  rw [e]
  by_cases q : (atKey xs k).isSome = true
  · rw [if_pos q, if_pos q]; exact r.repl k ry
  · rw [if_neg q, if_neg q]; exact Paired.snoc r ⟨rfl, hb, ry⟩
theorem KT.keeps {H H' : Hp} {kvs : List (List Key × V)} {xs : List (List Key × Addr × Value)} (r : KT H kvs xs) (ht : ∀ b ys, H b = some (.tup ys) → H' b = some (.tup ys)) : KT H' kvs xs :=
  Paired.mapP r fun _ _ z => ⟨z.1, ht _ _ z.2.1, z.2.2⟩

section
variable {P : Program} {w : World} {H : Hp} {h : Heap} {a : Addr}
theorem rd_of {u : HO} (ok : HOk P w H h) (e : Rd H a u) : ObjOk P w H h a u := e.ok ok
theorem dk_rd {kvs : List (Key × V)} (ok : HOk P w H h) (e : Rd H a (.dK kvs)) : kvs.length ≤ sizeLine ∧ (a == sysModules) = false ∧ ∃ vs, KV kvs vs ∧ h.DictOf (mixKind P w) a vs :=
  show ObjOk P w H h a (.dK kvs) from rd_of ok e
theorem dk_of {kvs : List (Key × V)} (ok : HOk P w H h) (e : H a = some (.dK kvs)) : kvs.length ≤ sizeLine ∧ (a == sysModules) = false ∧ ∃ vs, KV kvs vs ∧ h.DictOf (mixKind P w) a vs := dk_rd ok (.inl e)
theorem key_of {ks : List Key} (ok : HOk P w H h) (e : H a = some (.tup (ks.map kV))) : (tupleKind (mixKind P w)).is h ks a := by
  obtain ⟨_, its, r, o, h1, h2, n, h3⟩ := (show ObjOk P w H h a (.tup (ks.map kV)) from ok a _ e)
  exact ⟨o, its.toArray, n, h1, h2, h3, by simpa using items_are r⟩
theorem dt_rd {kvs : List (List Key × V)} (ok : HOk P w H h) (e : Rd H a (.dT kvs)) : kvs.length ≤ sizeLine ∧ (a == sysModules) = false ∧
    ∃ xs, KT H kvs xs ∧ h.DictOfH (tupleKind (mixKind P w)) a xs := by
  obtain ⟨z, y, xs, r, o, es, ep, h1, h2, h3, h4, h5⟩ := (show ObjOk P w H h a (.dT kvs) from rd_of ok e)
  refine ⟨z, y, xs, r, o, es, ep, h1, h2, h3, h4, fun x hx => ?_, h5⟩
  have all : ∀ {l : List (List Key × V)} {m : List (List Key × Addr × Value)}, KT H l m → ∀ x ∈ m, (tupleKind (mixKind P w)).is h x.1 x.2.1 := by
    intro l m q
    induction q with
    | nil => intro x hx; exact nomatch hx
    | @cons p q ps qs hq t ih =>
      intro x hx
      rcases List.mem_cons.mp hx with e | hx
      · subst e
        exact key_of ok (by rw [← hq.1]; exact hq.2.1)
      · exact ih x hx
  exact all r x hx
theorem dt_of {kvs : List (List Key × V)} (ok : HOk P w H h) (e : H a = some (.dT kvs)) : kvs.length ≤ sizeLine ∧ (a == sysModules) = false ∧
    ∃ xs, KT H kvs xs ∧ h.DictOfH (tupleKind (mixKind P w)) a xs := dt_rd ok (.inl e)
end

def DGet (H : Hp) (a : Addr) (y : V) (r : Option V) : Prop :=
  (∃ kvs k, Rd H a (.dK kvs) ∧ y = kV k ∧ r = valV kvs k) ∨ ∃ kvs k b, Rd H a (.dT kvs) ∧ y = .ref b ∧ H b = some (.tup (k.map kV)) ∧ r = valV kvs k
def DPut (H : Hp) (a : Addr) (y v : V) (H' : Hp) : Prop :=
  (∃ kvs k, H a = some (.dK kvs) ∧ y = kV k ∧ kvs.length < sizeLine ∧ H' = upd H a (.dK (putK kvs k v))) ∨
  ∃ kvs k b, H a = some (.dT kvs) ∧ y = .ref b ∧ H b = some (.tup (k.map kV)) ∧ kvs.length < sizeLine ∧ H' = upd H a (.dT (putK kvs k v))
theorem DGet.k {H : Hp} {a : Addr} {kvs : List (Key × V)} {k : Key} (e : H a = some (.dK kvs)) : DGet H a (kV k) (valV kvs k) := .inl ⟨kvs, k, .inl e, rfl, rfl⟩
theorem DPut.k {H : Hp} {a : Addr} {kvs : List (Key × V)} {k : Key} {v : V} (e : H a = some (.dK kvs)) (hl : kvs.length < sizeLine) : DPut H a (kV k) v (upd H a (.dK (putK kvs k v))) := .inl ⟨kvs, k, e, rfl, hl, rfl⟩
section
variable {X : Cx} {pins : List (Addr × Obj)} {σ : St} {H : Hp} {s : Shared} {a : Addr} {y v : V} {u r : Value} {o : Option V} {A : Around} {E : Value → Shared → Prop}

theorem Inv.big (I : Inv X pins σ H s) : sysModules < s.heap.objs.size := by
  have h : mainGlobals < s.heap.objs.size := (I.mod.glob.keeps I.bk).lt
  exact Nat.lt_trans (by decide) h

theorem d_getItem {Q : Value → Shared → Prop} (hu : A.units + 1 < cLine) (I : Inv X pins σ H s) (g : DGet H a y (some v)) (ry : RelV y u) (h : ∀ w' s', Inv X pins σ H s' → RelV v w' → Q w' s') :
    wpAny (model X.prog X.w) A (getItem (.ref a) u) Q E s := by
  rcases g with ⟨kvs, k, e, ey, l⟩ | ⟨kvs, k, b, e, ey, eb, l⟩
  · subst ey
    obtain ⟨z, hd, vs, rel, dd⟩ := dk_rd I.hok e
    obtain ⟨w', hw, rw'⟩ := RelO.some_of (v := v) (o := valueAt vs k) (by rw [l]; exact rel.val k)
    exact wpAny_getItem_of (kV_is ry) dd.mapOf hw (h w' _ (I.tok _) rw')
  · subst ey
    cases (show u = Value.ref b from ry)
    obtain ⟨z, hd, xs, rel, dd⟩ := dt_rd I.hok e
    obtain ⟨w', hw, rw'⟩ := RelO.some_of (v := v) (o := (atKey xs k).map (·.2)) (by rw [l]; exact rel.val k)
    obtain ⟨p, hp, hp2⟩ := Option.map_eq_some_iff.mp hw
    refine wpAny_getItem_heap (tupleKind_room_in1 hu) (key_of I.hok eb) dd hp ?_
    rw [hp2]
    exact h w' _ (I.tok _) rw'
theorem d_in {Q : Value → Shared → Prop} (hu : A.units + 1 < cLine) (I : Inv X pins σ H s) (g : DGet H a y o) (ry : RelV y u) (h : ∀ s', Inv X pins σ H s' → Q (.bool o.isSome) s') :
    wpAny (model X.prog X.w) A (compareOp .In u (.ref a)) Q E s := by
  rcases g with ⟨kvs, k, e, ey, l⟩ | ⟨kvs, k, b, e, ey, eb, l⟩
  · subst ey
    obtain ⟨z, hd, vs, rel, dd⟩ := dk_rd I.hok e
    refine wpAny_in_of (kV_is ry) hd dd.mapOf ?_
    rw [← (rel.val k).isSome_eq, ← l]
    exact h _ (I.tok _)
  · subst ey
    cases (show u = Value.ref b from ry)
    obtain ⟨z, hd, xs, rel, dd⟩ := dt_rd I.hok e
    refine wpAny_in_heap (tupleKind_room_in1 hu) (key_of I.hok eb) hd dd ?_
    have q := (rel.val k).isSome_eq
    rw [Option.isSome_map] at q
    rw [← q, ← l]
    exact h _ (I.tok _)
theorem d_notIn {Q : Value → Shared → Prop} (hu : A.units + 1 < cLine) (I : Inv X pins σ H s) (g : DGet H a y o) (ry : RelV y u) (h : ∀ s', Inv X pins σ H s' → Q (.bool (!o.isSome)) s') :
    wpAny (model X.prog X.w) A (compareOp .NotIn u (.ref a)) Q E s := by
  rcases g with ⟨kvs, k, e, ey, l⟩ | ⟨kvs, k, b, e, ey, eb, l⟩
  · subst ey
    obtain ⟨z, hd, vs, rel, dd⟩ := dk_rd I.hok e
    refine wpAny_notIn_of (kV_is ry) hd dd.mapOf ?_
    rw [← (rel.val k).isSome_eq, ← l]
    exact h _ (I.tok _)
  · subst ey
    cases (show u = Value.ref b from ry)
    obtain ⟨z, hd, xs, rel, dd⟩ := dt_rd I.hok e
    refine wpAny_notIn_heap (tupleKind_room_in1 hu) (key_of I.hok eb) hd dd ?_
    have q := (rel.val k).isSome_eq
    rw [Option.isSome_map] at q
    rw [← q, ← l]
    exact h _ (I.tok _)
theorem d_write {h' : Heap} {t' : Nat} {ob : HO} (I : Inv X pins σ H s) (mu : Mut (H a)) (hs : Heap.SameBut a s.heap h') (he : ∃ q, h'.get? a = some q) (new : ObjOk X.prog X.w (upd H a ob) h' a ob) :
    Inv X pins σ (upd H a ob) { s with heap := h', toks := t' } :=
  I.write (x := a) (e := a) mu (.inl rfl) (fun b q hb z => (hs.2 b hb).trans z) he new
theorem dk_new {P : Program} {w : World} {H' : Hp} {h' : Heap} {kvs : List (Key × V)} {vs : List (Key × Value)} (z : kvs.length ≤ sizeLine) (hd : (a == sysModules) = false) (rel : KV kvs vs) (dd : h'.DictOf (mixKind P w) a vs) :
    ObjOk P w H' h' a (.dK kvs) := ⟨z, hd, vs, rel, dd⟩
theorem d_setItem {H' : Hp} {Q : Unit → Shared → Prop} (hu : A.units + 1 < cLine) (I : Inv X pins σ H s) (g : DPut H a y v H') (ry : RelV y u) (rv : RelV v r) (h : ∀ s', Inv X pins σ H' s' → Q () s') :
    wpAny (model X.prog X.w) A (setItem (.ref a) u r) Q E s := by
  rcases g with ⟨kvs, k, e, ey, l, eH⟩ | ⟨kvs, k, b, e, ey, eb, l, eH⟩
  · subst ey eH
    obtain ⟨z, hd, vs, rel, dd⟩ := dk_of I.hok e
    have hz : vs.length ≤ sizeLine := by rw [← rel.length]; exact z
    have hl : (putK kvs k v).length ≤ sizeLine := by have := length_putK kvs k v; omega
    refine wpAny_setItem_pairs (hsz := hz) (kV_is ry) dd fun h' dd' hs => h _ ?_
    have he : ∃ q, h'.get? a = some q := let ⟨q, _, _, hq, _⟩ := dd'; ⟨q, hq⟩
    exact d_write I (by rw [e]; exact True.intro) hs he (dk_new hl hd (rel.put k rv) dd')
  · subst ey eH
    cases (show u = Value.ref b from ry)
    obtain ⟨z, hd, xs, rel, dd⟩ := dt_of I.hok e
    have hz : xs.length ≤ sizeLine := by rw [← Paired.length rel]; exact z
    have hl : (putK kvs k v).length ≤ sizeLine := by have := length_putK kvs k v; omega
    refine wpAny_setItem_heap (hsz := hz) (tupleKind_room_in1 hu) (key_of I.hok eb) dd fun h' dd' hs => h _ ?_
    obtain ⟨q, es, ep, hq, h2, h3, h4, _, h5⟩ := dd'
    refine d_write I (by rw [e]; exact True.intro) hs ⟨q, hq⟩ ⟨hl, hd, _, (rel.put k eb rv).keeps fun c ys ec => ?_, q, es, ep, hq, h2, h3, h4, h5⟩
    rw [upd_ne (ne_of ec e (fun z => nomatch z))]
    exact ec
end

section
variable {X : Cx} {pins : List (Addr × Obj)} {σ : St} {H : Hp} {s : Shared} {a : Addr} {kvs : List (Key × V)} {k : Key} {u : Value} {A : Around} {E : Value → Shared → Prop}
theorem d_pop {v : V} {more : List Value} {Q : Value → Shared → Prop} (I : Inv X pins σ H s) (e : H a = some (.dK kvs)) (ry : RelV (kV k) u) (l : valV kvs k = some v) (hm : more = [] ∨ ∃ x, more = [x])
    (h : ∀ w' s', Inv X pins σ (upd H a (.dK (dropK kvs k))) s' → RelV v w' → Q w' s') : wpAny (model X.prog X.w) A (call (.builtin "dict.pop") (.ref a :: u :: more)) Q E s := by
  obtain ⟨z, hd, vs, rel, dd⟩ := dk_of I.hok e
  obtain ⟨w', hw, rw'⟩ := RelO.some_of (v := v) (o := valueAt vs k) (by rw [← l]; exact rel.val k)
  have hp : (keyPart u).isSome = true := by
    cases k with
    | inl i => obtain ⟨t, q⟩ := (show ∃ t, u = Value.int i t from ry); subst q; rfl
    | inr x => obtain ⟨t, q⟩ := (show ∃ t, u = Value.str x t from ry); subst q; rfl
  have ha : argsOk "dict.pop" ⟨.ref a :: u :: more, []⟩ := by
    rcases hm with q | ⟨x, q⟩
    · subst q; exact PySem.F.args_dict_pop_2 _ _
    · subst q; exact PySem.F.args_dict_pop_3 _ _ _
  refine call_meetsIn PySem.F.slot_dict_pop dd.typeIs PySem.F.entry_dict_pop ha (meets_dict_pop_there (mixKind X.prog X.w) a (kV_is ry) more hm hp)
    ⟨vs, w', dd, by rw [← rel.length]; exact z, hw, fun h' dd' hs => h w' _ ?_ rw'⟩
  have he : ∃ q, h'.get? a = some q := let ⟨q, _, _, hq, _⟩ := dd'; ⟨q, hq⟩
  exact d_write I (by rw [e]; exact True.intro) hs he (dk_new (Nat.le_trans (dropK_le kvs k) z) hd (rel.drop k) dd')
end

def NoSl (i : Expr) : Prop := ∀ ov iv, subscripted i false ov iv = operate [ov, iv] (getItem ov iv)
theorem subD_of {prog : Program} {w : World} {A : Around} {E : Value → Shared → Prop} {s : Shared} {env : Env} {value slice : Expr} {pos : Pos} {T id : String} {Q : Value → Shared → Prop}
    (hl : typeLookup (.type T) "__getitem__" = pure (some (.builtin id))) (hs : NoSl slice)
    (h : wpAny (model prog w) A (eval value env) (fun o s₁ => wpAny (model prog w) A (eval slice env) (fun i s₂ => s₂.TypeIs o T ∧ wpAny (model prog w) A (getItem o i) Q E s₂) E s₁) E s) :
    wpAny (model prog w) A (eval (.Subscript value slice pos) env) Q E s := by
  refine Subscript_ (wpAny_mono h (fun o s₁ h₁ => wpAny_mono h₁ (fun i s₂ h₂ => ?_) fun _ _ x => x) fun _ _ x => x)
  obtain ⟨hT, h₂⟩ := h₂
  unfold subscriptTail
  refine wpAny_bind ?_
  rw [getitemInPython_of_ne hT.not_modules]
  refine wpAny_bind (wpAny_specialOf hT hl ?_)
  have fin : wpAny (model prog w) A (subscripted slice false o i) (fun r s₃ => wpAny (model prog w) A (letTemporaryGo value o r >>= fun _ => pure r) Q E s₃) E s₂ := by
    rw [hs o i]
    exact wpAny_operating (wpAny_mono h₂ (fun r s₃ h₃ => wpAny_bind (wpAny_letTemporaryGo (wpAny_pure h₃))) fun _ _ x => x)
  first
    | exact wpAny_pure (wpAny_bind fin)
    | exact wpAny_bind (wpAny_pure (wpAny_bind fin))
    | exact wpAny_bind fin

theorem dict_typeIs {X : Cx} {pins : List (Addr × Obj)} {σ : St} {H : Hp} {s : Shared} {a : Addr} {y : V} {o : Option V} (I : Inv X pins σ H s) (g : DGet H a y o) : s.TypeIs (.ref a) "dict" := by
  rcases g with ⟨kvs, k, e, _, _⟩ | ⟨kvs, k, b, e, _, _, _⟩
  · obtain ⟨_, _, vs, _, dd⟩ := dk_rd I.hok e
    exact dd.typeIs
  · obtain ⟨_, _, xs, _, dd⟩ := dt_rd I.hok e
    exact dd.typeIs
def tDGet (td ty : TE) : TE := fun σ H Q => td σ H fun x H1 => ty σ H1 fun y H2 => ∃ a v, x = .ref a ∧ DGet H2 a y (some v) ∧ Q v H2
def tDIn (ty td : TE) : TE := fun σ H Q => ty σ H fun y H1 => td σ H1 fun x H2 => ∃ a o, x = .ref a ∧ DGet H2 a y o ∧ Q (.bl o.isSome) H2
def tDNotIn (ty td : TE) : TE := fun σ H Q => ty σ H fun y H1 => td σ H1 fun x H2 => ∃ a o, x = .ref a ∧ DGet H2 a y o ∧ Q (.bl (!o.isSome)) H2
def sDPut (td ty tv : TE) : TS := fun D σ H => tv σ H fun v H1 => td σ H1 fun x H2 => ty σ H2 fun y H3 => ∃ a H4, x = .ref a ∧ DPut H3 a y v H4 ∧ D.nx σ H4
def sDAug (td ty tv : TE) (rd : V → V → Hp → VK → Prop) : TS := fun D σ H => td σ H fun x H1 => ty σ H1 fun y H2 => ∃ a v, x = .ref a ∧ DGet H2 a y (some v) ∧
  tv σ H2 fun y2 H3 => rd v y2 H3 fun z H4 => ∃ H5, DPut H4 a y z H5 ∧ D.nx σ H5
def sDDel (td ty : TE) : TS := fun D σ H => td σ H fun x H1 => ty σ H1 fun y H2 => ∃ a kvs k, x = .ref a ∧ H2 a = some (.dK kvs) ∧ y = kV k ∧ (valV kvs k).isSome = true ∧ D.nx σ (upd H2 a (.dK (dropK kvs k)))

section
variable {X : Cx} {o i e value : Expr} {pos pos' tpos : Pos} {td ty tv : TE}
theorem pe_dget (hu : X.A.units + 1 < cLine) (ho : PE X o td) (hi : PE X i ty) (hs : NoSl i) : PE X (.Subscript o i pos) (tDGet td ty) := by
  intro pins s σ H Q I h
  refine subD_of PySem.F.slot_dict_getitem.lookup hs (thn (ho pins s σ H _ I h) fun u s1 ⟨x, H1, I1, rx, q1⟩ => thn (hi pins s1 σ H1 _ I1 q1) fun iv s2 ⟨y, H2, I2, ry, a, v, ex, g, q2⟩ => ?_)
  subst ex
  obtain rfl : u = Value.ref a := rx
  exact ⟨dict_typeIs I2 g, d_getItem hu I2 g ry fun w' s3 I3 rw' => ⟨v, H2, I3, rw', q2⟩⟩
theorem pc_din (hu : X.A.units + 1 < cLine) (hi : PE X i ty) (ho : PE X o td) : PC X .In i o (tDIn ty td) := by
  intro pins s σ H Q I h
  refine thn (hi pins s σ H _ I h) fun iv s1 ⟨y, H1, I1, ry, q1⟩ => thn (ho pins s1 σ H1 _ I1 q1) fun u s2 ⟨x, H2, I2, rx, a, ov, ex, g, q2⟩ => ?_
  subst ex
  obtain rfl : u = Value.ref a := rx
  exact d_in hu I2 g ry fun s3 I3 => ⟨.bl ov.isSome, H2, I3, rfl, q2⟩
theorem pc_dnotin (hu : X.A.units + 1 < cLine) (hi : PE X i ty) (ho : PE X o td) : PC X .NotIn i o (tDNotIn ty td) := by
  intro pins s σ H Q I h
  refine thn (hi pins s σ H _ I h) fun iv s1 ⟨y, H1, I1, ry, q1⟩ => thn (ho pins s1 σ H1 _ I1 q1) fun u s2 ⟨x, H2, I2, rx, a, ov, ex, g, q2⟩ => ?_
  subst ex
  obtain rfl : u = Value.ref a := rx
  exact d_notIn hu I2 g ry fun s3 I3 => ⟨.bl (!ov.isSome), H2, I3, rfl, q2⟩
theorem ps_dput (hu : X.A.units + 1 < cLine) (ho : PE X o td) (hi : PE X i ty) (hv : PE X value tv) (hs : swapsWith value (some (.Subscript o i pos')) pos.line X.env = pure false) :
    PS X (.Assign [.Subscript o i pos'] value pos) (sDPut td ty tv) := by
  intro pins s σ H D I h
  refine wpAny_Assign_Subscript (thn (hv pins s σ H _ I h) fun r s1 ⟨v, H1, I1, rv, q1⟩ => thn (ho pins s1 σ H1 _ I1 q1) fun u s2 ⟨x, H2, I2, rx, q2⟩ => thn (hi pins s2 σ H2 _ I2 q2) fun iv s3 ⟨y, H3, I3, ry, a, H4, ex, g, q3⟩ => ?_) hs
  subst ex
  obtain rfl : u = Value.ref a := rx
  exact d_setItem hu I3 g ry rv fun s4 I4 => ⟨σ, H4, I4, q3⟩
end

theorem dk_empty {P : Program} {w : World} {H : Hp} (h : Heap) (hb : sysModules < h.objs.size) : ObjOk P w H (h.push { cls := .type "dict", data := .dict #[] }) h.objs.size (.dK []) :=
  ⟨Nat.zero_le _, beq_eq_false_iff_ne.mpr (Ne.symm (Nat.ne_of_lt hb)), [], .nil, Heap.DictOf.new h⟩
def tDNewK : TE := fun _ H Q => ∀ p, H p = none → Q (.ref p) (upd H p (.dK []))
def tDNewT : TE := fun _ H Q => ∀ p, H p = none → Q (.ref p) (upd H p (.dT []))
section
variable {X : Cx} {pos : Pos}
theorem pe_dnewK : PE X (.Dict [] [] pos) tDNewK := fun pins s σ H Q I h =>
  wpAny_Dict_empty ⟨.ref s.heap.objs.size, _, I.laid (a := s.heap.objs.size) (o := .dK []) (t' := s.toks) (fun _ _ q => Heap.get?_push_of_some _ q) (Nat.le_refl _) (dk_empty s.heap I.big), rfl, h _ (I.hok.fresh (Nat.le_refl _))⟩
end

def tPairs : List (TE × TE) → St → Hp → (List (V × V) → Hp → Prop) → Prop
  | [], _, H, Q => Q [] H
  | (tk, tv) :: r, σ, H, Q => tk σ H fun x H1 => tv σ H1 fun y H2 => tPairs r σ H2 fun ps H3 => Q ((x, y) :: ps) H3
abbrev VV : List (V × V) → List (Value × Value) → Prop := Paired fun p q => RelV p.1 q.1 ∧ RelV p.2 q.2
def PPs (X : Cx) (pos : Pos) (keys : List (Option Expr)) (values : List Expr) (trs : List (TE × TE)) : Prop :=
  ∀ (pins : List (Addr × Obj)) (s : Shared) (σ : St) (H : Hp) (Q : List (V × V) → Hp → Prop), Inv X pins σ H s → tPairs trs σ H Q →
    wpAny (model X.prog X.w) X.A (evalPairs (pairTrees keys values X.env pos)) (fun vs s' => ∃ ps H', Inv X pins σ H' s' ∧ VV ps vs ∧ Q ps H') X.xe s
def mergeK (kvs more : List (Key × V)) : List (Key × V) := more.foldl (fun acc kv => putK acc kv.1 kv.2) kvs
def tDisp (trs : List (TE × TE)) : TE := fun σ H Q => ∀ p, H p = none → tPairs trs σ (upd H p (.dK [])) fun ps H2 => H2 p = some (.dK []) ∧ ∃ kvs : List (Key × V), ps = kvs.map (fun kv => (kV kv.1, kv.2)) ∧ kvs.length ≤ 15 ∧ Q (.ref p) (upd H2 p (.dK (mergeK [] kvs)))
structure M1 (X : Cx) (o : Expr) (m : Str) (apos : Pos) (e : Expr) (cpos : Pos) : Prop where
  base : attributeBase o m X.env (eval o X.env) = eval o X.env
  few : ((backTo cpos (starEach [e] X.env)).all (fun x => !x.1) && (backToKw cpos (keywordEach [] X.env)).all (fun x => x.1.isSome)
    && decide (([e] : List Expr).length + ([] : List Keyword).length + (if ([] : List Keyword).isEmpty then 0 else 1) < 30)) = true
  line : (apos.endLine == cpos.line) = true
  trees : backTo cpos (starEach [e] X.env) = [(false, eval e X.env)]
structure M2 (X : Cx) (o : Expr) (m : Str) (apos : Pos) (e f : Expr) (cpos : Pos) : Prop where
  base : attributeBase o m X.env (eval o X.env) = eval o X.env
  few : ((backTo cpos (starEach [e, f] X.env)).all (fun x => !x.1) && (backToKw cpos (keywordEach [] X.env)).all (fun x => x.1.isSome)
    && decide (([e, f] : List Expr).length + ([] : List Keyword).length + (if ([] : List Keyword).isEmpty then 0 else 1) < 30)) = true
  line : (apos.endLine == cpos.line) = true
  trees : backTo cpos (starEach [e, f] X.env) = [(false, eval e X.env), (false, eval f X.env)]

def IsD (H : Hp) (a : Addr) : Prop := (∃ kvs, Rd H a (.dK kvs)) ∨ ∃ kvs, Rd H a (.dT kvs)
theorem isD_at {X : Cx} {pins : List (Addr × Obj)} {σ : St} {H : Hp} {s : Shared} {a : Addr} (I : Inv X pins σ H s) (d : IsD H a) :
    s.TypeIs (.ref a) "dict" ∧ (∀ b, Value.ref a = .ref b → ∃ ob, s.heap.get? b = some ob ∧ ob.dict = none) ∧ (a == sysModules) = false := by
  rcases d with ⟨kvs, e⟩ | ⟨kvs, e⟩
  · obtain ⟨_, hd, vs, _, dd⟩ := dk_rd I.hok e
    refine ⟨dd.typeIs, fun b q => ?_, hd⟩
    cases q
    obtain ⟨ob, _, _, h1, h2, _⟩ := dd
    exact ⟨ob, h1, h2.2.1⟩
  · obtain ⟨_, hd, xs, _, dd⟩ := dt_rd I.hok e
    refine ⟨dd.typeIs, fun b q => ?_, hd⟩
    cases q
    obtain ⟨ob, _, _, h1, h2, _⟩ := dd
    exact ⟨ob, h1, h2.2.1⟩

section
variable {X : Cx} {pins : List (Addr × Obj)} {σ : St} {H : Hp} {s : Shared} {a : Addr} {y d : V} {u r : Value} {o : Option V} {A : Around} {E : Value → Shared → Prop}
theorem d_get2 {Q : Value → Shared → Prop} (hu : A.units + 1 < cLine) (I : Inv X pins σ H s) (g : DGet H a y o) (ry : RelV y u) (rd : RelV d r) (h : ∀ w' s', Inv X pins σ H s' → RelV (o.getD d) w' → Q w' s') :
    wpAny (model X.prog X.w) A (call (.builtin "dict.get") [.ref a, u, r]) Q E s := by
  rcases g with ⟨kvs, k, e, ey, l⟩ | ⟨kvs, k, b, e, ey, eb, l⟩
  · subst ey
    obtain ⟨z, hd, vs, rel, dd⟩ := dk_rd I.hok e
    refine call_meetsIn PySem.F.slot_dict_get dd.typeIs PySem.F.entry_dict_get (PySem.F.args_dict_get_3 _ _ _) (meets_dict_get_default (mixKind X.prog X.w) a (kV_is ry) hd r) ⟨_, dd.mapOf, h _ _ (I.tok _) ?_⟩
    rw [l]
    exact (rel.val k).getD rd
  · subst ey
    cases (show u = Value.ref b from ry)
    obtain ⟨z, hd, xs, rel, dd⟩ := dt_rd I.hok e
    refine call_meetsIn PySem.F.slot_dict_get dd.typeIs PySem.F.entry_dict_get (PySem.F.args_dict_get_3 _ _ _) (meetsH_dict_get_default (tupleKind (mixKind X.prog X.w)) a b hd r) ⟨tupleKind_room_in1 hu, k, xs, key_of I.hok eb, dd, h _ _ (I.tok _) ?_⟩
    rw [l]
    exact (rel.val k).getD rd
end

def tDGet1 (td ty : TE) : TE := fun σ H Q => td σ H fun x H1 => ∃ a, x = .ref a ∧ IsD H1 a ∧ ty σ H1 fun y H2 => ∃ o, DGet H2 a y o ∧ Q (o.getD .non) H2
def tDGet2 (td ty tx : TE) : TE := fun σ H Q => td σ H fun x H1 => ∃ a, x = .ref a ∧ IsD H1 a ∧ ty σ H1 fun y H2 => tx σ H2 fun z H3 => ∃ o, DGet H3 a y o ∧ Q (o.getD z) H3
def tDPop1 (td ty : TE) : TE := fun σ H Q => td σ H fun x H1 => ∃ a, x = .ref a ∧ IsD H1 a ∧ ty σ H1 fun y H2 => ∃ kvs k v, H2 a = some (.dK kvs) ∧ y = kV k ∧ valV kvs k = some v ∧ Q v (upd H2 a (.dK (dropK kvs k)))
def tDPop2 (td ty tx : TE) : TE := fun σ H Q => td σ H fun x H1 => ∃ a, x = .ref a ∧ IsD H1 a ∧ ty σ H1 fun y H2 => tx σ H2 fun z H3 => ∃ kvs k, H3 a = some (.dK kvs) ∧ y = kV k ∧
  (∀ v, valV kvs k = some v → Q v (upd H3 a (.dK (dropK kvs k)))) ∧ (valV kvs k = none → Q z H3)
section
variable {X : Cx} {o e f : Expr} {apos cpos : Pos} {td ty tx : TE}
theorem pe_dget2 (hu : X.A.units + 1 < cLine) (ho : PE X o td) (he : PE X e ty) (hf : PE X f tx) (m : M2 X o "get" apos e f cpos) : PE X (.Call (.Attribute o "get" apos) [e, f] [] cpos) (tDGet2 td ty tx) := by
  intro pins s σ H Q I h
  refine wpAny_Call_method m.base m.few m.line PySem.F.plainAttrs_dict PySem.F.slot_dict_get PySem.F.type_dict_get (thn (ho pins s σ H _ I h) fun u s1 ⟨x, H1, I1, rx, a, ex, d, q1⟩ => ?_)
  subst ex
  obtain rfl : u = Value.ref a := rx
  obtain ⟨t1, t2, _⟩ := isD_at I1 d
  refine ⟨t1, t2, ?_⟩
  rw [m.trees]
  refine Calls.callWith_builtin rfl (Calls.evalArgs_plain (Calls.spliced_cons (thn (he pins s1 σ H1 _ I1 q1) fun iv s2 ⟨y, H2, I2, ry, q2⟩ =>
    Calls.spliced_cons (thn (hf pins s2 σ H2 _ I2 q2) fun fv s3 ⟨z, H3, I3, rz, ov, g, q3⟩ => Calls.spliced_nil ?_))))
  exact d_get2 hu I3 g ry rz fun w' s4 I4 rw' => ⟨_, H3, I4, rw', q3⟩
theorem pe_dpop1 (ho : PE X o td) (he : PE X e ty) (m : M1 X o "pop" apos e cpos) : PE X (.Call (.Attribute o "pop" apos) [e] [] cpos) (tDPop1 td ty) := by
  intro pins s σ H Q I h
  refine wpAny_Call_method m.base m.few m.line PySem.F.plainAttrs_dict PySem.F.slot_dict_pop PySem.F.type_dict_pop (thn (ho pins s σ H _ I h) fun u s1 ⟨x, H1, I1, rx, a, ex, d, q1⟩ => ?_)
  subst ex
  obtain rfl : u = Value.ref a := rx
  obtain ⟨t1, t2, _⟩ := isD_at I1 d
  refine ⟨t1, t2, ?_⟩
  rw [m.trees]
  refine Calls.callWith_builtin rfl (Calls.evalArgs_plain (Calls.spliced_cons (thn (he pins s1 σ H1 _ I1 q1) fun iv s2 ⟨y, H2, I2, ry, kvs, k, v, ea, ey, l, q2⟩ => Calls.spliced_nil ?_)))
  subst ey
  exact d_pop I2 ea ry l (.inl rfl) fun w' s3 I3 rw' => ⟨v, _, I3, rw', q2⟩
end

section
variable {X : Cx} {pins : List (Addr × Obj)} {σ : St} {H : Hp} {s : Shared} {a : Addr} {y : V} {u : Value} {A : Around} {E : Value → Shared → Prop}
end
end L2

namespace L2
open PySem PySem.Spec PyProof.Rows

section
variable {P : Program} {w : World} {K : PySem.W.Frag} {mg : Str → Option Value} {base : Heap}
end
section
variable {X : Cx}
end

section
variable {κ : Type} [DecidableEq κ]
end
end L2

namespace L2
open PySem PySem.Spec PyProof.Rows
abbrev pairD (x : Int × Int) : PyData := .tuple [.int x.1, .int x.2]
end L2

namespace L2
open PySem PySem.Spec PyProof.Rows
section
variable {X : Cx} {N : List Str} {fr : List Nat} {x : Str} {scope : Scope} {cl : List (Str × Addr)} {elt iter : Expr} {px pos : Pos} {wi : TI} {te : TE}
end
end L2

namespace L2
open PySem PySem.Spec PyProof.Rows
section
variable {M : Model} {A : Around} {E : Value → Shared → Prop}
variable {nm q nm' q' : Str} {C N D N' : Addr} {bs bm bs' bm' : List Value} {hdct hdct' : Bool} {sn sn' : List Str} {sub sub' : List Value} {ab ab' : Bool} {col col' : Option Bool} {dd dd' : Option Addr} {k0 k1 k2 k3 k5 j0 j1 j2 j3 j5 : Option Value} {newId newId' : String}
end
section
variable {X : Cx} {pins : List (Addr × Obj)} {σ : St} {H H' : Hp} {s s' : Shared} {e : Addr} {cls a0 : Value} {ea C : Addr} {B h' : Heap} {t' : Nat}
end
section
variable {X : Cx} {k : Nat} {f C : Addr} {fd : FuncData} {ps : List Str} {sp : Sp} {g x n : Str} {p pos pos2 pos3 np hpos : Pos} {e : Expr} {es : List Expr} {t : TA} {ts : TS} {b₀ : Stmt} {suite : List Stmt} {i : Nat}
end
end L2

namespace L2
open PySem PySem.Spec PyProof.Rows
def bls (c : Int) (i : Nat) : List Bool := (List.range i).map fun (j : Nat) => decide (V.int (0 + (j : Int)) = V.int c)
def spAloneS (C : Addr) (k : Int) : Sp := fun vs H Q _ => ∃ e, vs = [.ref e, .int k] ∧ H e = some (.ext (ExcAt C e)) ∧ ∀ H', Same H H' → Q (.bl true) H'
end L2

namespace L2
open PySem PySem.Spec PyProof.Rows
end L2

namespace L2
open PySem PySem.Spec PyProof.Rows
def tTryAs3 (sp : Sp) (C C2 : Addr) (i : Nat) (ta : TA) (ts : TS) : TS := fun D σ H => ta σ H fun vs H1 => sp vs H1 (fun _ H2 => D.nx σ H2) fun cls _ H2 =>
  (cls = .ref C ∧ ∀ e, H2 e = none → ts (asEnds D i) (σ.set i (some (.ref e))) (upd H2 e (.ext (ExcAt C e)))) ∨ (cls = .ref C2 ∧ ∀ e, H2 e = none → ts (asEnds D i) (σ.set i (some (.ref e))) (upd H2 e (.ext (ExcAt C2 e))))
section
variable {X : Cx} {k : Nat} {f C : Addr} {fd : FuncData} {ps : List Str} {sp : Sp} {g x n : Str} {p pos pos2 pos3 np hpos : Pos} {e : Expr} {es : List Expr} {t : TA} {ts : TS} {b₀ : Stmt} {suite : List Stmt} {i : Nat}
end
end L2

namespace L2
open PySem PySem.Spec PyProof.Rows
inductive IsiE (X : Cx) (C0 : Addr) : List Expr → List Bool → Prop where
  | nil : IsiE X C0 [] []
  | cons {x : Str} {C : Addr} {b : Bool} {p p2 p3 p4 : Pos} {es : List Expr} {bs : List Bool} (h5 : Gl X x) (h6 : X.mg x = some (.ref C)) (h7 : (x == ("__debug__" : Str)) = false) (k : PySem.W.kitOne X.K (.ref C0) (.ref C) = some b) (h : IsiE X C0 es bs) :
      IsiE X C0 (.Call (.Name "isinstance" p) [.Name "_law_e" p2, .Name x p3] [] p4 :: es) (b :: bs)
def tIsis (C0 : Addr) (bs : List Bool) : TA := fun σ H Q => ∃ a, σ[0]? = some (some (V.ref a)) ∧ H a = some (.ext (ExcAt C0 a)) ∧ Q (bs.map V.bl) H
end L2

namespace L2
open PySem PySem.Spec PyProof.Rows
def tSetC (wi : TI) (fr : List Nat) (tc : TT) (te : TE) (k : Nat) : TS := fun D σ H => tCompIf wi fr tc te σ H fun v H' => D.nx (σ.set k (some v)) H'
theorem Inv.off {X : Cx} {pins : List (Addr × Obj)} {σ : St} {H : Hp} {s : Shared} {C : Addr} {h' : Heap} (I : Inv X pins σ H s) (hs : Heap.SameBut C s.heap h') (hC0 : X.s₀.heap.objs.size ≤ C) (hH : H C = none) (hL : C ≠ X.env.locals) (hc : ∀ y c, X.env.cells.lookup y = some c → c ≠ C) (hp : ∀ p ∈ X.pn ++ pins, p.1 ≠ C) : Inv X pins σ H { s with heap := h' } := by
  obtain ⟨m, hn, hl⟩ := id I.loc
  have old : ∀ b o, X.s₀.heap.get? b = some o → h'.get? b = s.heap.get? b := fun b o e => hs.2 b (Nat.ne_of_lt (Nat.lt_of_lt_of_le (Heap.lt_size e) hC0))
  refine ⟨I.ok, I.fzs, I.os, I.bare, ⟨fun b o e k hb hx => (old b o e).trans (I.base.keep b o e k hb hx), fun b o e k hb hx => ?_, I.base.free, fun b o e hx => ?_, I.base.tups, I.base.frzs, I.base.tbls⟩, ⟨m, hn.sameBut hs hL.symm, fun j y v' e1 e2 e3 => ?_⟩, fun y c e => ?_, I.free, I.freeC, fun p q => ?_, fun b ob e => ?_, I.len⟩
  · obtain ⟨sl, e1⟩ := I.base.slot b o e k hb hx
    exact ⟨sl, (old b o e).trans e1⟩
  · obtain ⟨o', e1⟩ := I.base.there b o e hx
    exact ⟨o', (old b o e).trans e1⟩
  · obtain ⟨u', r', q⟩ := hl j y v' e1 e2 e3
    refine ⟨u', r', ?_⟩
    rcases q with q | ⟨k, c, e, z⟩
    · exact .inl q
    · exact .inr ⟨k, c, e, z.sameBut hs (hc y c e)⟩
  · obtain ⟨w', z⟩ := I.cell y c e
    exact ⟨w', z.sameBut hs (hc y c e)⟩
  · obtain ⟨e, k, ne, nf, d⟩ := I.pin p q
    exact ⟨(hs.2 p.1 (hp p q)).trans e, k, ne, nf, d⟩
  · refine (I.hok b ob e).stay (fun c w' hc' q => (hs.2 c ?_).trans q) (fun _ q => q) fun _ _ q => q
    rintro rfl
    rcases hc' with rfl | hc'
    · rw [hH] at e; cases e
    · rw [hH] at hc'; cases hc'
section
variable {X : Cx} {N : List Str} {fr : List Nat} {x : Str} {scope : Scope} {cl : List (Str × Addr)} {elt iter : Expr} {px pos : Pos} {wi : TI} {te : TE}
end
end L2

namespace L2
open PySem PySem.Spec PyProof.Rows
def CompEnd (J : It) (Q : VK) (H1 : Hp) (te : TE) (σ : V → St) : Prop := ∀ acc, H1 acc = none → ∃ W : Nat → Nat → Hp → List V → Prop, (∃ m, W 0 m (upd H1 acc (.lst [])) []) ∧
  ∀ i m H' vs, W i m H' vs → H' acc = some (.lst vs) ∧ ((J.stop i H' ∧ Q (.ref acc) H') ∨ (J.go i H' ∧ vs.length < sizeLine ∧ ∀ x H2, J.yld i H' x H2 → te (σ x) H2 fun y H3 => H3 acc = some (.lst vs) ∧ ∃ m', m' < m ∧ W (i + 1) m' (upd H3 acc (.lst (vs ++ [y]))) (vs ++ [y])))
def CompIfEnd (J : It) (Q : VK) (H1 : Hp) (tc : TT) (te : TE) (σ : V → St) : Prop := ∀ acc, H1 acc = none → ∃ W : Nat → Nat → Hp → List V → Prop, (∃ m, W 0 m (upd H1 acc (.lst [])) []) ∧
  ∀ i m H' vs, W i m H' vs → H' acc = some (.lst vs) ∧ ((J.stop i H' ∧ Q (.ref acc) H') ∨ (J.go i H' ∧ vs.length < sizeLine ∧ ∀ x H2, J.yld i H' x H2 → tc (σ x) H2 fun b H3 =>
    if b = true then te (σ x) H3 fun y H4 => H4 acc = some (.lst vs) ∧ ∃ m', m' < m ∧ W (i + 1) m' (upd H4 acc (.lst (vs ++ [y]))) (vs ++ [y]) else ∃ m', m' < m ∧ W (i + 1) m' H3 vs))
def tCompC (wi : TI) (fr : List Nat) (te : TE) : TE := fun σ H Q => wi σ H fun J H1 => CompEnd J Q H1 te (fun x => compSt σ fr (some x))
def tCompIfC (wi : TI) (fr : List Nat) (tc : TT) (te : TE) : TE := fun σ H Q => wi σ H fun J H1 => CompIfEnd J Q H1 tc te (fun x => compSt σ fr (some x))
def tSetC0 (wi : TI) (fr : List Nat) (te : TE) (k : Nat) : TS := fun D σ H => tCompC wi fr te σ H fun v H' => D.nx (σ.set k (some v)) H'
section
variable {X : Cx} {N : List Str} {fr : List Nat} {x : Str} {scope : Scope} {cl : List (Str × Addr)} {elt iter : Expr} {px pos : Pos} {wi : TI} {te : TE}
theorem ps_setC0 {y : Str} {py spos : Pos} {k : Nat} (hN : X.N.Nodup) (hk : X.N[k]? = some y) (hy : Loc X.env.scope y) (hsw : swapsWith (.ListComp elt [⟨.Name x px, iter, [], 0⟩] scope pos) (some (.Name y py)) spos.line X.env = pure true) (hc : X.still = true) (S : CompScope X N fr x scope cl) (hi : PI X (.Name x px) iter wi) (he : ∀ (C : Addr) (s0 : Shared) (H0 : Hp) (fp : List Addr) (pins : List (Addr × Obj)), PE (cxC X N scope cl C s0 H0 fp pins) elt te)
    (hf : X.fn y = true ∨ X.env.scope.names.lookup y = some .local) (hs : ∀ y, foldedSetIterable iter X.env y = pure y := by intro _; rfl) : PS X (.Assign [.Name y py] (.ListComp elt [⟨.Name x px, iter, [], 0⟩] scope pos) spos) (tSetC0 wi fr te k) := by
  intro pins s σ H D I h
  rw [exec_Assign_Name_used _ _ _ _ hsw]
  refine wpAny_bind (wpAny_standAt (wpAny_bind ?_))
  show wpAny _ X.A (do let _ ← comprehension (.ListComp elt [⟨.Name x px, iter, [], 0⟩] scope pos) scope X.env _ (newList []) false (eval iter X.env) (some (assign (.Name y py) X.env))) _ _ s
  refine wpAny_bind (wpAny_mono (comp_core (tc := fun _ H Q => Q true H) (Q := fun v H' => D.nx (σ.set k (some v)) H') (use := some (assign (.Name y py) X.env)) (R := fun _ s' => SP X pins D .next s') hc S hi (fun _ _ _ _ _ => pts_nil) he hs I h (fun acc C m H6 s7 qn hn hend cf cL cC cP cS => by
    have J7 : Inv X pins σ H6 s7 := hend s7.heap ⟨rfl, fun _ _ => rfl⟩
    show wpAny _ X.A (assign (.Name y py) X.env (.ref acc)) _ _ _
    refine wpAny_assign_Name (store_ok2 J7 hN hk hy (v := .ref acc) rfl (fun s8 J8 ⟨a, hsa, ha⟩ => ?_) hf)
    have aC : C ≠ a := by
      rcases ha with e | e
      · rw [e]; exact Ne.symm cL
      · exact Ne.symm (cC _ _ e)
    exact ⟨m, hn.sameBut hsa aC, fun h' hs' => ⟨_, H6, J8.off hs' cS cf (Ne.symm cL) cC cP, qn⟩⟩)) (fun _ s' hq => wpAny_pure (wpAny_pure hq)) fun _ _ e => e)
end

section
variable {X : Cx} {N : List Str} {fr : List Nat} {x : Str} {scope : Scope} {cl : List (Str × Addr)} {elt iter : Expr} {px pos : Pos} {wi : TI} {te : TE}
theorem pe_compC (hc : X.still = true) (S : CompScope X N fr x scope cl) (hi : PI X (.Name x px) iter wi) (he : ∀ (C : Addr) (s0 : Shared) (H0 : Hp) (fp : List Addr) (pins : List (Addr × Obj)), PE (cxC X N scope cl C s0 H0 fp pins) elt te)
    (hs : ∀ y, foldedSetIterable iter X.env y = pure y := by intro _; rfl) : PE X (.ListComp elt [⟨.Name x px, iter, [], 0⟩] scope pos) (tCompC wi fr te) := pe_comp hc S hi he hs
end
theorem same_upd {H0 H : Hp} {p : Addr} {o : HO} (g : Same H0 H) (h : H0 p = none) : Same H0 (upd H p o) := fun b u q => by
  rw [upd_ne (ne_of_none q h)]
  exact g b u q
theorem comp_range {te : TE} {σ : V → St} {H : Hp} {Q : VK} {lo : Int} (n : Nat) (hn : n < sizeLine) (R : Nat → List V → Hp → Prop) (R0 : ∀ p, H p = none → R 0 [] (upd H p (.lst [])))
    (he : ∀ i vs H' acc (Q' : VK), i < n → Same H H' → H acc = none → H' acc = some (.lst vs) → R i vs H' → vs.length = i → (∀ y H2, Same H' H2 → (R (i + 1) (vs ++ [y]) (upd H2 acc (.lst (vs ++ [y])))) → Q' y H2) → te (σ (.int (lo + i))) H' Q')
    (q : ∀ p H' vs, Same H H' → H p = none → H' p = some (.lst vs) → vs.length = n → R n vs H' → Q (.ref p) H') : CompEnd (Itr lo n) Q H te σ := by
  intro acc hacc
  refine ⟨fun i m H' vs => i ≤ n ∧ m = n - i ∧ Same H H' ∧ H' acc = some (.lst vs) ∧ vs.length = i ∧ R i vs H', ⟨n, Nat.zero_le _, by simp, same_new hacc _, upd_same, rfl, R0 _ hacc⟩, ?_⟩
  rintro i m H' vs ⟨hi, rfl, g, ha, hl, r⟩
  refine ⟨ha, ?_⟩
  by_cases h : i = n
  · subst h
    exact .inl ⟨Nat.le_refl _, q acc H' vs g hacc ha hl r⟩
  · refine .inr ⟨by (show i < n; omega), by omega, ?_⟩
    rintro z H2 ⟨rfl, rfl⟩
    refine he i vs H2 acc _ (by omega) g hacc ha r hl fun y H3 g3 r3 => ⟨g3 _ _ ha, n - (i + 1), by omega, by omega, rfl, same_upd (g.trans g3) hacc, upd_same, ?_, r3⟩
    rw [List.length_append, hl]
    rfl
theorem comp_rangeF {te : TE} {σ : V → St} {H : Hp} {Q : VK} {lo : Int} (n : Nat) (hn : n < sizeLine) (f : Nat → V)
    (he : ∀ i H' (Q' : VK), i < n → Same H H' → (∀ H2, Same H' H2 → Q' (f i) H2) → te (σ (.int (lo + i))) H' Q')
    (q : ∀ p H', Same H H' → H p = none → H' p = some (.lst ((List.range n).map f)) → Q (.ref p) H') : CompEnd (Itr lo n) Q H te σ := by
  refine comp_range n hn (fun i vs _ => vs = (List.range i).map f) (fun _ _ => rfl) ?_ ?_
  · intro i vs H' acc Q' hi g h0 h1 r hl k
    refine he i H' Q' hi g fun H2 g2 => k _ _ g2 ?_
    rw [r, List.range_succ, List.map_append]
    rfl
  · intro p H' vs g h0 h1 hl r
    exact q p H' g h0 (r ▸ h1)
theorem comp_listF {K : PySem.W.Frag} {a : Addr} {xs : List V} {te : TE} {σ : V → St} {H : Hp} {Q : VK} (hx : SqL K H a xs) (hn : xs.length < sizeLine) (f : V → V) (hK : ∀ H', Same H H' → SqL K H' a xs)
    (he : ∀ (i : Nat) (x : V) (H' : Hp) (Q' : VK), xs[i]? = some x → Same H H' → (∀ H2, Same H' H2 → Q' (f x) H2) → te (σ x) H' Q')
    (q : ∀ p H', Same H H' → H p = none → H' p = some (.lst (xs.map f)) → Q (.ref p) H') : CompEnd (Itl K a) Q H te σ := by
  intro acc hacc
  refine ⟨fun i m H' vs => i ≤ xs.length ∧ m = xs.length - i ∧ Same H H' ∧ H' acc = some (.lst vs) ∧ vs = (xs.take i).map f, ⟨xs.length, Nat.zero_le _, by simp, same_new hacc _, upd_same, by simp⟩, ?_⟩
  rintro i m H' vs ⟨hi, rfl, g, ha, rfl⟩
  refine ⟨ha, ?_⟩
  by_cases h : i = xs.length
  · refine .inl ⟨⟨xs, hK _ g, by omega⟩, q acc H' g hacc ?_⟩
    rw [ha, h, List.take_length]
  · have hlt : i < xs.length := by omega
    refine .inr ⟨⟨xs, xs[i], hK _ g, by simp [hlt]⟩, by rw [List.length_map, List.length_take]; omega, ?_⟩
    rintro z H2 ⟨rfl, hz⟩
    have hz' := hz xs (hK _ g)
    refine he i z H2 _ hz' g fun H3 g3 => ⟨g3 _ _ ha, xs.length - (i + 1), by omega, by omega, rfl, same_upd (g.trans g3) hacc, upd_same, ?_⟩
    rw [List.take_succ, hz', List.map_append]
    rfl
theorem comp_tupF {K : PySem.W.Frag} {a : Addr} {xs : List V} {te : TE} {σ : V → St} {H : Hp} {Q : VK} (hx : SqT K H a xs) (hn : xs.length < sizeLine) (f : V → V) (hK : ∀ H', Same H H' → SqT K H' a xs)
    (he : ∀ (i : Nat) (x : V) (H' : Hp) (Q' : VK), xs[i]? = some x → Same H H' → (∀ H2, Same H' H2 → Q' (f x) H2) → te (σ x) H' Q')
    (q : ∀ p H', Same H H' → H p = none → H' p = some (.lst (xs.map f)) → Q (.ref p) H') : CompEnd (Itt K a) Q H te σ := by
  intro acc hacc
  refine ⟨fun i m H' vs => i ≤ xs.length ∧ m = xs.length - i ∧ Same H H' ∧ H' acc = some (.lst vs) ∧ vs = (xs.take i).map f, ⟨xs.length, Nat.zero_le _, by simp, same_new hacc _, upd_same, by simp⟩, ?_⟩
  rintro i m H' vs ⟨hi, rfl, g, ha, rfl⟩
  refine ⟨ha, ?_⟩
  by_cases h : i = xs.length
  · refine .inl ⟨⟨xs, hK _ g, by omega⟩, q acc H' g hacc ?_⟩
    rw [ha, h, List.take_length]
  · have hlt : i < xs.length := by omega
    refine .inr ⟨⟨xs, xs[i], hK _ g, by simp [hlt]⟩, by rw [List.length_map, List.length_take]; omega, ?_⟩
    rintro z H2 ⟨rfl, hz⟩
    have hz' := hz xs (hK _ g)
    refine he i z H2 _ hz' g fun H3 g3 => ⟨g3 _ _ ha, xs.length - (i + 1), by omega, by omega, rfl, same_upd (g.trans g3) hacc, upd_same, ?_⟩
    rw [List.take_succ, hz', List.map_append]
    rfl

mutual
inductive DA (H : Hp) : V → PyData → Prop where
  | int {i : Int} : DA H (.int i) (.int i)
  | bl {b : Bool} : DA H (.bl b) (.bool b)
  | str {x : Str} : DA H (.str x) (.str x)
  | lst {p : Addr} {xs : List V} {ds : List PyData} : H p = some (.lst xs) → DAs H xs ds → DA H (.ref p) (.list ds)
  | tup {p : Addr} {xs : List V} {ds : List PyData} : H p = some (.tup xs) → DAs H xs ds → DA H (.ref p) (.tuple ds)
inductive DAs (H : Hp) : List V → List PyData → Prop where
  | nil : DAs H [] []
  | cons {x : V} {d : PyData} {xs : List V} {ds : List PyData} : DA H x d → DAs H xs ds → DAs H (x :: xs) (d :: ds)
end
mutual
theorem DA.reads {X : Cx} {pins : List (Addr × Obj)} {σ : St} {H : Hp} {s : Shared} (I : Inv X pins σ H s) : ∀ {v : V} {d : PyData} {u : Value}, DA H v d → RelV v u → ∃ as, Reads s.heap u d as
  | _, _, _, .int, r => by obtain ⟨t, rfl⟩ := r; exact ⟨_, .int _ _⟩
  | _, _, _, .bl, r => by cases r; exact ⟨_, .bool _⟩
  | _, _, _, .str, r => by obtain ⟨t, rfl⟩ := r; exact ⟨_, .str _ _⟩
  | _, _, _, .lst h hs, r => by
    cases r
    obtain ⟨its, rv, ⟨o, n, e1, e2, _, e3⟩, _⟩ := I.list (SqL.of h)
    obtain ⟨as, z⟩ := DAs.reads I hs rv
    exact ⟨_, .list e1 e2 e3 z⟩
  | _, _, _, .tup h hs, r => by
    cases r
    obtain ⟨its, rv, ⟨o, e1, e2, n, e3⟩, _⟩ := I.tuple (SqT.of h)
    obtain ⟨as, z⟩ := DAs.reads I hs rv
    exact ⟨_, .tuple e1 e2 e3 z⟩
theorem DAs.reads {X : Cx} {pins : List (Addr × Obj)} {σ : St} {H : Hp} {s : Shared} (I : Inv X pins σ H s) : ∀ {vs : List V} {ds : List PyData} {us : List Value}, DAs H vs ds → Vals vs us → ∃ as, ReadsAll s.heap us ds as
  | _, _, _, .nil, r => by cases r; exact ⟨_, .nil⟩
  | _, _, _, .cons h hs, r => by
    cases r with
    | cons r1 r2 =>
      obtain ⟨a1, z1⟩ := DA.reads I h r1
      obtain ⟨a2, z2⟩ := DAs.reads I hs r2
      exact ⟨_, .cons z1 z2⟩
end
def rEqD : R2 := fun x y H Q => ∃ da db : PyData, DA H x da ∧ DA H y db ∧ SeqAt.shaped da = true ∧ SeqAt.shaped db = true ∧ Q (.bl (PyData.eqv da db)) H
def rNeD : R2 := fun x y H Q => ∃ da db : PyData, DA H x da ∧ DA H y db ∧ SeqAt.shaped da = true ∧ SeqAt.shaped db = true ∧ Q (.bl (!PyData.eqv da db)) H
theorem op_eqD {X : Cx} (hu : X.A.units + 64 < cLine) : OpR X (compareOp .Eq) rEqD := by
  intro pins s σ H x y v u Q I rx ry h
  obtain ⟨da, db, ha, hb, sa, sb, q⟩ := h
  obtain ⟨as, ra⟩ := ha.reads I rx
  obtain ⟨bs, rb⟩ := hb.reads I ry
  exact eq_dataH ra rb sa sb hu ⟨.bl _, H, I, rfl, q⟩
end L2

namespace L2
open PySem PySem.Spec PyProof.Rows

structure CompScope2 (X : Cx) (N : List Str) (fr : List Nat) (x x2 : Str) (scope : Scope) (cl : List (Str × Addr)) : Prop where
  kind : scope.kind = .function
  nocell : ∀ y ∈ scope.names, y.2 ≠ .cell
  loc : ∀ y ∈ scope.names, y.2 = .local → scope.names.lookup y.1 = some .local
  own : scope.names.lookup x = some .local
  own2 : scope.names.lookup x2 = some .local
  clos : closureFor scope X.env = pure cl
  sub : ∀ y c, cl.lookup y = some c → X.env.cells.lookup y = some c
  has : ∀ y, ((relabel scope X.env).names.lookup y = some .cell ∨ (relabel scope X.env).names.lookup y = some .free) → ∃ c, cl.lookup y = some c
  nd : N.Nodup
  hN : N[0]? = some x
  hN2 : N[1]? = some x2
  len : N.length = fr.length + 2
  ownOnly : ∀ (j : Nat) (y : Str), N[j + 2]? = some y → (relabel scope X.env).names.lookup y ≠ some .local
  out : ∀ (j k : Nat), fr[j]? = some k → ∃ y, N[j + 2]? = some y ∧ X.N[k]? = some y ∧ X.env.kindOf y = some .cell
def compSt2 (σ : St) (fr : List Nat) (v v2 : Option V) : St := v :: v2 :: fr.map fun k => (σ[k]?).join
def CompPEnd (K : PySem.W.Frag) (J : It) (Q : VK) (H1 : Hp) (te : TE) (σ : V → V → St) : Prop := ∀ acc, H1 acc = none → ∃ W : Nat → Nat → Hp → List V → Prop, (∃ m, W 0 m (upd H1 acc (.lst [])) []) ∧
  ∀ i m H' vs, W i m H' vs → H' acc = some (.lst vs) ∧ ((J.stop i H' ∧ Q (.ref acc) H') ∨ (J.go i H' ∧ vs.length < sizeLine ∧ ∀ x H2, J.yld i H' x H2 → ∃ (t : Addr) (v1 v2 : V), x = .ref t ∧ SqT K H2 t [v1, v2] ∧ te (σ v1 v2) H2 fun y H3 => H3 acc = some (.lst vs) ∧ ∃ m', m' < m ∧ W (i + 1) m' (upd H3 acc (.lst (vs ++ [y]))) (vs ++ [y])))
def tCompP (K : PySem.W.Frag) (wi : TI) (fr : List Nat) (te : TE) : TE := fun σ H Q => wi σ H fun J H1 => CompPEnd K J Q H1 te (fun v1 v2 => compSt2 σ fr (some v1) (some v2))
theorem compLoop_pairIf {P : Program} {w : World} {A : Around} {s : Shared} {elt iter : Expr} {ifs : List Expr} {es : List Expr} {x1 : Nat} {tp : Pos} {scope : Scope} {pos : Pos} {it acc : Value} {env : Env} {R : Result → Shared → Prop} (I : Nat → Shared → Prop)
    (turn : ∀ n s, I n s → wpAny (model P w) A (pyNext it) (fun r s₁ => match r with
      | none => R (.ok .next) s₁
      | some v => wpAny (model P w) A (letOwnedTupleGo (.Tuple es x1 tp) it v) (fun _ s₁' => wpAny (model P w) A (assign (.Tuple es x1 tp) env v) (fun _ s₂ =>
          wpAny (model P w) A (forIn ifs true fun c r => if r = true then do let ok ← isTrue c env (eval c env); pure (ForInStep.yield ok) else pure (ForInStep.yield r)) (fun ok s₃ =>
            if ok = true then wpAny (model P w) A (eval elt env) (fun x s₄ =>
              wpAny (model P w) A (call (.builtin "list.append") [acc, x]) (fun _ s₅ => ∃ m, m < n ∧ I m s₅) (notedBy (model P w) A env fun e s' => R (.error e) s') s₄) (notedBy (model P w) A env fun e s' => R (.error e) s') s₃
            else ∃ m, m < n ∧ I m s₃) (notedBy (model P w) A env fun e s' => R (.error e) s') s₂)
          (notedBy (model P w) A env fun e s' => R (.error e) s') s₁') (notedBy (model P w) A env fun e s' => R (.error e) s') s₁) (notedBy (model P w) A env fun e s' => R (.error e) s') s)
    (n : Nat) (h : I n s) : codeAny (model P w) A (.compLoop (.ListComp elt [⟨.Tuple es x1 tp, iter, ifs, 0⟩] scope pos) 0 it acc env) R s := by
  refine codeAny_loop rfl I (fun m s1 hI => ?_) n h
  show wpAny _ A ((compTurn (.ListComp elt [⟨.Tuple es x1 tp, iter, ifs, 0⟩] scope pos) 0 it acc env).onRaise (fun x => do noteFrame x env; theTreesLotGoes x)) _ _ s1
  refine wpAny_noted ?_
  rw [compTurn_list]
  refine wpAny_bind (wpAny_standAt (wpAny_bind (wpAny_mono (turn m s1 hI) (fun r s2 k2 => ?_) fun _ _ z => z)))
  cases r with
  | none => exact wpAny_pure k2
  | some v =>
    refine wpAny_bind (wpAny_mono k2 (fun _ s3 k3 => ?_) fun _ _ z => z)
    refine wpAny_bind (wpAny_mono k3 (fun _ s4 k4 => wpAny_bind (wpAny_mono k4 (fun ok s5 k5 => ?_) fun _ _ z => z)) fun _ _ z => z)
    cases ok with
    | false => exact wpAny_pure ⟨rfl, k5⟩
    | true =>
      exact wpAny_bind (wpAny_bind (wpAny_mono k5 (fun x s6 k6 => wpAny_bind (wpAny_mono k6 (fun _ s7 k7 => wpAny_pure (wpAny_pure ⟨rfl, k7⟩)) fun _ _ z => z)) fun _ _ z => z))
def CompPIEnd (K : PySem.W.Frag) (J : It) (Q : VK) (H1 : Hp) (tc : TT) (te : TE) (σ : V → V → St) : Prop := ∀ acc, H1 acc = none → ∃ W : Nat → Nat → Hp → List V → Prop, (∃ m, W 0 m (upd H1 acc (.lst [])) []) ∧
  ∀ i m H' vs, W i m H' vs → H' acc = some (.lst vs) ∧ ((J.stop i H' ∧ Q (.ref acc) H') ∨ (J.go i H' ∧ vs.length < sizeLine ∧ ∀ x H2, J.yld i H' x H2 → ∃ (t : Addr) (v1 v2 : V), x = .ref t ∧ SqT K H2 t [v1, v2] ∧ tc (σ v1 v2) H2 fun b H3 =>
    if b = true then te (σ v1 v2) H3 fun y H4 => H4 acc = some (.lst vs) ∧ ∃ m', m' < m ∧ W (i + 1) m' (upd H4 acc (.lst (vs ++ [y]))) (vs ++ [y]) else ∃ m', m' < m ∧ W (i + 1) m' H3 vs))
def tCompPI (K : PySem.W.Frag) (wi : TI) (fr : List Nat) (tc : TT) (te : TE) : TE := fun σ H Q => wi σ H fun J H1 => CompPIEnd K J Q H1 tc te (fun v1 v2 => compSt2 σ fr (some v1) (some v2))
section
variable {X : Cx} {N : List Str} {fr : List Nat} {x x2 : Str} {scope : Scope} {cl : List (Str × Addr)} {elt iter : Expr} {px px2 tp pos : Pos} {kt : Nat} {wi : TI} {te : TE}
theorem cxC_ok2 {pins : List (Addr × Obj)} {σ : St} {H : Hp} {s : Shared} {fp : List Addr} {C : Addr} (S : CompScope2 X N fr x x2 scope cl) (I : Inv X pins σ H s) (hf : ∀ b ∈ fp, FpOk X pins H b) (hC : s.heap.objs.size ≤ C) (hfl : ∀ b ∈ fp, b < s.heap.objs.size) : (cxC X N scope cl C s H fp pins).Ok where
  mod := I.ok.mod
  kind := S.kind
  glob := I.ok.glob
  blt := I.ok.blt
  above := hC
  inj := fun y z c h1 h2 => I.ok.inj y z c (S.sub _ _ h1) (S.sub _ _ h2)
  has := fun y h => S.has y h
  cab := fun y c h => by cases h
  hd := I.ok.hd
  hs := I.ok.hs
  frames := I.ok.frames
  stk := .inl rfl
  exf := fun b hb => ⟨Nat.ne_of_lt (Nat.lt_of_lt_of_le (hfl b hb) hC), fun y c h => (hf b hb).2.2.2.2.1 y c (S.sub _ _ h)⟩
  bs := fun b o e => I.bs b o e
  bsz := Nat.le_trans I.ok.bsz I.sz
  noex := fun b o e hb => by
    rcases (hf b hb).2.2.2.1 with z | z
    · exact I.ok.noex b o e z
    · exact absurd (Nat.lt_of_lt_of_le (Heap.lt_size e) (Nat.le_trans I.ok.bsz z)) (Nat.lt_irrefl _)
  exfs := fun b hb z => by
    rcases List.mem_cons.mp (I.stkSub b z) with e | e
    · exact (hf b hb).2.1 e
    · exact (hf b hb).2.2.1 e
  funs := I.stack
  frf := I.stkFree
theorem cxC_start2 {pins : List (Addr × Obj)} {σ : St} {H : Hp} {s s4 : Shared} {fp : List Addr} {C : Addr} {m : Str → Option Value} (S : CompScope2 X N fr x x2 scope cl) (I : Inv X pins σ H s) (hf : ∀ b ∈ fp, FpOk X pins H b) (hC : s.heap.objs.size ≤ C) (hfl : ∀ b ∈ fp, b < s.heap.objs.size)
    (hn : s4.heap.Ns C m) (hk : ∀ b o, s.heap.get? b = some o → s4.heap.get? b = some o) (ho : s4.os = s.os) (hg : s4.gens = s.gens) : Inv (cxC X N scope cl C s H fp pins) [] (compSt2 σ fr none none) H s4 := by
  obtain ⟨m0, hn0, hl⟩ := id I.loc
  refine ⟨cxC_ok2 S I hf hC hfl, I.fzs, ho, by rw [hg]; exact I.bare, Un.kept hk, ⟨m, hn, fun i y v e1 e2 e3 => ?_⟩, fun y c h => ?_, I.hok.fresh hC, fun y c h => I.freeC y c (S.sub _ _ h), fun p hp => ?_, I.hok.kept hk, ?_⟩
  · match i, e1, e2 with
    | 0, e1, e2 => cases e2
    | 1, e1, e2 => cases e2
    | j + 2, e1, e2 =>
      have e2' : (fr.map fun k => (σ[k]?).join)[j]? = some (some v) := e2
      rw [List.getElem?_map] at e2'
      cases ek : fr[j]? with
      | none => rw [ek] at e2'; cases e2'
      | some k =>
        rw [ek] at e2'
        have e4 : (σ[k]?).join = some v := Option.some.inj e2'
        obtain ⟨y', h1, h2, h3⟩ := S.out j k ek
        have e1' : N[j + 2]? = some y := e1
        obtain rfl : y' = y := Option.some.inj (h1.symm.trans e1')
        have e5 : σ[k]? = some (some v) := by
          cases q : σ[k]? with
          | none => rw [q] at e4; cases e4
          | some w => rw [q] at e4; exact congrArg some e4
        obtain ⟨u, r, lk⟩ := hl k y' v h2 e5 (.inr (.inl h3))
        refine ⟨u, r, .inr ?_⟩
        rcases lk with ⟨z, _⟩ | ⟨_, c, hc, hcell⟩
        · rw [h3] at z; cases z
        · have e6 : Vis (relabel scope X.env) y' := e3
          have hk2 : (relabel scope X.env).names.lookup y' = some .cell ∨ (relabel scope X.env).names.lookup y' = some .free := by
            rcases e6 with e6 | e6 | e6
            · exfalso
              have nd := S.nd
              -- a name of the block's own is the first one
              exact S.ownOnly _ _ h1 e6
            · exact .inl e6
            · exact .inr e6
          obtain ⟨c2, hc2⟩ := S.has y' hk2
          have := S.sub _ _ hc2
          rw [hc] at this; cases this
          obtain ⟨o, z1, z2⟩ := hcell
          exact ⟨hk2, c, hc2, o, hk _ _ z1, z2⟩
  · obtain ⟨v, o, z1, z2⟩ := I.cell y c (S.sub _ _ h)
    exact ⟨v, o, hk _ _ z1, z2⟩
  · rw [List.append_nil] at hp
    obtain ⟨e, k, ne, nf, d⟩ := I.pin p hp
    refine ⟨hk _ _ e, k, Nat.ne_of_lt (Nat.lt_of_lt_of_le (Heap.lt_size e) hC), fun z => ?_, d⟩
    rcases List.mem_cons.mp (I.stkSub _ z) with q | q
    · exact ne q
    · exact nf q
  · show (compSt2 σ fr none none).length = N.length
    rw [S.len]
    simp [compSt2]
theorem comp_core2 {ifs : List Expr} {tc : TT} {use : Option (Value → Sem Unit)} {R : Value → Shared → Prop} {Q : VK} {pins : List (Addr × Obj)} {s : Shared} {σ : St} {H : Hp} {ep : Pos} (hc : X.still = true) (S : CompScope2 X N fr x x2 scope cl) (hi : PI X (.Tuple [.Name x px, .Name x2 px2] kt tp) iter wi)
    (ht : ∀ (C : Addr) (s0 : Shared) (H0 : Hp) (fp : List Addr) (pins : List (Addr × Obj)), PTs (cxC X N scope cl C s0 H0 fp pins) ifs tc) (he : ∀ (C : Addr) (s0 : Shared) (H0 : Hp) (fp : List Addr) (pins : List (Addr × Obj)), PE (cxC X N scope cl C s0 H0 fp pins) elt te)
    (hs : ∀ y, foldedSetIterable iter X.env y = pure y) (I : Inv X pins σ H s) (h : tCompPI X.K wi fr tc te σ H Q)
    (fin : ∀ (acc C : Addr) (m : Str → Option Value) (H6 : Hp) (s7 : Shared), Q (.ref acc) H6 → s7.heap.Ns C m → (∀ h' : Heap, Heap.SameBut C s7.heap h' → Inv X pins σ H6 { s7 with heap := h' }) → H6 C = none → X.env.locals ≠ C → (∀ z c, X.env.cells.lookup z = some c → c ≠ C) → (∀ p ∈ X.pn ++ pins, p.1 ≠ C) → X.s₀.heap.objs.size ≤ C → compPost (model X.prog X.w) X.A X.xe use R (.ref acc) C (.ok .next) s7) :
    wpAny (model X.prog X.w) X.A (comprehension (.ListComp elt [⟨.Tuple [.Name x px, .Name x2 px2] kt tp, iter, ifs, 0⟩] scope pos) scope X.env ep (newList []) false (eval iter X.env) use) R X.xe s := by
  refine wpAny_comprehension_free (use := use) rfl hs S.clos S.kind S.loc (thn (hi pins s σ H _ I h) fun v s1 h1 => thn h1 fun itv s2 h2 => ?_)
  obtain ⟨it, fp, tn, J, H2, e, I2, T, st2, f2, hW⟩ := h2
  subst e
  have hfl : ∀ b ∈ fp, b < s2.heap.objs.size := fun b hb => by
    obtain ⟨o, q, _⟩ := T.obj _ _ st2 b hb
    exact Heap.lt_size q
  have hfr : H2 s2.heap.objs.size = none := I2.hok.fresh (Nat.le_refl _)
  refine wpAny_newObj_type ?_
  have keep3 : ∀ b o, s2.heap.get? b = some o → (s2.heap.push { cls := .type "list", dict := none, data := .seq ([] : List Value).toArray }).get? b = some o := fun b o q => Heap.get?_push_of_some _ q
  have I3 : Inv X pins σ (upd H2 s2.heap.objs.size (.lst [])) { s2 with heap := s2.heap.push { cls := .type "list", dict := none, data := .seq ([] : List Value).toArray } } :=
    I2.laid (t' := s2.toks) keep3 (Nat.le_refl _) ⟨Nat.zero_le _, [], 0, .nil, Heap.get?_push_size _ rfl⟩
  obtain ⟨W, ⟨m0, w0⟩, turn⟩ := hW s2.heap.objs.size hfr
  have f3 : ∀ b ∈ fp, FpOk X pins (upd H2 s2.heap.objs.size (.lst [])) b := fun b hb => ⟨by rw [upd_ne (Nat.ne_of_lt (hfl b hb))]; exact (f2 b hb).1, (f2 b hb).2⟩
  refine wpAny_newFunctionEnv S.nocell (by intro y hy; simp at hy) (fun h4 hns hsb => ?_) S.kind
  have hfl3 : ∀ b ∈ fp, b < (s2.heap.push { cls := .type "list", dict := none, data := .seq ([] : List Value).toArray }).objs.size := fun b hb => by
    rw [Heap.size_push]
    exact Nat.lt_succ_of_lt (hfl b hb)
  have keep4 : ∀ b o, (s2.heap.push { cls := .type "list", dict := none, data := .seq ([] : List Value).toArray }).get? b = some o → h4.get? b = some o := fun b o q =>
    (hsb.2 b (Nat.ne_of_lt (Heap.lt_size q))).trans (Heap.get?_push_of_some _ q)
  have I4 : Inv (cxC X N scope cl (s2.heap.push { cls := .type "list", dict := none, data := .seq ([] : List Value).toArray }).objs.size { s2 with heap := s2.heap.push { cls := .type "list", dict := none, data := .seq ([] : List Value).toArray } } (upd H2 s2.heap.objs.size (.lst [])) fp pins) [] (compSt2 σ fr none none) (upd H2 s2.heap.objs.size (.lst []))
      { s2 with heap := h4, toks := s2.toks + ([] : List (Str × Value)).length } := cxC_start2 S I3 f3 (Nat.le_refl _) hfl3 hns keep4 rfl rfl
  have st4 : tn 0 h4 := T.keep _ _ _ st2 fun b hb o q => keep4 b o (keep3 b o q)
  generalize hY : cxC X N scope cl (s2.heap.push { cls := .type "list", dict := none, data := .seq ([] : List Value).toArray }).objs.size { s2 with heap := s2.heap.push { cls := .type "list", dict := none, data := .seq ([] : List Value).toArray } } (upd H2 s2.heap.objs.size (.lst [])) fp pins = Y at I4
  have hel : PE Y elt te := hY ▸ he _ _ _ _ _
  have htl : PTs Y ifs tc := hY ▸ ht _ _ _ _ _
  have eA : Y.A = X.A := by rw [← hY]; rfl
  have eP : Y.prog = X.prog := by rw [← hY]; rfl
  have ew : Y.w = X.w := by rw [← hY]; rfl
  have eK : Y.K = X.K := by rw [← hY]; rfl
  have eC : Y.still = true := by rw [← hY]; exact hc
  have eE : Y.env = compEnvC scope cl (s2.heap.push { cls := .type "list", dict := none, data := .seq ([] : List Value).toArray }).objs.size X.env := by rw [← hY]; rfl
  have eX : Y.xe = fun _ _ => False := by rw [← hY]; rfl
  have hg : PG Y (.Tuple [.Name x px, .Name x2 px2] kt tp) (gTup Y.K 2 (gCons (gName 0) (gCons (gName 1) gNil))) := by
    refine pg_tup eC (pgs_cons ?_ (pgs_cons ?_ pgs_nil)) (by rfl) (by rfl)
    · subst hY
      exact pg_name (i := 0) S.nd S.hN (.inl (lookup_relabel_local S.own)) (.inr (lookup_relabel_local S.own))
    · subst hY
      exact pg_name (i := 1) S.nd S.hN2 (.inl (lookup_relabel_local S.own2)) (.inr (lookup_relabel_local S.own2))
  have fY : ∀ {H' : Hp}, (∀ b ∈ fp, H' b = none) → ∀ b ∈ fp, FpOk Y [] H' b := fun {H'} hn b hb => by
    subst hY
    obtain ⟨_, g2, g3, g4, g5, g6⟩ := f3 b hb
    refine ⟨hn b hb, Nat.ne_of_lt (hfl3 b hb), fun z => ?_, .inl hb, fun y c q => g5 y c (S.sub _ _ q), fun p hp => ?_⟩
    · rcases List.mem_cons.mp (I3.stkSub b z) with q | q
      · exact g2 q
      · exact g3 q
    · rw [List.append_nil] at hp
      exact g6 p hp
  have loop : ∀ s5 : Shared, s5 = { s2 with heap := h4, toks := s2.toks + ([] : List (Str × Value)).length } →
      codeAny (model X.prog X.w) X.A (.compLoop (.ListComp elt [⟨.Tuple [.Name x px, .Name x2 px2] kt tp, iter, ifs, 0⟩] scope pos) 0 (.ref it) (.ref s2.heap.objs.size) (compEnvC scope cl (s2.heap.push { cls := .type "list", dict := none, data := .seq ([] : List Value).toArray }).objs.size X.env))
        (compPost (model X.prog X.w) X.A X.xe use R (.ref s2.heap.objs.size) (s2.heap.push { cls := .type "list", dict := none, data := .seq ([] : List Value).toArray }).objs.size) s5 := by
    rintro s5 rfl
    refine compLoop_pairIf (fun n s' => ∃ i v v2 H' vs, Inv Y [] (compSt2 σ fr v v2) H' s' ∧ tn i s'.heap ∧ (∀ b ∈ fp, H' b = none) ∧ W i n H' vs) ?_ m0 ⟨0, none, none, _, [], I4, st4, fun b hb => (f3 b hb).1, w0⟩
    rintro n s6 ⟨i, v6, v62, H6, vs, I6, st6, fr6, w6⟩
    obtain ⟨hacc, hgo⟩ := turn i n H6 vs w6
    rcases hgo with ⟨stop, qn⟩ | ⟨go, hz, step⟩
    · have hd := T.done Y eP ew eK eC i [] s6 _ H6 (fun _ _ => False) I6 (fY fr6) st6 stop
      rw [eA] at hd
      refine wpAny_mono hd (fun r s7 ⟨hr, I7⟩ => ?_) fun _ _ z => z.elim
      subst hr
      obtain ⟨m, hn, _⟩ := id I7.loc
      rw [eE] at hn
      have hend : ∀ h' : Heap, Heap.SameBut (s2.heap.push { cls := .type "list", dict := none, data := .seq ([] : List Value).toArray }).objs.size s7.heap h' → Inv X pins σ H6 { s7 with heap := h' } := fun h' hs' => by
        subst hY
        exact cxC_end I3 f3 (Nat.le_refl _) I7 hs'
      have cf : H6 (s2.heap.push { cls := .type "list", dict := none, data := .seq ([] : List Value).toArray }).objs.size = none := by
        subst hY
        exact I7.free
      have big : ∀ b o, s2.heap.get? b = some o → b ≠ (s2.heap.push { cls := .type "list", dict := none, data := .seq ([] : List Value).toArray }).objs.size := fun b o q => Nat.ne_of_lt (by rw [Heap.size_push]; exact Nat.lt_succ_of_lt (Heap.lt_size q))
      obtain ⟨m2, hn2, _⟩ := id I2.loc
      obtain ⟨oL, _, _, hoL, _⟩ := id hn2
      exact fin _ _ m H6 s7 qn hn hend cf (big _ _ hoL) (fun z c q => by
        obtain ⟨_, o, w1, _⟩ := I2.cell z c q
        exact big _ _ w1) (fun p hp => by
        obtain ⟨e, _⟩ := I2.pin p hp
        exact big _ _ e) (by
        rw [Heap.size_push]
        exact Nat.le_succ_of_le (Nat.le_trans (Nat.le_refl _) I2.sz))
    · have hd := T.item Y eP ew eK eC i [] s6 _ H6 (fun _ _ => False) I6 (fY fr6) st6 go
      rw [eA] at hd
      refine wpAny_mono hd (fun r s7 ⟨u, hr, h7⟩ => ?_) fun _ _ z => z.elim
      subst hr
      refine wpAny_mono h7 (fun _ s8 ⟨y, H8, I8, r8, y8, st8, fr8⟩ => ?_) fun _ _ z => z.elim
      have I8' := I8.pinned (fY fr8) (T.obj _ _ st8)
      obtain ⟨ta, va, vb, ey, hta, step'⟩ := step y _ y8
      have h9 := hg _ s8 _ H8 y u (fun σ9 H9 => σ9 = compSt2 σ fr (some va) (some vb) ∧ H9 = H8) I8' r8 ⟨ta, [va, vb], ey, by rw [eK]; exact hta, rfl, va, [vb], rfl, vb, [], rfl, rfl, rfl, rfl⟩
      rw [eA, eP, ew, eE, eX] at h9
      refine wpAny_mono h9 (fun _ s9 ⟨σ9, H9, I9, e9, e9'⟩ => ?_) fun _ _ z => z.elim
      subst e9 e9'
      have ht10 := htl _ s9 _ _ _ I9 step'
      rw [eA, eP, ew, eE, eX] at ht10
      refine wpAny_mono ht10 (fun ok s9t ⟨H9t, I9t, q9t⟩ => ?_) fun _ _ z => z.elim
      cases ok with
      | false =>
        rw [if_neg Bool.false_ne_true] at q9t
        rw [if_neg Bool.false_ne_true]
        obtain ⟨m', hm, w10⟩ := q9t
        refine ⟨m', hm, i + 1, some va, some vb, _, vs, I9t.unpinned, T.keep _ _ _ st8 fun b hb o q => (I9t.pin (b, o) (List.mem_append_right _ (List.mem_append_right _ (mem_pinsAt hb q)))).1, fun b hb => ?_, w10⟩
        obtain ⟨o, q, _⟩ := T.obj _ _ st8 b hb
        exact (I9t.pin (b, o) (List.mem_append_right _ (List.mem_append_right _ (mem_pinsAt hb q)))).2.1
      | true =>
      rw [if_pos rfl] at q9t
      rw [if_pos rfl]
      have h10 := hel _ s9t _ _ _ I9t q9t
      rw [eA, eP, ew, eE, eX] at h10
      refine wpAny_mono h10 (fun u10 s10 ⟨z10, H10, I10, r10, a10, m', hm, w10⟩ => ?_) fun _ _ z => z.elim
      have h11 := mt_append _ s10 _ H10 (.ref s2.heap.objs.size) [z10] (.ref s2.heap.objs.size) [u10] (fun _ H11 => H11 = upd H10 s2.heap.objs.size (.lst (vs ++ [z10]))) I10 rfl (.cons r10 .nil) ⟨_, vs, z10, rfl, rfl, a10, hz, rfl⟩
      rw [eA, eP, ew, eX] at h11
      refine wpAny_mono h11 (fun _ s11 ⟨_, H11, I11, _, e11⟩ => ?_) fun _ _ z => z.elim
      subst e11
      refine ⟨m', hm, i + 1, some va, some vb, _, vs ++ [z10], I11.unpinned, T.keep _ _ _ st8 fun b hb o q => (I11.pin (b, o) (List.mem_append_right _ (List.mem_append_right _ (mem_pinsAt hb q)))).1, fun b hb => ?_, w10⟩
      obtain ⟨o, q, _⟩ := T.obj _ _ st8 b hb
      exact (I11.pin (b, o) (List.mem_append_right _ (List.mem_append_right _ (mem_pinsAt hb q)))).2.1
  exact codeAny_compStart_list (loop _ rfl) (T.self _ 0 _ _ _ st4 (loop _ rfl))
end
end L2

namespace L2
open PySem PySem.Spec PyProof.Rows

structure CompScopeK (X : Cx) (N : List Str) (fr : List Nat) (x : Str) (scope : Scope) (cl : List (Str × Addr)) : Prop where
  kind : scope.kind = .function
  hcf : ∀ n : Nat, cellsFrom n scope.names cl = (x, n) :: cl
  hpc : ∀ h : Heap, pushCells h scope.names = h.push { cls := .type "cell", data := .cell none }
  loc : ∀ y ∈ scope.names, y.2 = .local → scope.names.lookup y.1 = some .local
  own : (relabel scope X.env).names.lookup x = some .cell
  clos : closureFor scope X.env = pure cl
  sub : ∀ y c, cl.lookup y = some c → X.env.cells.lookup y = some c
  has : ∀ y, ((relabel scope X.env).names.lookup y = some .cell ∨ (relabel scope X.env).names.lookup y = some .free) → y = x ∨ ∃ c, cl.lookup y = some c
  nd : N.Nodup
  hN : N[0]? = some x
  len : N.length = fr.length + 1
  ownOnly : ∀ (j : Nat) (y : Str), N[j + 1]? = some y → (relabel scope X.env).names.lookup y ≠ some .local
  out : ∀ (j k : Nat), fr[j]? = some k → ∃ y, N[j + 1]? = some y ∧ X.N[k]? = some y ∧ X.env.kindOf y = some .cell
def cxK (X : Cx) (N : List Str) (x : Str) (scope : Scope) (cl : List (Str × Addr)) (C : Addr) (s0 : Shared) (H0 : Hp) (fp : List Addr) (pins : List (Addr × Obj)) : Cx :=
  { X with N := N, s₀ := s0, H₀ := H0, env := compEnvC scope ((x, C + 1) :: cl) C X.env, outer := X.stack, ex := fp, fn := fun y => y == x, pn := X.pn ++ pins, xe := fun _ _ => False }
section
variable {X : Cx} {N : List Str} {fr : List Nat} {x : Str} {scope : Scope} {cl : List (Str × Addr)} {elt iter : Expr} {px pos : Pos} {wi : TI} {te : TE}
end
end L2

namespace L2
open PySem PySem.Spec PyProof.Rows
end L2

namespace L2
open PySem PySem.Spec PyProof.Rows
section
variable {P : Program} {w : World} {A : Around} {E : Value → Shared → Prop} {s : Shared}
theorem tnext_item {j a : Addr} {i : Nat} {us : Array Value} {u : Value} {Q : Value → Shared → Prop} (g0 : s.heap.IsTupleIter j a i) (g1 : s.heap.IsTuple a us) (ex : us[i]? = some u)
    (q : ∀ h', h'.IsTupleIter j a (i + 1) → Heap.SameBut j s.heap h' → Q u { s with heap := h' }) : wpAny (model P w) A (Builtin.SmallTypes.nextOf (.ref j)) Q E s := by
  obtain ⟨o1, k1, k2, k3⟩ := id g0
  obtain ⟨o2, k4, _, n2, k5⟩ := g1
  unfold Builtin.SmallTypes.nextOf
  refine wpAny_bind (wpAny_callSpecial?_slot (name := Str.ofString "__next__") g0.typeIs F.slot_tuple_iterator_next (wpAny_call_entry F.slot_tuple_iterator_next g0.typeIs F.entry_tuple_iterator_next ?_ (F.args_tuple_iterator_next_1 _)))
  show wpAny _ _ (field (.ref j) 0 >>= _) _ _ s
  refine wpAny_bind (wpAny_field k1 k3 (x := .ref a) rfl ?_)
  show wpAny _ _ (if (Value.ref a == Value.none) = true then _ else _) _ _ s
  rw [if_neg (show ¬ ((Value.ref a == Value.none) = true) from Bool.false_ne_true)]
  show wpAny _ _ (field (.ref j) 1 >>= _) _ _ s
  refine wpAny_bind (wpAny_field k1 k3 (x := .int i 0) rfl ?_)
  show wpAny _ _ (seqItems? (.ref a) >>= _) _ _ s
  refine wpAny_bind (wpAny_seqItems k4 k5 ?_)
  simp only [Int.toNat_natCast, ex]
  refine wpAny_bind (wpAny_setField k1 k3 (by simp) (wpAny_pure ⟨u, rfl, wpAny_pure (q _ ?_ (Heap.SameBut.update ..))⟩))
  refine ⟨_, Heap.get?_update_self _ k1 (Obj.isFreed_of_fields (Obj.data_mapFields k3 _)), (Obj.cls_mapFields ..).trans k2, ?_⟩
  rw [Obj.data_mapFields k3]
  simp [rawInt]
structure ZT (z TI TO j1 j2 a1 a2 : Addr) (us vs : Array Value) (i : Nat) (f0 : Value) (h : Heap) : Prop where
  zip : IsZip h z TI TO f0
  its : IsPair h TI (.ref j1) (.ref j2)
  to : ∃ a b, IsPair h TO a b
  i1 : h.IsTupleIter j1 a1 i
  i2 : h.IsTupleIter j2 a2 i
theorem zt_item {z TI TO j1 j2 a1 a2 : Addr} {us vs : Array Value} {i : Nat} {u v : Value} {Q : Value → Shared → Prop} (D : ZipApart z TI TO j1 j2 a1 a2) (Z : ZT z TI TO j1 j2 a1 a2 us vs i .none s.heap)
    (t1 : s.heap.IsTuple a1 us) (t2 : s.heap.IsTuple a2 vs) (eu : us[i]? = some u) (ev : vs[i]? = some v)
    (q : ∀ h', ZT z TI TO j1 j2 a1 a2 us vs (i + 1) (rawInt s.heap.objs.size) h' → IsPair h' s.heap.objs.size u v → h'.objs.size = s.heap.objs.size + 1 →
      (∀ c o, c ≠ z → c ≠ TO → c ≠ j1 → c ≠ j2 → s.heap.get? c = some o → h'.get? c = some o) → Q (.ref s.heap.objs.size) { s with heap := h' }) :
    wpAny (model P w) A (Builtin.«zip.__next__» ⟨[.ref z], []⟩) (fun fin s' => ∃ v, fin = .done (.ret v) ∧ Q v s') E s := by
  obtain ⟨hz, hI, ⟨p1, p2, hO⟩, y1, y2⟩ := Z
  show wpAny _ _ (field (.ref z) (1 + 1) >>= _) _ _ _
  refine wpAny_bind (wpAny_field hz rfl (x := .bool false) rfl ?_); show wpAny _ _ (field (.ref z) (2 + 1) >>= _) _ _ _
  refine wpAny_bind (wpAny_field hz rfl (x := .ref TI) rfl (wpAny_bind (wpAny_seqItems hI rfl ?_)))
  refine wpAny_bind (m := Builtin.SmallTypes.ownedTupleIsFree (.ref z)) ?_
  unfold Builtin.SmallTypes.ownedTupleIsFree; refine wpAny_bind (wpAny_field hz rfl (x := .none) rfl (wpAny_pure ?_))
  simp only [if_true]
  refine wpAny_bind (wpAny_rule (wpAny_bind (wpAny_field hz rfl (x := .ref TO) rfl ?_)))
  refine wpAny_bind (wpAny_setField_rec hz (by simp) fun w1 hz1 b1 => ?_)
  replace hz1 : IsZip w1 z TI TO .ellipsis := hz1
  refine wpAny_bind ?_
  simp only [List.zipIdx_cons, List.zipIdx_nil, List.forIn_cons, List.forIn_nil]; refine wpAny_bind (wpAny_bind (wpAny_onRaise ?_))
  refine wpAny_bind (m := Builtin.SmallTypes.nextOf (.ref j1)) (tnext_item (y1.extBut b1.extBut D.i1z) (t1.extBut b1.extBut D.l1z) eu fun w2 y12 b2 => wpAny_pure ?_)
  have hO2 : IsPair w2 TO p1 p2 := b2.extBut _ _ D.TOi1 (b1.extBut _ _ D.TOz hO)
  refine wpAny_bind (wpAny_seqItems hO2 rfl (wpAny_bind (wpAny_updateSeq_pair hO2 fun w3 hO3 b3 => ?_)))
  replace hO3 : IsPair w3 TO u p2 := hO3
  refine wpAny_bind (wpAny_letGo (wpAny_pure ?_)); refine wpAny_bind (wpAny_bind (wpAny_onRaise ?_))
  refine wpAny_bind (m := Builtin.SmallTypes.nextOf (.ref j2)) (tnext_item (((y2.extBut b1.extBut D.i2z).extBut b2.extBut D.i12.symm).extBut b3.extBut D.TOi2.symm) (((t2.extBut b1.extBut D.l2z).extBut b2.extBut D.l2i1).extBut b3.extBut D.l2TO) ev fun w4 y24 b4 => wpAny_pure ?_)
  have hO4 : IsPair w4 TO u p2 := b4.extBut _ _ D.TOi2 hO3
  refine wpAny_bind (wpAny_seqItems hO4 rfl (wpAny_bind (wpAny_updateSeq_pair hO4 fun w5 hO5 b5 => ?_)))
  replace hO5 : IsPair w5 TO u v := hO5
  refine wpAny_bind (wpAny_letGo (wpAny_pure (wpAny_pure ?_))); refine wpAny_bind (wpAny_seqItems hO5 rfl (wpAny_bind (wpAny_newTuple ?_)))
  have size5 : w5.objs.size = s.heap.objs.size := by rw [b5.1, b4.1, b3.1, b2.1, b1.1]
  have hz5 : IsZip w5 z TI TO .ellipsis := b5.extBut _ _ D.TOz.symm (b4.extBut _ _ D.i2z.symm (b3.extBut _ _ D.TOz.symm (b2.extBut _ _ D.i1z.symm hz1)))
  have kept5 : ∀ c o, c ≠ z → c ≠ TO → c ≠ j1 → c ≠ j2 → s.heap.get? c = some o → w5.get? c = some o := fun c o c1 c2 c3 c4 e => b5.extBut _ _ c2 (b4.extBut _ _ c4 (b3.extBut _ _ c2 (b2.extBut _ _ c3 (b1.extBut _ _ c1 e))))
  have y15 : w5.IsTupleIter j1 a1 (i + 1) := ((y12.extBut b3.extBut D.TOi1.symm).extBut b4.extBut D.i12).extBut b5.extBut D.TOi1.symm
  have y25 : w5.IsTupleIter j2 a2 (i + 1) := y24.extBut b5.extBut D.TOi2.symm
  have zlt : z < w5.objs.size := Heap.lt_size hz5
  refine wpAny_bind (m := Builtin.SmallTypes.ownedTupleHandOut (.ref z) (.ref w5.objs.size)) ?_
  unfold Builtin.SmallTypes.ownedTupleHandOut
  have hz6 : IsZip (w5.push { cls := .type "tuple", data := .seq #[u, v] }) z TI TO .ellipsis := Heap.get?_push_of_some _ hz5
  refine wpAny_bind (wpAny_setField_rec hz6 (by simp) fun w7 hz7 b7 => ?_)
  replace hz7 : IsZip w7 z TI TO (rawInt w5.objs.size) := hz7
  refine wpAny_setField_rec hz7 (by simp) fun w8 hz8 b8 => ?_
  replace hz8 : IsZip w8 z TI TO (rawInt w5.objs.size) := hz8
  have up : ∀ c o, c ≠ z → w5.get? c = some o → w8.get? c = some o := fun c o c1 e => b8.extBut _ _ c1 (b7.extBut _ _ c1 (Heap.get?_push_of_some _ e))
  have new8 : IsPair w8 w5.objs.size u v := b8.extBut _ _ (Nat.ne_of_gt zlt) (b7.extBut _ _ (Nat.ne_of_gt zlt) (Heap.get?_push_size _ rfl))
  have size8 : w8.objs.size = w5.objs.size + 1 := by rw [b8.1, b7.1, Heap.size_push]
  rw [size5] at hz8 new8 size8
  refine wpAny_pure ⟨_, rfl, ?_⟩
  show Q (.ref w5.objs.size) _
  rw [size5]
  exact q w8 ⟨hz8, up _ _ D.TIz (kept5 _ _ D.TIz D.TITO D.TIi1 D.TIi2 hI), ⟨_, _, up _ _ D.TOz hO5⟩, (let ⟨o, e, r⟩ := y15; ⟨o, up _ _ D.i1z e, r⟩), (let ⟨o, e, r⟩ := y25; ⟨o, up _ _ D.i2z e, r⟩)⟩ new8 size8 fun c o c1 c2 c3 c4 e => up c o c1 (kept5 c o c1 c2 c3 c4 e)
theorem zt_end {z TI TO j1 j2 a1 a2 : Addr} {us vs : Array Value} {i : Nat} {Q : Fin → Shared → Prop} (ha : Still A s.heap) (nz : A.handled ≠ some (.ref z)) (nj : A.handled ≠ some (.ref j1)) (D : ZipApart z TI TO j1 j2 a1 a2) (Z : ZT z TI TO j1 j2 a1 a2 us vs i .none s.heap)
    (t1 : s.heap.IsTuple a1 us) (eu : us[i]? = none)
    (q : ∀ h' e, (∀ c o, c ≠ z → c ≠ TO → c ≠ j1 → c ≠ j2 → s.heap.get? c = some o → h'.get? c = some o) → (∃ o, h'.get? e = some o ∧ o.cls = .type "StopIteration") → E (.ref e) { s with heap := h' }) :
    wpAny (model P w) A (Builtin.«zip.__next__» ⟨[.ref z], []⟩) Q E s := by
  obtain ⟨hz, hI, ⟨p1, p2, hO⟩, y1, y2⟩ := Z
  show wpAny _ _ (field (.ref z) (1 + 1) >>= _) _ _ _
  refine wpAny_bind (wpAny_field hz rfl (x := .bool false) rfl ?_); show wpAny _ _ (field (.ref z) (2 + 1) >>= _) _ _ _
  refine wpAny_bind (wpAny_field hz rfl (x := .ref TI) rfl (wpAny_bind (wpAny_seqItems hI rfl ?_)))
  refine wpAny_bind (m := Builtin.SmallTypes.ownedTupleIsFree (.ref z)) ?_
  unfold Builtin.SmallTypes.ownedTupleIsFree; refine wpAny_bind (wpAny_field hz rfl (x := .none) rfl (wpAny_pure ?_))
  simp only [if_true]
  refine wpAny_bind (wpAny_rule (wpAny_bind (wpAny_field hz rfl (x := .ref TO) rfl ?_)))
  refine wpAny_bind (wpAny_setField_rec hz (by simp) fun w1 hz1 b1 => ?_)
  replace hz1 : IsZip w1 z TI TO .ellipsis := hz1
  refine wpAny_bind ?_
  simp only [List.zipIdx_cons, List.zipIdx_nil, List.forIn_cons, List.forIn_nil]; refine wpAny_bind (wpAny_bind (wpAny_onRaise ?_))
  refine wpAny_bind (m := Builtin.SmallTypes.nextOf (.ref j1)) (tnext_end_still (ha.mono fun e o hh h => b1.extBut _ _ (fun x => nz (by rw [← x]; exact hh)) h) nj (y1.extBut b1.extBut D.i1z) (t1.extBut b1.extBut D.l1z) eu fun w2 e b2 he => ?_)
  obtain ⟨oe, e1, e2⟩ := he
  have hz2 : IsZip w2 z TI TO .ellipsis := b2 _ _ D.i1z.symm hz1
  have ez : e ≠ z := fun x => by
    subst x
    rw [hz2] at e1; cases e1; simp at e2
  exact wpAny_setField_rec hz2 (by simp) fun w3 _ b3 => q w3 e (fun c o c1 _ c3 _ x => b3.extBut _ _ c1 (b2 _ _ c3 (b1.extBut _ _ c1 x))) ⟨oe, b3.extBut _ _ ez e1, e2⟩
theorem zt_new (a1 a2 : Addr) (us vs : Array Value) :
    Meets (Builtin.«zip.__new__» ⟨[.type "zip", .ref a1, .ref a2], []⟩) (fun _ R s => s.heap.IsTuple a1 us ∧ s.heap.IsTuple a2 vs ∧
      ∀ h', (∀ c o, s.heap.get? c = some o → h'.get? c = some o) → ZT (s.heap.objs.size + 4) (s.heap.objs.size + 2) (s.heap.objs.size + 3) s.heap.objs.size (s.heap.objs.size + 1) a1 a2 us vs 0 .none h' → h'.objs.size = s.heap.objs.size + 5 → R (.ok (.ret (.ref (s.heap.objs.size + 4)))) { s with heap := h' }) :=
  .of_wp fun prog w A R s h => by
    obtain ⟨hp, g, d, tk, os⟩ := s; obtain ⟨t1, t2, h⟩ := h
    have hsub := sub_zip
    have T1 : Heap.IsTuple (Shared.heap ⟨hp, g, d, tk, os⟩) a1 us := t1
    have T2 : Heap.IsTuple (Shared.heap ⟨hp.push { cls := .type "tuple_iterator", data := .fields #[.ref a1, .int 0 0] }, g, d, tk, os⟩) a2 vs := t2.push _
    wp_walk using wpAny_pyIter_tuple T1, wpAny_pyIter_tuple T2
    refine ⟨_, rfl, ?_⟩
    simp only [Heap.size_push]
    refine h _ (fun c o e => Heap.get?_push_of_some _ (Heap.get?_push_of_some _ (Heap.get?_push_of_some _ (Heap.get?_push_of_some _ (Heap.get?_push_of_some _ e))))) ⟨?_, ?_, ⟨.none, .none, ?_⟩, ⟨_, Heap.get?_push_of_some _ (Heap.get?_push_of_some _ (Heap.get?_push_of_some _ (Heap.get?_push_of_some _ (Heap.get?_push_size _ rfl)))), rfl, rfl⟩, ⟨_, Heap.get?_push_of_some _ (Heap.get?_push_of_some _ (Heap.get?_push_of_some _ (Heap.get?_push_at (by simp only [Heap.size_push]) rfl))), rfl, rfl⟩⟩ (by simp only [Heap.size_push])
    · exact Heap.get?_push_at (by simp only [Heap.size_push]) rfl
    · exact Heap.get?_push_of_some _ (Heap.get?_push_of_some _ (Heap.get?_push_at (by simp only [Heap.size_push]) rfl))
    · exact Heap.get?_push_of_some _ (Heap.get?_push_at (by simp only [Heap.size_push]) rfl)
theorem zt_call {a1 a2 : Addr} {us vs : Array Value} {Q : Value → Shared → Prop} (t1 : s.heap.IsTuple a1 us) (t2 : s.heap.IsTuple a2 vs)
    (q : ∀ h', (∀ c o, s.heap.get? c = some o → h'.get? c = some o) → ZT (s.heap.objs.size + 4) (s.heap.objs.size + 2) (s.heap.objs.size + 3) s.heap.objs.size (s.heap.objs.size + 1) a1 a2 us vs 0 .none h' → h'.objs.size = s.heap.objs.size + 5 → Q (.ref (s.heap.objs.size + 4)) { s with heap := h' }) :
    wpAny (model P w) A (call (.type "zip") [.ref a1, .ref a2]) Q E s := by
  refine callType_new F.called_zip (by decide) (F.typeCall_zip_2 _ _) (F.newCall_zip_2 _ _) (fun obj => F.args_object_init_3 obj _ _) F.entry_zip_new (zt_new a1 a2 us vs) ⟨t1, t2, fun h' k Z sz => ?_⟩
  exact ⟨⟨_, Z.zip, rfl⟩, q h' k Z sz⟩
end
def Itz (K : PySem.W.Frag) (a b : Addr) : It :=
  ⟨fun i H => ∃ xs ys x y, SqT K H a xs ∧ SqT K H b ys ∧ xs[i]? = some x ∧ ys[i]? = some y,
   fun i H v H' => ∃ t x y, v = .ref t ∧ H t = none ∧ H' = upd H t (.tup [x, y]) ∧ (∀ xs, SqT K H a xs → xs[i]? = some x) ∧ ∀ ys, SqT K H b ys → ys[i]? = some y,
   fun i H => ∃ xs ys, SqT K H a xs ∧ SqT K H b ys ∧ xs.length ≤ i⟩
theorem Inv.turnedM {X : Cx} {pins : List (Addr × Obj)} {σ : St} {H : Hp} {s : Shared} {h' : Heap} {t' : Nat} {fp : List Addr} (I : Inv X pins σ H s) (k : ∀ b o, b ∉ fp → s.heap.get? b = some o → h'.get? b = some o) (hf : ∀ b ∈ fp, FpOk X pins H b) : Inv X pins σ H { s with heap := h', toks := t' } := by
  have nf : ∀ b u, H b = some u → b ∉ fp := fun b u e z => by
    have := (hf b z).1
    rw [this] at e; cases e
  have U : Un (frs X.stack) fp H H s.heap h' := ⟨fun b o e _ _ hx => k b o hx e, fun b o e _ _ hx => ⟨o.slots, k b o hx e⟩, fun _ _ _ n _ => n, fun b o e hx => ⟨o, k b o hx e⟩, fun _ _ e => e, fun _ _ _ e => e, fun b ps e => ⟨#[], by rw [e]; simp⟩⟩
  refine I.call' (s' := { s with heap := h', toks := t' }) (ch := fp) rfl U (I.hok.onward fun b o hb e => k b o (fun z => hb (hf b z).1) e) I.bare fun b hb => ?_
  obtain ⟨_, f1, _, f3, f4, f5⟩ := hf b hb
  exact ⟨f3, f1, f4, f5⟩
theorem turn_zip {P : Program} {w : World} {K : PySem.W.Frag} {elts : List Expr} {kt : Nat} {tp : Pos} {z TI TO j1 j2 a b : Addr} (D : ZipApart z TI TO j1 j2 a b) (us vs : Array Value) :
    Turn P w K (.Tuple elts kt tp) (Itz K a b) [z, TI, TO, j1, j2] z (fun i h => ZT z TI TO j1 j2 a b us vs i .none h) where
  mem := by simp
  obj := fun i h st c hc => by
    obtain ⟨hz, hI, ⟨p1, p2, hO⟩, y1, y2⟩ := st
    simp only [List.mem_cons, List.not_mem_nil, or_false] at hc
    rcases hc with rfl | rfl | rfl | rfl | rfl
    · exact ⟨_, hz, fun v q => by cases q⟩
    · exact ⟨_, hI, fun v q => by cases q⟩
    · exact ⟨_, hO, fun v q => by cases q⟩
    · obtain ⟨o, e, c, d⟩ := y1
      exact ⟨o, e, fun v q => by rw [d] at q; cases q⟩
    · obtain ⟨o, e, c, d⟩ := y2
      exact ⟨o, e, fun v q => by rw [d] at q; cases q⟩
  keep := fun i h h' st k => by
    obtain ⟨hz, hI, ⟨p1, p2, hO⟩, y1, y2⟩ := st
    exact ⟨k z (by simp) _ hz, k TI (by simp) _ hI, ⟨p1, p2, k TO (by simp) _ hO⟩, (let ⟨o, e, r⟩ := y1; ⟨o, k j1 (by simp) _ e, r⟩), (let ⟨o, e, r⟩ := y2; ⟨o, k j2 (by simp) _ e, r⟩)⟩
  item := by
    intro X hP hw hK hc i pins s σ H E I hf st hg
    subst hP hw hK
    obtain ⟨xs, ys, x, y, qx, qy, ex, ey⟩ := hg
    obtain ⟨its, rx, px, lx⟩ := I.tuple qx
    obtain ⟨its', ry, py, ly⟩ := I.tuple qy
    obtain ⟨u, hu, ru⟩ := rx.get ex
    obtain ⟨v, hv, rv⟩ := ry.get ey
    have ht : s.TypeIs (.ref z) "zip" := ⟨_, st.zip, rfl⟩
    unfold pyNext
    have st' : ZT z TI TO j1 j2 a b its.toArray its'.toArray i .none s.heap := ⟨st.zip, st.its, st.to, st.i1, st.i2⟩
    refine wpAny_bind (wpAny_attempt (wpAny_callSpecial?_slot (name := Str.ofString "__next__") ht F.slot_zip_next (wpAny_call_entry F.slot_zip_next ht F.entry_zip_next
      (zt_item D st' px py (u := u) (v := v) (by simpa using hu) (by simpa using hv) fun h' Z np sz k => wpAny_pure ?_) (F.args_zip_next_1 _))))
    refine ⟨_, rfl, wpAny_letOwnedTupleGo_zip Z.zip fun h2 hz2 b2 => ?_⟩
    have szl : z < s.heap.objs.size := Heap.lt_size st.zip
    have k2 : ∀ c o, c ∉ [z, TI, TO, j1, j2] → s.heap.get? c = some o → h2.get? c = some o := fun c o hc e => by
      simp only [List.mem_cons, List.not_mem_nil, or_false, not_or] at hc
      exact b2.extBut _ _ hc.1 (k c o hc.1 hc.2.2.1 hc.2.2.2.1 hc.2.2.2.2 e)
    have I2 : Inv X pins σ H { s with heap := h2 } := I.turnedM (t' := s.toks) k2 hf
    have np2 : IsPair h2 s.heap.objs.size u v := b2.extBut _ _ (Nat.ne_of_gt szl) np
    have fr : H s.heap.objs.size = none := I.hok.fresh (Nat.le_refl _)
    have I3 : Inv X pins σ (upd H s.heap.objs.size (.tup [x, y])) { s with heap := h2 } := by
      have U : Un (frs X.stack) [z, TI, TO, j1, j2] H (upd H s.heap.objs.size (.tup [x, y])) s.heap h2 :=
        ⟨fun c o e _ _ hx => k2 c o hx e, fun c o e _ _ hx => ⟨o.slots, k2 c o hx e⟩, fun c o e n _ => (by rw [upd_ne (Nat.ne_of_lt (Heap.lt_size e))]; exact n), fun c o e hx => ⟨o, k2 c o hx e⟩,
          fun c zs e => (by rw [upd_ne (ne_of_none e fr)]; exact e), fun c o w e => (by rw [upd_ne (ne_of_none e fr)]; exact e), fun c ps e => ⟨#[], by rw [upd_ne (ne_of_none e fr), e]; simp⟩⟩
      refine I.call' (s' := { s with heap := h2 }) (ch := [z, TI, TO, j1, j2]) rfl U (I2.hok.more fr ?_) I.bare fun c hc => ?_
      · exact ⟨by show 2 ≤ sizeLine; decide, [u, v], .cons ru (.cons rv .nil), ⟨_, np2, rfl, _, rfl⟩⟩
      · obtain ⟨_, f1, _, f3, f4, f5⟩ := hf c hc
        exact ⟨f3, f1, f4, f5⟩
    refine ⟨.ref s.heap.objs.size, _, I3, rfl, ⟨_, x, y, rfl, fr, rfl, fun zs hz => by rw [I.tuple_inj hz qx]; exact ex, fun zs hz => by rw [I.tuple_inj hz qy]; exact ey⟩, ?_, fun c hc => ?_⟩
    · obtain ⟨o1, e1, r1⟩ := Z.i1
      obtain ⟨o2, e2, r2⟩ := Z.i2
      obtain ⟨p1, p2, e3⟩ := Z.to
      exact ⟨hz2, b2.extBut _ _ D.TIz Z.its, ⟨p1, p2, b2.extBut _ _ D.TOz e3⟩, ⟨o1, b2.extBut _ _ D.i1z e1, r1⟩, ⟨o2, b2.extBut _ _ D.i2z e2, r2⟩⟩
    · have h0 := (hf c hc).1
      rw [upd_ne ?_]
      · exact h0
      · have st2 := st
        obtain ⟨hz, hI, ⟨p1, p2, hO⟩, ⟨o1, y1, _⟩, ⟨o2, y2, _⟩⟩ := st2
        simp only [List.mem_cons, List.not_mem_nil, or_false] at hc
        rcases hc with rfl | rfl | rfl | rfl | rfl
        · exact Nat.ne_of_lt (Heap.lt_size hz)
        · exact Nat.ne_of_lt (Heap.lt_size hI)
        · exact Nat.ne_of_lt (Heap.lt_size hO)
        · exact Nat.ne_of_lt (Heap.lt_size y1)
        · exact Nat.ne_of_lt (Heap.lt_size y2)
  done := by
    intro X hP hw hK hc i pins s σ H E I hf st hg
    subst hP hw hK
    obtain ⟨xs, ys, qx, qy, ln⟩ := hg
    obtain ⟨its, rx, px, lx⟩ := I.tuple qx
    have ht : s.TypeIs (.ref z) "zip" := ⟨_, st.zip, rfl⟩
    have hl := rx.length
    unfold pyNext
    have st' : ZT z TI TO j1 j2 a b its.toArray vs i .none s.heap := ⟨st.zip, st.its, st.to, st.i1, st.i2⟩
    refine wpAny_bind (wpAny_attempt (wpAny_callSpecial?_slot (name := Str.ofString "__next__") ht F.slot_zip_next (wpAny_call_entry F.slot_zip_next ht F.entry_zip_next
      (zt_end (I.stl hc) (I.stn hc (hf z (by simp)).1) (I.stn hc (hf j1 (by simp)).1) D st' px (by simp; omega) fun h' e k he => ?_) (F.args_zip_next_1 _))))
    obtain ⟨o, ho, hce⟩ := he
    refine wpAny_bind (wpAny_isInstance (T := "StopIteration") (b := true) ⟨o, ho, hce⟩ isSubtype_stop ?_)
    refine wpAny_pure ⟨rfl, I.turnedM (t' := s.toks) (fun c o hc e => ?_) hf⟩
    simp only [List.mem_cons, List.not_mem_nil, or_false, not_or] at hc
    exact k c o hc.1 hc.2.2.1 hc.2.2.2.1 hc.2.2.2.2 e
  self := fun _ _ _ _ _ st h => wpAny_pyIter_zip st.zip h
def iZip (K : PySem.W.Frag) (ta : TA) : TI := fun σ H R => ta σ H fun vs H1 => ∃ (a b : Addr) (xs ys : List V), vs = [.ref a, .ref b] ∧ SqT K H1 a xs ∧ SqT K H1 b ys ∧ R (Itz K a b) H1
theorem pi_zip {X : Cx} {elts : List Expr} {kt : Nat} {tp : Pos} {a b : Expr} {ta : TA} {p pos : Pos} (hg : Gl X "zip") (hm : X.mg "zip" = none) (ha : PA X [a, b] ta) (hs : starEach [a, b] X.env = [(false, eval a X.env), (false, eval b X.env)] := by rfl) (hs2 : starEach [b] X.env = [(false, eval b X.env)] := by rfl) :
    PI X (.Tuple elts kt tp) (.Call (.Name "zip" p) [a, b] [] pos) (iZip X.K ta) := by
  intro pins s σ H R I h
  refine Call_ (ld_blt I hg hm boot_zip (PyProof.Rows.callWith_type1 (thn (ha pos pins s σ H _ I h) fun us s1 ⟨vs, H1, I1, r1, q1⟩ => ?_) (by rw [hs, hs2]) (by rw [hs2]; rfl)))
  obtain ⟨x, y, xs, ys, e, qx, qy, q⟩ := q1
  subst e
  cases r1 with
  | cons r rr =>
    cases rr with
    | cons r' rr =>
      cases rr
      cases r
      cases r'
      obtain ⟨its, rx, px, lx⟩ := I1.tuple qx
      obtain ⟨its', ry, py, ly⟩ := I1.tuple qy
      refine zt_call (us := its.toArray) (vs := its'.toArray) px py fun h' k Z sz => ?_
      refine wpAny_pyIter_zip Z.zip ?_
      have I2 : Inv X pins σ H1 { s1 with heap := h' } := I1.kept (t' := s1.toks) k
      have l1 : x < s1.heap.objs.size := by
        obtain ⟨o, e, _⟩ := px
        exact Heap.lt_size e
      have l2 : y < s1.heap.objs.size := by
        obtain ⟨o, e, _⟩ := py
        exact Heap.lt_size e
      refine ⟨_, [s1.heap.objs.size + 4, s1.heap.objs.size + 2, s1.heap.objs.size + 3, s1.heap.objs.size, s1.heap.objs.size + 1], _, _, H1, rfl, I2, turn_zip (zipApart_new l1 l2) its.toArray its'.toArray, Z, fun c hc => ?_, q⟩
      have big : s1.heap.objs.size ≤ c := by
        simp only [List.mem_cons, List.not_mem_nil, or_false] at hc
        rcases hc with rfl | rfl | rfl | rfl | rfl <;> simp
      exact I1.fpOk big (I1.hok.fresh big)
end L2

namespace L2
open PySem PySem.Spec PyProof.Rows
def tSetCP (K : PySem.W.Frag) (wi : TI) (fr : List Nat) (te : TE) (k : Nat) : TS := fun D σ H => tCompP K wi fr te σ H fun v H' => D.nx (σ.set k (some v)) H'
section
variable {X : Cx} {N : List Str} {fr : List Nat} {x x2 : Str} {scope : Scope} {cl : List (Str × Addr)} {elt iter : Expr} {px px2 tp pos : Pos} {kt : Nat} {wi : TI} {te : TE}
end
theorem outs_ok {X : Cx} {own : List Str} {ys : List Str} {ks : List Nat} (hl : ks.length = ys.length) (hk : ∀ p ∈ ks.zip ys, X.N[p.1]? = some p.2 ∧ X.env.kindOf p.2 = some .cell) : ∀ (j k : Nat), ks[j]? = some k → ∃ y, (own ++ ys)[j + own.length]? = some y ∧ X.N[k]? = some y ∧ X.env.kindOf y = some .cell := by
  intro j k h
  have hj : j < ks.length := (List.getElem?_eq_some_iff.mp h).1
  have hj2 : j < ys.length := by omega
  refine ⟨ys[j], by rw [List.getElem?_append_right (by omega)]; simp [hj2], ?_⟩
  have m : (k, ys[j]) ∈ ks.zip ys := by
    refine List.mem_of_getElem? (i := j) ?_
    rw [List.getElem?_zip_eq_some]
    exact ⟨h, by simp [hj2]⟩
  exact hk _ m
theorem lookup_mem_all {cl : List (Str × Addr)} {P : Str → Addr → Prop} (h : ∀ p ∈ cl, P p.1 p.2) {y : Str} {c : Addr} (e : cl.lookup y = some c) : P y c := h _ (PySem.mem_of_lookup e)
theorem has_of {ns' : List (Str × NameKind)} {cl : List (Str × Addr)} (h : ∀ p ∈ ns', p.2 = .cell ∨ p.2 = .free → (cl.lookup p.1).isSome = true) (y : Str) (e : ns'.lookup y = some .cell ∨ ns'.lookup y = some .free) : ∃ c, cl.lookup y = some c := by
  have : (cl.lookup y).isSome = true := by
    rcases e with e | e
    · exact h _ (PySem.mem_of_lookup e) (.inl rfl)
    · exact h _ (PySem.mem_of_lookup e) (.inr rfl)
  exact Option.isSome_iff_exists.mp this
theorem CompScope.gen {X : Cx} {x : Str} {scope : Scope} {cl : List (Str × Addr)} (ys : List Str) (ks : List Nat) (ns' : List (Str × NameKind)) (kind : scope.kind = .function) (nocell : ∀ z ∈ scope.names, z.2 ≠ .cell) (loc : ∀ z ∈ scope.names, z.2 = .local → scope.names.lookup z.1 = some .local) (own : scope.names.lookup x = some .local)
    (clos : closureFor scope X.env = pure cl) (sub : ∀ p ∈ cl, X.env.cells.lookup p.1 = some p.2) (rl : (relabel scope X.env).names = ns') (only : ∀ p ∈ ns', p.2 = .cell ∨ p.2 = .free → (cl.lookup p.1).isSome = true) (nd : (x :: ys).Nodup) (ny : ∀ y ∈ ys, ns'.lookup y ≠ some .local) (hl : ks.length = ys.length)
    (hk : ∀ p ∈ ks.zip ys, X.N[p.1]? = some p.2 ∧ X.env.kindOf p.2 = some .cell) : CompScope X (x :: ys) ks x scope cl := by
  subst rl
  refine ⟨kind, nocell, loc, own, clos, fun y c h => lookup_mem_all (P := fun y c => X.env.cells.lookup y = some c) sub h, has_of only, nd, rfl, by simp [hl], fun j y h => ?_, fun j k h => outs_ok (own := [x]) hl hk j k h⟩
  exact ny y (List.mem_of_getElem? (by simpa using h))
theorem CompScope2.gen {X : Cx} {x x2 : Str} {scope : Scope} {cl : List (Str × Addr)} (ys : List Str) (ks : List Nat) (ns' : List (Str × NameKind)) (kind : scope.kind = .function) (nocell : ∀ z ∈ scope.names, z.2 ≠ .cell) (loc : ∀ z ∈ scope.names, z.2 = .local → scope.names.lookup z.1 = some .local) (own : scope.names.lookup x = some .local) (own2 : scope.names.lookup x2 = some .local)
    (clos : closureFor scope X.env = pure cl) (sub : ∀ p ∈ cl, X.env.cells.lookup p.1 = some p.2) (rl : (relabel scope X.env).names = ns') (only : ∀ p ∈ ns', p.2 = .cell ∨ p.2 = .free → (cl.lookup p.1).isSome = true) (nd : (x :: x2 :: ys).Nodup) (ny : ∀ y ∈ ys, ns'.lookup y ≠ some .local) (hl : ks.length = ys.length)
    (hk : ∀ p ∈ ks.zip ys, X.N[p.1]? = some p.2 ∧ X.env.kindOf p.2 = some .cell) : CompScope2 X (x :: x2 :: ys) ks x x2 scope cl := by
  subst rl
  refine ⟨kind, nocell, loc, own, own2, clos, fun y c h => lookup_mem_all (P := fun y c => X.env.cells.lookup y = some c) sub h, has_of only, nd, rfl, rfl, by simp [hl], fun j y h => ?_, fun j k h => outs_ok (own := [x, x2]) hl hk j k h⟩
  exact ny y (List.mem_of_getElem? (by simpa using h))
end L2

namespace L2
open PySem PySem.Spec PyProof.Rows
def Laid (row : Nat → HO) (i : Nat) (vs : List V) (H : Hp) : Prop := ∃ rs : List Addr, vs = rs.map V.ref ∧ rs.length = i ∧ ∀ (j : Nat) (r : Addr), rs[j]? = some r → H r = some (row j)
end L2

namespace L2
open PySem PySem.Spec PyProof.Rows
section
variable {P : Program} {w : World} {A : Around} {E : Value → Shared → Prop}
end
def gLst (K : PySem.W.Frag) (n : Nat) (t : TGs) : TG := fun v σ H Q => ∃ a xs, v = .ref a ∧ SqL K H a xs ∧ xs.length = n ∧ t xs σ H Q
end L2

namespace L2
open PySem PySem.Spec PySem.Calls PyProof.Rows
section
variable {X : Cx} {N : List Str} {fr : List Nat} {x x2 : Str} {scope : Scope} {cl : List (Str × Addr)} {elt iter : Expr} {px px2 tp pos : Pos} {kt : Nat} {wi : TI} {te : TE}
theorem pe_compPairIf {cnd : Expr} {tc : TT} (hc : X.still = true) (S : CompScope2 X N fr x x2 scope cl) (hi : PI X (.Tuple [.Name x px, .Name x2 px2] kt tp) iter wi) (ht : ∀ (C : Addr) (s0 : Shared) (H0 : Hp) (fp : List Addr) (pins : List (Addr × Obj)), PT (cxC X N scope cl C s0 H0 fp pins) cnd tc) (he : ∀ (C : Addr) (s0 : Shared) (H0 : Hp) (fp : List Addr) (pins : List (Addr × Obj)), PE (cxC X N scope cl C s0 H0 fp pins) elt te)
    (hs : ∀ y, foldedSetIterable iter X.env y = pure y := by intro _; rfl) : PE X (.ListComp elt [⟨.Tuple [.Name x px, .Name x2 px2] kt tp, iter, [cnd], 0⟩] scope pos) (tCompPI X.K wi fr tc te) := by
  intro pins s σ H Q I h
  rw [eval_ListComp]
  exact comp_core2 (use := none) hc S hi (fun _ _ _ _ _ => pts_one (ht _ _ _ _ _)) he hs I h fun acc C m H6 s7 qn hn hend _ _ _ _ _ => ⟨m, hn, fun h' hs' => ⟨.ref acc, H6, hend h' hs', rfl, qn⟩⟩
end
end L2

namespace L2
open PySem PySem.Spec PyProof.Rows
def tPar3 (i j k : Nat) (ta : TA) : TS := fun D σ H => ta σ H fun vs H1 => ∃ v w z, vs = [v, w, z] ∧ D.nx (((σ.set i (some v)).set j (some w)).set k (some z)) H1
def tSetCI (wi : TI) (fr : List Nat) (tc : TT) (te : TE) (k : Nat) : TS := fun D σ H => tCompIfC wi fr tc te σ H fun v H' => D.nx (σ.set k (some v)) H'
end L2

namespace L2
open PySem PySem.Spec PyProof.Rows
def Ho (b : Bool) (xs : List V) : HO := match b with
  | true => .lst xs
  | false => .tup xs
def Sq (K : PySem.W.Frag) (H : Hp) (b : Bool) (a : Addr) (xs : List V) : Prop := match b with
  | true => SqL K H a xs
  | false => SqT K H a xs
def Itb (K : PySem.W.Frag) (b : Bool) (a : Addr) : It := match b with
  | true => Itl K a
  | false => Itt K a
def iSeq (K : PySem.W.Frag) (tl : TE) : TI := fun σ H R => tl σ H fun x H1 => ∃ a b xs, x = .ref a ∧ Sq K H1 b a xs ∧ R (Itb K b a) H1
def Its (lo st : Int) (n : Nat) : It := ⟨fun i _ => i < n, fun i H x H' => H' = H ∧ x = .int (lo + (i : Int) * st), fun i _ => n ≤ i⟩
section
variable {X : Cx} {tg : Expr}
def iRng3 (ta : TA) : TI := fun σ H R => ta σ H fun vs H1 => ∃ i j c : Int, vs = [.int i, .int j, .int c] ∧ c ≠ 0 ∧ Builtin.divisionGoesByPylong (j - i) c = false ∧ Builtin.Range.small i j c = true ∧ R (Its i c (Builtin.Range.rangeSize i j c).toNat) H1
end
def TupK (K : PySem.W.Frag) (a : Addr) (xs : List V) : Prop := ∃ (o : Obj) (its : Array Value) (n : Nat), K.lookup a = some o ∧ o.cls = .type "tuple" ∧ o.data = .seq its n ∧ its.size ≤ sizeLine ∧ Vals xs its.toList
theorem TupK.sq {K : PySem.W.Frag} {a : Addr} {xs : List V} (h : TupK K a xs) (H : Hp) : SqT K H a xs := .inr h
theorem TupK.mk {K : PySem.W.Frag} {a : Addr} {xs : List V} {od : Option Addr} {its : Array Value} {n : Nat} {sl : Array (Option Value)} (h : K.lookup a = some ⟨.type "tuple", od, .seq its n, sl⟩) (hz : its.size ≤ sizeLine) (hv : Vals xs its.toList) : TupK K a xs := ⟨_, its, n, h, rfl, rfl, hz, hv⟩
end L2

namespace L2
open PySem PySem.Spec PyProof.Rows Builtin Builtin.Str
def rStr2 (f : Str → Str → Bool) : V → List V → Hp → VK → Prop := fun x xs H Q => ∃ a b, x = .str a ∧ xs = [.str b] ∧ Q (.bl (f a b)) H
theorem mt_startswith {X : Cx} : MtR X "str.startswith" (rStr2 Txt.startswith) := by
  intro pins s σ H x vs v us Q I rx rv h
  obtain ⟨a, b, rfl, rfl, q⟩ := h
  obtain ⟨t, rfl⟩ := (show ∃ t, v = Value.str a t from rx)
  obtain ⟨u, rfl, ru⟩ := rv.one
  obtain ⟨t', rfl⟩ := (show ∃ t, u = Value.str b t from ru)
  exact SC.startswith ⟨.bl _, H, I, rfl, q⟩
theorem mt_endswith {X : Cx} : MtR X "str.endswith" (rStr2 Txt.endswith) := by
  intro pins s σ H x vs v us Q I rx rv h
  obtain ⟨a, b, rfl, rfl, q⟩ := h
  obtain ⟨t, rfl⟩ := (show ∃ t, v = Value.str a t from rx)
  obtain ⟨u, rfl, ru⟩ := rv.one
  obtain ⟨t', rfl⟩ := (show ∃ t, u = Value.str b t from ru)
  exact SC.endswith ⟨.bl _, H, I, rfl, q⟩
theorem vals_strs : ∀ {xs : List Str} {us : List Value}, Vals (xs.map V.str) us → ∃ l : List (Str × Tok), us = strValues l ∧ l.map (·.1) = xs
  | [], _, .nil => ⟨[], rfl, rfl⟩
  | x :: xs, _, .cons r t => by
    obtain ⟨k, rfl⟩ := (show ∃ k, _ = Value.str x k from r)
    obtain ⟨l, rfl, e⟩ := vals_strs t
    exact ⟨(x, k) :: l, rfl, by rw [List.map_cons, e]⟩
theorem strs_vals : ∀ (l : List (Str × Tok)), Vals ((l.map (·.1)).map V.str) (strValues l)
  | [] => .nil
  | (x, k) :: l => .cons ⟨k, rfl⟩ (strs_vals l)
def rJoin (K : PySem.W.Frag) : V → List V → Hp → VK → Prop := fun x xs H Q => ∃ a p ts, x = .str a ∧ xs = [.ref p] ∧ SqL K H p (ts.map V.str) ∧ JoinOk a ts = true ∧ Q (.str (Txt.join a ts)) H
theorem mt_join {X : Cx} : MtR X "str.join" (rJoin X.K) := by
  intro pins s σ H x vs v us Q I rx rv h
  obtain ⟨a, p, ts, rfl, rfl, hp, ok, q⟩ := h
  obtain ⟨t, rfl⟩ := (show ∃ t, v = Value.str a t from rx)
  obtain ⟨u, rfl, ru⟩ := rv.one
  obtain rfl : u = Value.ref p := ru
  obtain ⟨its, r, ht, hz⟩ := I.list hp
  obtain ⟨l, rfl, e⟩ := vals_strs r
  exact SC.join ht.isList e ok fun t' k => ⟨.str _, H, I.tok k, ⟨t', rfl⟩, q⟩
def rSplit : V → List V → Hp → VK → Prop := fun x xs H Q => ∃ a b, x = .str a ∧ xs = [.str b] ∧ (b.length == 0) = false ∧ a.length ≤ sizeLine ∧ (partsBetween a (occurrences a b 0 a.length (a.length + 1)) b.length).length ≤ sizeLine ∧ 1 ≤ sizeLine ∧ ∀ p, H p = none → Q (.ref p) (upd H p (.lst ((Txt.split a b).map V.str)))
theorem lay_strs {X : Cx} {pins : List (Addr × Obj)} {σ : St} {H : Hp} {s : Shared} {Q : VK} {ts : List Str} {l : List (Str × Tok)} {k : Nat} (I : Inv X pins σ H s) (e : l.map (·.1) = ts) (hz : ts.length ≤ sizeLine) (q : ∀ p, H p = none → Q (.ref p) (upd H p (.lst (ts.map V.str)))) :
    EP X pins σ Q (.ref s.heap.objs.size) { s with toks := k, heap := s.heap.push { cls := .type "list", data := .seq (strValues l).toArray } } := by
  refine ⟨.ref s.heap.objs.size, _, I.laid (t' := k) (o := .lst (ts.map V.str)) (fun b ob q => Heap.get?_push_of_some _ q) (Nat.le_refl _) ?_, rfl, q _ (I.hok.fresh (Nat.le_refl _))⟩
  exact ⟨by rw [List.length_map]; exact hz, _, 0, (by rw [← e]; exact strs_vals l), Heap.get?_push_size _ rfl⟩
theorem mt_split {X : Cx} : MtR X "str.split" rSplit := by
  intro pins s σ H x vs v us Q I rx rv h
  obtain ⟨a, b, rfl, rfl, hy, hz, hn, h1', q⟩ := h
  obtain ⟨t, rfl⟩ := (show ∃ t, v = Value.str a t from rx)
  obtain ⟨u, rfl, ru⟩ := rv.one
  obtain ⟨t', rfl⟩ := (show ∃ t, u = Value.str b t from ru)
  cases h1 : (decide (a.length < b.length) || decide (strKind a < strKind b))
  · cases hf : (occurrences a b 0 a.length (a.length + 1)).isEmpty
    · refine call_meets F.slot_str_split (typeIs_str _ _ _) F.entry_str_split (F.args_str_split_2 _ _) (meets_str_split_sep a b t t' h1 hy hf hz hn) ?_
      show wants _ _ _ { s with toks := _, heap := s.heap.push { cls := .type "list", data := .seq (strsFrom s.toks (partsBetween a (occurrences a b 0 a.length (a.length + 1)) b.length)).toArray } }
      rw [strsFrom_eq]
      have e : Txt.split a b = partsBetween a (occurrences a b 0 a.length (a.length + 1)) b.length := (if_neg (ne_true_of_eq_false h1)).trans (if_neg (ne_true_of_eq_false hf))
      exact lay_strs I (numbered_texts _ _) hn (by rw [← e]; exact q)
    · have e : Txt.split a b = [a] := (if_neg (ne_true_of_eq_false h1)).trans (if_pos hf)
      exact call_meets F.slot_str_split (typeIs_str _ _ _) F.entry_str_split (F.args_str_split_2 _ _) (meets_str_split_not_found a b t t' h1 hy hf) (lay_strs (l := [(a, t)]) I rfl h1' (by rw [e] at q; exact q))
  · have e : Txt.split a b = [a] := if_pos h1
    exact call_meets F.slot_str_split (typeIs_str _ _ _) F.entry_str_split (F.args_str_split_2 _ _) (meets_str_split_cannot_occur a b t t' h1) (lay_strs (l := [(a, t)]) I rfl h1' (by rw [e] at q; exact q))
theorem call_int_str {X : Cx} : CallR X (.type "int") (fun xs H Q => ∃ x n, xs = [.str x] ∧ PySem.intText? x = some n ∧ x.length ≤ 640 ∧ Q (.int n) H) := by
  intro pins s σ H xs us Q I r h
  obtain ⟨x, n, rfl, hn, hl, q⟩ := h
  obtain ⟨u, rfl, ru⟩ := r.one
  obtain ⟨t, rfl⟩ := (show ∃ t, u = Value.str x t from ru)
  exact PySem.W.KIN.call_text hn hl ⟨.int n, H, I.tok _, ⟨_, rfl⟩, q⟩
def rSlS : V → Option Int → Option Int → Hp → VK → Prop := fun x lo hi H Q => ∃ a, x = .str a ∧ a.length ≤ sizeLine ∧ Q (.str (Txt.slice a lo hi)) H
theorem sl_str {X : Cx} : SlR X rSlS := by
  intro pins s σ H x v vl vu lo hi sl Q I rx hs pl pu h
  obtain ⟨a, rfl, hz, q⟩ := h
  obtain ⟨t, rfl⟩ := (show ∃ t, v = Value.str a t from rx)
  refine ⟨"str", _, F.slot_str_getitem.lookup, typeIs_str _ _ _, ?_⟩
  have part : ∀ {v : Value} {o : Option Int}, IsPart v o → ∃ p : Option (Int × Tok), v = partValue p ∧ p.map (·.1) = o := fun h => by
    cases h with
    | none => exact ⟨none, rfl, rfl⟩
    | int i t => exact ⟨some (i, t), rfl, rfl⟩
  obtain ⟨l, rfl, el⟩ := part pl
  obtain ⟨u, rfl, eu⟩ := part pu
  refine wpAny_getItem_str_slice (l := l) (u := u) (st := none) hs rfl ?_
  subst el eu
  exact post_val_or_str ⟨Nat.le_trans (Txt.slice_le a _ _) hz, fun t' k => ⟨.str _, H, I.tok k, ⟨t', rfl⟩, q⟩⟩
end L2

namespace L2
open PySem PySem.Spec PyProof.Rows
section
variable {P : Program} {w : World} {A : Around} {E : Value → Shared → Prop} {s : Shared}
structure ZL (z TI TO j1 j2 a1 a2 : Addr) (us vs : Array Value) (i : Nat) (f0 : Value) (h : Heap) : Prop where
  zip : IsZip h z TI TO f0
  its : IsPair h TI (.ref j1) (.ref j2)
  to : ∃ a b, IsPair h TO a b
  i1 : h.IsListIter j1 a1 i
  i2 : h.IsTupleIter j2 a2 i
end
def Itzl (K : PySem.W.Frag) (a b : Addr) : It :=
  ⟨fun i H => ∃ xs ys x y, SqL K H a xs ∧ SqT K H b ys ∧ xs[i]? = some x ∧ ys[i]? = some y,
   fun i H v H' => ∃ t x y, v = .ref t ∧ H t = none ∧ H' = upd H t (.tup [x, y]) ∧ (∀ xs, SqL K H a xs → xs[i]? = some x) ∧ ∀ ys, SqT K H b ys → ys[i]? = some y,
   fun i H => ∃ xs ys, SqL K H a xs ∧ SqT K H b ys ∧ xs.length ≤ i⟩
def iZipL (K : PySem.W.Frag) (ta : TA) : TI := fun σ H R => ta σ H fun vs H1 => ∃ (a b : Addr) (xs ys : List V), vs = [.ref a, .ref b] ∧ SqL K H1 a xs ∧ SqT K H1 b ys ∧ R (Itzl K a b) H1
end L2

namespace L2
open PySem PySem.Spec PyProof.Rows Builtin Builtin.Str
theorem ascii_end_still {P : Program} {w : World} {A : Around} {E : Value → Shared → Prop} {s : Shared} {it : Addr} {x : Str} {t : Tok} {i : Nat} {Q : Option Value → Shared → Prop} (S : Still A s.heap) (ni : A.handled ≠ some (.ref it)) (hit : s.heap.IsStrIter it "str_ascii_iterator" x t i) (hx : x.cps[i]? = none)
    (q : ∀ h', Heap.ExtBut it s.heap h' → Q none { s with heap := h' }) : wpAny (model P w) A (pyNext (.ref it)) Q E s := by
  obtain ⟨o, ho, hc, hd⟩ := id hit
  unfold pyNext
  refine wpAny_bind (wpAny_attempt (wpAny_callSpecial?_slot (name := Str.ofString "__next__") hit.typeIs F.slot_str_ascii_iterator_next (wpAny_call_entry F.slot_str_ascii_iterator_next hit.typeIs F.entry_str_ascii_iterator_next ?_ (F.args_str_ascii_iterator_next_1 _))))
  show wpAny _ _ (field (.ref it) 0 >>= _) _ _ s
  refine wpAny_bind (wpAny_field ho hd (x := .str x t) rfl ?_)
  show wpAny _ _ (field (.ref it) 1 >>= _) _ _ s
  refine wpAny_bind (wpAny_field ho hd (x := .int i 0) rfl ?_)
  simp only [Int.toNat_natCast, hx]
  refine wpAny_bind (wpAny_rule (wpAny_bind (wpAny_setField ho hd (by simp) (wpAny_bind (wpAny_letGo ?_)))))
  refine stop_still (A := A.in1) (S.in1.mono fun e o' hh h => ?_) fun h' e k he => ?_
  · exact (Heap.SameBut.update ..).extBut _ _ (fun z => ni (by rw [← z]; exact hh)) h
  · obtain ⟨oe, e1, e2⟩ := he
    refine wpAny_bind (wpAny_isInstance (T := "StopIteration") (b := true) ⟨oe, e1, e2⟩ isSubtype_stop ?_)
    exact wpAny_pure (q _ fun b o' nb h => k _ _ ((Heap.SameBut.update ..).extBut _ _ nb h))
def Itx (x : Str) : It :=
 ⟨fun i _ => ∃ c, x.cps[i]? = some c, fun i H v H' => H' = H ∧ ∃ c, x.cps[i]? = some c ∧ v = .str ⟨#[c]⟩, fun i _ => x.cps.size ≤ i⟩
theorem turn_ascii {P : Program} {w : World} {K : PySem.W.Frag} {tg : Expr} (x : Str) (t : Tok) (it : Addr) : Turn P w K tg (Itx x) [it] it (fun i h => h.IsStrIter it "str_ascii_iterator" x t i) where
  mem := by simp
  obj := fun i h st b hb => by
    have e : b = it := by simpa using hb
    subst e
    obtain ⟨o, e, c, d⟩ := st
    exact ⟨o, e, fun v z => by rw [d] at z; cases z⟩
  keep := fun i h h' st k => let ⟨o, ho, r⟩ := st; ⟨o, k it (by simp) o ho, r⟩
  item := by
    intro X hP hw hK hc i pins s σ H E I hf st hg
    subst hP hw hK
    obtain ⟨c, hx⟩ := hg
    obtain ⟨f0, f1, f2, f3, f4, f5⟩ := hf it (by simp)
    refine wpAny_pyNext_ascii_item st hx fun h' st' sb => ?_
    have I1 : Inv X pins σ H { s with heap := h', toks := s.toks + 1 } := I.turned (t' := s.toks + 1) (fun b o hb e => (sb.2 b hb).trans e) f0 f1 f3 f4 f5
    obtain ⟨o, e, c', d⟩ := id st'
    exact ⟨_, rfl, go_of (s := { s with heap := h', toks := s.toks + 1 }) e c' d (by decide) ⟨.str ⟨#[c]⟩, H, I1, ⟨_, rfl⟩, ⟨rfl, c, hx, rfl⟩, st', fun b hb => (hf b hb).1⟩⟩
  done := by
    intro X hP hw hK hc i pins s σ H E I hf st hg
    subst hP hw hK
    obtain ⟨f0, f1, f2, f3, f4, f5⟩ := hf it (by simp)
    have hg' : x.cps.size ≤ i := hg
    exact ascii_end_still (I.stl hc) (I.stn hc f0) st (by simp; omega) fun h' eb => ⟨rfl, I.turned (t' := s.toks) (fun b o hb e => eb b o hb e) f0 f1 f3 f4 f5⟩
  self := fun _ _ _ _ _ st h => wpAny_pyIter_striter_ascii st h
def iStr (tl : TE) : TI := fun σ H R => tl σ H fun v H1 => ∃ x, v = .str x ∧ x.cps.all (· < 128) = true ∧ R (Itx x) H1
theorem pi_str {X : Cx} {tg l : Expr} {tl : TE} (hl : PE X l tl) : PI X tg l (iStr tl) := by
  intro pins s σ H R I h
  refine thn (hl pins s σ H _ I h) fun v s1 ⟨x', H1, I1, r1, q1⟩ => ?_
  obtain ⟨x, e, ha, q⟩ := q1
  subst e
  obtain ⟨t, rfl⟩ := (show ∃ t, v = Value.str x t from r1)
  refine wpAny_pyIter_ascii ha ?_
  refine ⟨s1.heap.objs.size, [s1.heap.objs.size], _, _, H1, rfl, I1.kept (t' := s1.toks) fun b o e => Heap.get?_push_of_some _ e, turn_ascii x t _, ⟨_, Heap.get?_push_size _ rfl, rfl, rfl⟩, fun b hb => ?_, q⟩
  have e : b = s1.heap.objs.size := by simpa using hb
  subst e
  exact I1.fpOk (Nat.le_refl _) (I1.hok.fresh (Nat.le_refl _))
def sgn (x : Str) : List V := x.cps.toList.map fun c => V.str ⟨#[c]⟩
theorem comp_strF {x : Str} {te : TE} {σ : V → St} {H : Hp} {Q : VK} (hn : (sgn x).length < sizeLine) (f : V → V)
    (he : ∀ (i : Nat) (v : V) (H' : Hp) (Q' : VK), (sgn x)[i]? = some v → Same H H' → (∀ H2, Same H' H2 → Q' (f v) H2) → te (σ v) H' Q')
    (q : ∀ p H', Same H H' → H p = none → H' p = some (.lst ((sgn x).map f)) → Q (.ref p) H') : CompEnd (Itx x) Q H te σ := by
  have get : ∀ i : Nat, (sgn x)[i]? = (x.cps[i]?).map fun c => V.str ⟨#[c]⟩ := fun i => by unfold sgn; rw [List.getElem?_map, Array.getElem?_toList]
  have len : (sgn x).length = x.cps.size := by unfold sgn; rw [List.length_map, Array.length_toList]
  generalize hS : sgn x = xs at *
  intro acc hacc
  refine ⟨fun i m H' vs => i ≤ xs.length ∧ m = xs.length - i ∧ Same H H' ∧ H' acc = some (.lst vs) ∧ vs = (xs.take i).map f, ⟨xs.length, Nat.zero_le _, by simp, same_new hacc _, upd_same, by simp⟩, ?_⟩
  rintro i m H' vs ⟨hi, rfl, g, ha, rfl⟩
  refine ⟨ha, ?_⟩
  by_cases h : i = xs.length
  · refine .inl ⟨(by show x.cps.size ≤ i; omega), q acc H' g hacc ?_⟩
    rw [ha, h, List.take_length]
  · have hlt : i < x.cps.size := by omega
    refine .inr ⟨⟨x.cps[i], by simp [hlt]⟩, by rw [List.length_map, List.length_take]; omega, ?_⟩
    rintro z H2 ⟨rfl, c, hc, rfl⟩
    have hz' : xs[i]? = some (.str ⟨#[c]⟩) := by rw [get, hc]; rfl
    refine he i _ H2 _ hz' g fun H3 g3 => ⟨g3 _ _ ha, xs.length - (i + 1), by omega, by omega, rfl, same_upd (g.trans g3) hacc, upd_same, ?_⟩
    rw [List.take_succ, hz', List.map_append]
    rfl
abbrev TJ := St → Hp → Str → (Str → Hp → Prop) → Prop
def PJ (X : Cx) (es : List Expr) (t : TJ) : Prop :=
  ∀ (pins : List (Addr × Obj)) (s : Shared) (σ : St) (H : Hp) (acc : Str) (Q : Str → Hp → Prop), Inv X pins σ H s → t σ H acc Q →
    Joins (model X.prog X.w) X.A X.xe (evalEach es X.env) acc (fun out s1 => out.length ≤ sizeLine ∧ ∃ H1, Inv X pins σ H1 s1 ∧ Q out H1) s
def jNil : TJ := fun _ H acc Q => acc.length ≤ sizeLine ∧ Q acc H
def jStr (c : Str) (t : TJ) : TJ := fun σ H acc Q => (acc ++ c).length ≤ sizeLine ∧ t σ H (acc ++ c) Q
def jVal (te : TE) (t : TJ) : TJ := fun σ H acc Q => te σ H fun v H1 => ∃ c : Str, ((v = .str c ∧ c.length ≤ sizeLine) ∨ ∃ n : Int, v = .int n ∧ n.natAbs.log2 < 1920 ∧ c = toString n) ∧ (acc ++ c).length ≤ sizeLine ∧ t σ H1 (acc ++ c) Q
theorem pj_nil {X : Cx} : PJ X [] jNil := by
  intro pins s σ H acc Q I h
  exact ⟨h.1, H, I, h.2⟩
theorem pj_str {X : Cx} {c : Str} {cj} {cp : Pos} {es : List Expr} {t : TJ} (ht : PJ X es t) : PJ X (.Constant (.str c) cj cp :: es) (jStr c t) := by
  intro pins s σ H acc Q I h
  exact Calls.Constant_str ⟨c, _, rfl, h.1, ht pins _ σ H _ Q (I.tok _) h.2⟩
theorem pj_val {X : Cx} {e : Expr} {p : Pos} {es : List Expr} {te : TE} {t : TJ} (he : PE X e te) (ht : PJ X es t) : PJ X (.FormattedValue e (-1) none p :: es) (jVal te t) := by
  intro pins s σ H acc Q I h
  refine wpAny_FormattedValue_plain (thn (he pins s σ H _ I h) fun u s1 ⟨v, H1, I1, r, c, hv, hl, q⟩ => ?_)
  rcases hv with ⟨rfl, hc⟩ | ⟨n, rfl, hn, rfl⟩
  · obtain ⟨k, rfl⟩ := (show ∃ k, u = Value.str c k from r)
    exact wpAny_formatField_str ⟨c, _, rfl, hl, ht pins _ σ H1 _ Q I1 q⟩ ⟨c, _, rfl, hl, ht pins _ σ H1 _ Q (I1.tok _) q⟩ hc
  · obtain ⟨k, rfl⟩ := (show ∃ k, u = Value.int n k from r)
    exact wpAny_formatField_int hn ⟨_, _, rfl, hl, ht pins _ σ H1 _ Q (I1.tok _) q⟩
theorem pe_fstr {X : Cx} {e1 e2 : Expr} {es : List Expr} {p : Pos} {t : TJ} (ht : PJ X (e1 :: e2 :: es) t) : PE X (.JoinedStr (e1 :: e2 :: es) p) (fun σ H Q => t σ H Str.empty fun c H1 => Q (.str c) H1) := by
  intro pins s σ H Q I h
  refine wpAny_JoinedStr ?_
  have mono : ∀ (l : List (Sem Value)) (acc : Str) (Q1 Q2 : Str → Shared → Prop) (s : Shared), (∀ o s', Q1 o s' → Q2 o s') → Joins (model X.prog X.w) X.A X.xe l acc Q1 s → Joins (model X.prog X.w) X.A X.xe l acc Q2 s := by
    intro l
    induction l with
    | nil => intro acc Q1 Q2 s f h; exact f _ _ h
    | cons x l ih =>
      intro acc Q1 Q2 s f h
      exact wpAny_mono h (fun v s1 ⟨y, t, e, hl, r⟩ => ⟨y, t, e, hl, ih _ _ _ _ f r⟩) fun _ _ z => z
  refine mono _ _ _ _ _ (fun out s1 ⟨hl, H1, I1, q⟩ => ⟨hl, ⟨.str out, H1, I1.tok _, ⟨_, rfl⟩, q⟩⟩) (ht pins s σ H Str.empty _ I h)
theorem compPI_zipF {K : PySem.W.Frag} {a b : Addr} {xs ys : List V} {tc : TT} {te : TE} {σ : V → V → St} {H : Hp} {Q : VK} (hx : ∀ H', Same H H' → SqT K H' a xs) (hy : ∀ H', Same H H' → SqT K H' b ys) (hl : xs.length = ys.length) (hn : xs.length < sizeLine) (p : V × V → Bool) (f : V × V → V)
    (ht : ∀ (i : Nat) (x y : V) (H' : Hp) (Q' : Bool → Hp → Prop), xs[i]? = some x → ys[i]? = some y → Same H H' → (∀ H2, Same H' H2 → Q' (p (x, y)) H2) → tc (σ x y) H' Q')
    (he : ∀ (i : Nat) (x y : V) (H' : Hp) (Q' : VK), xs[i]? = some x → ys[i]? = some y → p (x, y) = true → Same H H' → (∀ H2, Same H' H2 → Q' (f (x, y)) H2) → te (σ x y) H' Q')
    (q : ∀ l H', Same H H' → H l = none → H' l = some (.lst (((xs.zip ys).filter p).map f)) → Q (.ref l) H') : CompPIEnd K (Itz K a b) Q H tc te σ := by
  intro acc hacc
  have zl : (xs.zip ys).length = xs.length := by rw [List.length_zip, ← hl]; simp
  refine ⟨fun i m H' vs => i ≤ xs.length ∧ m = xs.length - i ∧ Same H H' ∧ H' acc = some (.lst vs) ∧ vs = (((xs.zip ys).take i).filter p).map f, ⟨xs.length, Nat.zero_le _, by simp, same_new hacc _, upd_same, by simp⟩, ?_⟩
  rintro i m H' vs ⟨hi, rfl, g, ha, rfl⟩
  refine ⟨ha, ?_⟩
  by_cases h : i = xs.length
  · refine .inl ⟨⟨xs, ys, hx _ g, hy _ g, by omega⟩, q acc H' g hacc ?_⟩
    rw [ha, h, ← zl, List.take_length]
  · have hlt : i < xs.length := by omega
    have hlt2 : i < ys.length := by omega
    refine .inr ⟨⟨xs, ys, xs[i], ys[i], hx _ g, hy _ g, by simp [hlt], by simp [hlt2]⟩, ?_, ?_⟩
    · rw [List.length_map]
      have h1 := List.length_filter_le p ((xs.zip ys).take i)
      rw [List.length_take] at h1
      omega
    rintro z H2 ⟨t, x, y, rfl, hft, rfl, ex, ey⟩
    have ex' := ex xs (hx _ g)
    have ey' := ey ys (hy _ g)
    have g2 : Same H' (upd H' t (.tup [x, y])) := same_new hft _
    have tk : (xs.zip ys).take (i + 1) = (xs.zip ys).take i ++ [(x, y)] := by
      rw [List.take_succ, (List.getElem?_zip_eq_some (z := (x, y))).mpr ⟨ex', ey'⟩]
      rfl
    refine ⟨t, x, y, rfl, SqT.of upd_same, ht i x y _ _ ex' ey' (g.trans g2) fun H3 g3 => ?_⟩
    cases e : p (x, y) with
    | true =>
      rw [if_pos rfl]
      refine he i x y H3 _ ex' ey' e (g.trans (g2.trans g3)) fun H4 g4 => ⟨g4 _ _ (g3 _ _ (g2 _ _ ha)), xs.length - (i + 1), by omega, by omega, rfl, same_upd (g.trans (g2.trans (g3.trans g4))) hacc, upd_same, ?_⟩
      rw [tk, List.filter_append, List.map_append, show [(x, y)].filter p = [(x, y)] by simp [e]]
      rfl
    | false =>
      rw [if_neg (by decide)]
      refine ⟨xs.length - (i + 1), by omega, by omega, rfl, g.trans (g2.trans g3), g3 _ _ (g2 _ _ ha), ?_⟩
      rw [tk, List.filter_append, show [(x, y)].filter p = [] by simp [e], List.append_nil]
end L2

namespace L2
open PySem PySem.Spec PyProof.Rows Builtin
def rng (n : Nat) : List V := (List.range n).map fun i => V.int (i : Nat)
theorem rng_vals : ∀ (n : Nat) (acc : Array Value), ItemsOf (fun i v => ∃ t, v = .int (0 + i * 1) t) acc n → Vals (rng n) acc.toList := by
  intro n acc h
  have gen : ∀ (xs : List Value) (k : Nat), (∀ (j : Nat) v, xs[j]? = some v → ∃ t, v = Value.int ((k + j : Nat) : Int) t) → Vals ((List.range' k xs.length).map fun i => V.int (i : Nat)) xs := by
    intro xs
    induction xs with
    | nil => intro k _; exact .nil
    | cons x xs ih =>
      intro k hx
      obtain ⟨t, rfl⟩ := hx 0 x rfl
      refine .cons ⟨t, rfl⟩ (ih (k + 1) fun j v hv => ?_)
      obtain ⟨t, e⟩ := hx (j + 1) v hv
      exact ⟨t, by rw [e, show k + (j + 1) = k + 1 + j by omega]⟩
  have hl : acc.toList.length = n := by rw [Array.length_toList]; exact h.1
  have := gen acc.toList 0 fun j v hv => by
    obtain ⟨t, e⟩ := h.2 j v (by simpa using hv)
    exact ⟨t, by rw [e]; congr 1; omega⟩
  rw [hl] at this
  unfold rng
  rw [List.range_eq_range']
  exact this
def tLRng (ta : TA) : TE := fun σ H Q => ta σ H fun vs H1 => ∃ n : Nat, vs = [.int n] ∧ n ≤ 2 ^ 20 ∧ ∀ l, H1 l = none → Q (.ref l) (upd H1 l (.lst (rng n)))
theorem pe_lrng {X : Cx} {a : Expr} {ta : TA} {p1 p2 pos pos2 : Pos} (hc : X.calm = true) (hgl : Gl X "list") (hml : X.mg "list" = none) (hg : Gl X "range") (hm : X.mg "range" = none) (ha : PA X [a] ta)
    (hs : starEach [a] X.env = [(false, eval a X.env)] := by rfl) (hs2 : starEach [.Call (.Name "range" p2) [a] [] pos] X.env = [(false, eval (.Call (.Name "range" p2) [a] [] pos) X.env)] := by rfl) :
    PE X (.Call (.Name "list" p1) [.Call (.Name "range" p2) [a] [] pos] [] pos2) (tLRng ta) := by
  intro pins s σ H Q I h
  refine wpAny_Call_Name_kw (ld_blt I hgl hml boot_list (PyProof.Rows.callWith_type1 ?_ hs2 rfl))
  rw [hs2]
  show wpAny _ _ (spliced ((false, eval (.Call (.Name "range" p2) [a] [] pos) X.env) :: backTo pos2 [])) _ _ s
  refine Calls.spliced_cons ?_
  refine wpAny_Call_Name_kw (ld_blt I hg hm boot_range (PyProof.Rows.callWith_type1 (thn (ha pos pins s σ H _ I h) fun us s1 ⟨vs, H1, I1, r1, q1⟩ => ?_) hs rfl))
  obtain ⟨n, rfl, hn, q⟩ := q1
  obtain ⟨u, rfl, ru⟩ := r1.one
  obtain ⟨t, rfl⟩ := (show ∃ t, u = Value.int n t from ru)
  refine call_range_1 (Calls.spliced_nil ?_)
  have I2 : Inv X pins σ H1 { s1 with heap := s1.heap.push { cls := .type "range", data := .fields #[.int 0 s1.toks, .int n t, .int 1 (s1.toks + 1)] }, toks := s1.toks + 1 + 1 } := I1.kept fun b o e => Heap.get?_push_of_some _ e
  refine call_list_range (n := n) (I2.ok.hd hc) (IsRange.new ..) (small_one (by omega) (by omega) (by omega) (by omega)) (by rw [rangeSize_one]; split <;> omega) (by omega) fun h' tk acc c' kp e it => ?_
  have hz : (rng n).length ≤ sizeLine := by
    unfold rng
    rw [List.length_map, List.length_range]
    exact Nat.le_trans hn (by decide)
  exact ⟨.ref _, _, I2.laid (t' := tk) (o := .lst (rng n)) kp (Nat.le_refl _) (show ObjOk X.prog X.w _ h' _ (.lst (rng n)) from ⟨hz, acc.toList, c', rng_vals n acc it, by simpa using e⟩), rfl, q _ (I2.hok.fresh (Nat.le_refl _))⟩
end L2

namespace L2
open PySem PySem.Spec PyProof.Rows

theorem noteFrame_frame {e : Value} {env env' : Env} (h : env.frame = env'.frame) : noteFrame e env = noteFrame e env' := by
  unfold noteFrame PySem.frameOf
  rw [h]
theorem flightAgain {M : Model} {A : Around} {E : Value → Shared → Prop} {s : Shared} {base : Heap} {l : List Env} {e L : Addr} {cls a0 : Value} {Q : Unit → Shared → Prop} (hh : Heap.HeldW base l e cls a0 L s.heap)
    (hQ : ∀ h', Heap.HeldW base l e cls a0 L h' → s.heap.UpToSlots h' → Q () { s with heap := h' }) : wpAny M A (setFlight (.ref e) (some L)) Q E s := by
  obtain ⟨f1, f2, f3, oe, vs, T, oT, ts, he, hcls, hd, h1, hnT, hTe, hT, hdT, h3⟩ := hh
  have hsz : 3 < ts.size := (Array.getElem?_eq_some_iff.mp h3).1
  have other : ∀ b, b ≠ T → (s.heap.update T (Obj.mapFields (·.setIfInBounds 3 (rawInt L)))).get? b = s.heap.get? b := fun b hb => Heap.get?_update_other _ _ (Ne.symm hb)
  have plain : ∀ b o, s.heap.get? b = some o → (∀ vs, o.data ≠ .fields vs) → b ≠ T := fun b o hb hn q => by
    subst q
    rw [hT] at hb
    cases hb
    exact hn ts hdT
  unfold setFlight
  refine wpAny_bind (wpAny_field he hd h1 ?_)
  rw [if_pos (show (Value.ref T != Value.none) = true from by simp)]
  refine wpAny_setField hT hdT hsz (hQ _ ⟨fun b o q => (other b fun z => by rw [z, hnT] at q; cases q).trans (f1 b o q), f2, f3.of_keeps fun b o q n => ⟨o, (other b (plain b o q n)).trans q, rfl⟩, ?_⟩ fun b o q n => ⟨o.slots, (other b (plain b o q n)).trans q⟩)
  exact ⟨oe, vs, T, _, _, (other e (Ne.symm hTe)).trans he, hcls, hd, h1, hnT, hTe, Heap.get?_update_self _ hT (Obj.isFreed_of_fields (Obj.data_mapFields hdT _)), Obj.data_mapFields hdT _, by simp [hsz]⟩

def HeldOut (X : Cx) (EX : XK) : Prop := ∀ (pins : List (Addr × Obj)) (σ : St) (H : Hp) (s : Shared) (cenv : Env) (B : Heap) (ea : Addr) (cls a0 : Value), cenv.frame = some X.env.locals → Inv X pins σ H s → Heap.HeldW B X.stack ea cls a0 X.env.locals s.heap →
  (∀ b o, s.heap.get? b = some o → b ∉ frs X.stack → (H b ≠ none ∨ ∃ o', X.s₀.heap.get? b = some o') → B.get? b = some o) → EX cls none H →
  wpAny (model X.prog X.w) X.A (PySem.passOn "comprehension.variables-let-go" (.ref ea) cenv : Sem Value) (fun _ _ => False) X.xe s
section
variable {P : Program} {w : World} {K : PySem.W.Frag} {mg : Str → Option Value} {base : Heap} {N : List Str} {qual : Str} {scope : Scope} {f : Addr} {cd : Value} {A : Around} {outer : List Env} {s0 : Shared} {H0 : Hp} {E : XK}
theorem heldOut : HeldOut (cxOf (XF P w) P w K mg base N qual scope f cd A outer s0 H0 E) E := by
  intro pins σ H s cenv B ea cls a0 hfr I hh cov hE
  obtain ⟨_, _, _, oe, vs, T, oT, ts, he, hcls, hd, h1, hnT, hTe, hT, hdT, h3⟩ := id hh
  have sub : ∀ b ∈ frs (envOfC qual scope s0.heap.objs.size f cd :: outer), b = (envOfC qual scope s0.heap.objs.size f cd).locals ∨ b ∈ frs outer := fun b hb => List.mem_cons.mp (I.stkSub b hb)
  have above : s0.heap.objs.size ≤ (envOfC qual scope s0.heap.objs.size f cd).locals := I.ok.above
  have oldT : ∀ b o, s0.heap.get? b = some o → b ∈ frs (envOfC qual scope s0.heap.objs.size f cd :: outer) → b ∈ frs outer := fun b o q z => by
    rcases sub b z with z | z
    · subst z
      exact absurd (Nat.lt_of_lt_of_le (Heap.lt_size q) above) (Nat.lt_irrefl _)
    · exact z
  have fz : ∀ b ∈ frs (envOfC qual scope s0.heap.objs.size f cd :: outer), H b = none := I.stkFree
  have u0 : Un (frs outer) [] H0 H s0.heap s.heap := I.base
  have st : s.heap.FunFrames base (envOfC qual scope s0.heap.objs.size f cd :: outer) := I.stack
  unfold PySem.passOn
  refine wpAny_bind (wpAny_field he hd h1 ?_)
  rw [if_neg (show ¬ ((Value.ref T == Value.none) = true) from by simp), hfr]
  have go : wpAny (model P w) (A.deeper (envOfC qual scope s0.heap.objs.size f cd)) (setFlight (.ref ea) (some (envOfC qual scope s0.heap.objs.size f cd).locals)) (fun _ s' => (cxOf (XF P w) P w K mg base N qual scope f cd A outer s0 H0 E).xe (.ref ea) s') (cxOf (XF P w) P w K mg base N qual scope f cd A outer s0 H0 E).xe s := by
    refine flightAgain hh fun h1 hh1 u1 => ?_
    show wpAny (model P w) (A.deeper (envOfC qual scope s0.heap.objs.size f cd)) (leaving (envOfC qual scope s0.heap.objs.size f cd) (.ref ea)) _ _ _
    unfold leaving
    refine wpAny_bind (wpAny_noteFrame_againW rfl hh1.2.2.2 ?_)
    refine wpAny_landsW hh1 fun h' fl u2 => ?_
    have ups := u1.trans u2
    have kept : ∀ b o, s.heap.get? b = some o → b ∉ frs (envOfC qual scope s0.heap.objs.size f cd :: outer) → (H b ≠ none ∨ ∃ o', s0.heap.get? b = some o') → h'.get? b = some o := fun b o q nb hc => fl.1 b o (cov b o q nb hc)
    have fl' : Heap.FlyingW B outer ea cls a0 h' := by
      obtain ⟨k1, k2, ⟨_, _, k3⟩, k4⟩ := fl
      exact ⟨k1, k2, k3, k4⟩
    refine ⟨ea, cls, a0, B, H, rfl, ⟨I.os, I.bare, u0.onward (fun b o q nb old' => ?_) (fun b o q hb old' => ?_), I.hok.onward fun b o hb q => kept b o q (fun z => hb (fz b z)) (.inl hb), fl', fun b hb => fz b (frs_tail hb), fun b o q nb hc => ?_⟩, hE⟩
    · obtain ⟨o', q'⟩ := old'
      exact kept b o q (fun z => nb (oldT b o' q' z)) (.inr ⟨o', q'⟩)
    · obtain ⟨_, o', ho', nf⟩ := st.mem (frs_tail hb)
      rw [q] at ho'; cases ho'
      exact ups b o q nf
    · have key : ∃ o1, s.heap.get? b = some o1 ∧ b ∉ frs (envOfC qual scope s0.heap.objs.size f cd :: outer) ∧ (H b ≠ none ∨ ∃ o', s0.heap.get? b = some o') := by
        rcases hc with hc | ⟨o', q'⟩
        · cases e1 : H b with
          | none => exact absurd e1 hc
          | some u1 =>
            obtain ⟨o1, q1⟩ := (I.hok b u1 e1).there
            exact ⟨o1, q1, fun z => hc (fz b z), .inl (by rw [e1] at hc; exact hc)⟩
        · obtain ⟨o1, q1⟩ := u0.there b o' q' (by simp)
          exact ⟨o1, q1, fun z => nb (oldT b o' q' z), .inr ⟨o', q'⟩⟩
      obtain ⟨o1, q1, n1, c1⟩ := key
      have z := kept b o1 q1 n1 c1
      have q2 : h'.get? b = some o := q
      rw [q2] at z; cases z
      exact cov b _ q1 n1 c1
  first
    | exact wpAny_bind (wpAny_pure (wpAny_bind (wpAny_mono go (fun _ s' z => wpAny_throw z) fun _ _ z => z)))
    | exact wpAny_bind (wpAny_mono go (fun _ s' z => wpAny_throw z) fun _ _ z => z)
end

def compPostX (M : Model) (A : Around) (E : Value → Shared → Prop) (use : Option (Value → Sem Unit)) (Q : Value → Shared → Prop) (acc : Value) (cenv : Env) (r : Result) (s' : Shared) : Prop :=
  match r with
  | .ok f => compPost M A E use Q acc cenv.locals (.ok f) s'
  | .error x => ∃ m, s'.heap.Ns cenv.locals m ∧ ∀ h', Heap.SameBut cenv.locals s'.heap h' → wpAny M A (PySem.passOn "comprehension.variables-let-go" x cenv : Sem Value) (fun _ _ => False) E { s' with heap := h' }
theorem comp_freeX {M : Model} {A : Around} {E : Value → Shared → Prop} {s : Shared} {env : Env} {e : Expr} {scope : Scope} {pos : Pos} {newAcc first : Sem Value} {g : Comprehension} {gs : List Comprehension} {cl : List (Str × Addr)} {use : Option (Value → Sem Unit)} {Q : Value → Shared → Prop}
    (hcl : clausesOf e = g :: gs) (hs : ∀ x, foldedSetIterable g.iter env x = pure x) (hclos : closureFor scope env = pure cl) (hkind : scope.kind = .function) (hnames : ∀ x ∈ scope.names, x.2 = .local → scope.names.lookup x.1 = some .local)
    (h : wpAny M A first (fun x s₁ => wpAny M A (pyIter x) (fun it s₂ => wpAny M A newAcc (fun acc s₃ => wpAny M A (newFunctionEnv scope env.globals cl [] env.qual none .none (some env)) (fun cenv s₄ =>
      codeAny M A (.compStart e 0 it acc { cenv with scope := relabel scope env }) (compPostX M A E use Q acc { cenv with scope := relabel scope env }) s₄) E s₃) E s₂) E s₁) E s) :
    wpAny M A (comprehension e scope env pos newAcc false first use) Q E s := by
  unfold comprehension
  rw [hclos, hcl]
  refine wpAny_bind (wpAny_mono h (fun x s₁ h₁ => wpAny_bind (wpAny_standAt (wpAny_bind (wpAny_of_eq (hs x) (wpAny_bind (wpAny_holding (wpAny_mono h₁ (fun it s₂ h₂ =>
    wpAny_standIf (wpAny_bind (wpAny_mono h₂ (fun acc s₃ h₃ => wpAny_bind (wpAny_pure (wpAny_bind (wpAny_mono h₃ (fun cenv s₄ h₄ => ?_) fun _ _ z => z)))) fun _ _ z => z))) fun _ _ z => z))))))) fun _ _ z => z)
  dsimp only
  have one : ∀ x ∈ scope.names, x.2 = .local → Env.kindOf { cenv with scope := relabel scope env } x.1 = some .local := fun x hx hl => lookup_relabel_local (hnames x hx hl)
  have hv : ∀ x ∈ (scope.names.filter fun x => (x.2 == .local || x.2 == .cell) && x.1 != (".0" : Str)).reverse, x.2 = .local → Env.kindOf { cenv with scope := relabel scope env } x.1 = some .local := fun x hx => one x (List.mem_filter.mp (List.mem_reverse.mp hx)).1
  have hv' : ∀ x ∈ (scope.names.filter fun x => (x.2 == .local || x.2 == .cell) && x.1 != (".0" : Str)).reverse.drop 1 ++ (scope.names.filter fun x => (x.2 == .local || x.2 == .cell) && x.1 != (".0" : Str)).reverse.take 1, x.2 = .local → Env.kindOf { cenv with scope := relabel scope env } x.1 = some .local := fun x hx => by
    rcases List.mem_append.mp hx with z | z
    · exact hv x (List.mem_of_mem_drop z)
    · exact hv x (List.mem_of_mem_take z)
  refine wpAny_holding (wpAny_bind (wpAny_attempt (wpAny_holding (wpAny_run (codeAny_mono h₄ fun r s' hr => ?_)))))
  cases r with
  | ok f =>
    cases use with
    | none =>
      obtain ⟨m, hn, hr⟩ := hr
      exact wpAny_bind (wpAny_holding (wpAny_comp_letGo (cenv := { cenv with scope := relabel scope env }) hkind _ s' m hv hn fun h' m' _ hs' => wpAny_pure (hr h' hs')))
    | some u =>
      refine wpAny_bind (wpAny_rule (wpAny_bind (wpAny_holding (wpAny_mono hr (fun _ s'' hr' => ?_) fun _ _ z => z))))
      obtain ⟨m, hn, hr'⟩ := hr'
      exact wpAny_bind (wpAny_comp_letGo (cenv := { cenv with scope := relabel scope env }) hkind _ s'' m hv' hn fun h' m' _ hs' => wpAny_pure (hr' h' hs'))
  | error x =>
    obtain ⟨m, hn, hr⟩ := hr
    exact wpAny_bind (wpAny_holding (wpAny_comp_letGo (cenv := { cenv with scope := relabel scope env }) hkind _ s' m hv hn fun h' m' _ hs' => wpAny_mono (hr h' hs') (fun _ _ z => z.elim) fun _ _ z => z))

def Cx.thr (Y : Cx) (EX : XK) : Cx := Y.wish fun e s' => ∃ pk σk Hk sk, Inv Y pk σk Hk sk ∧ XF Y.prog Y.w Y.stack Hk sk EX e s'
theorem passT {Y : Cx} {EX : XK} {P : Program} {w : World} (hp : Y.prog = P) (hw : Y.w = w) : Passes (XF P w) (Y.thr EX) EX := fun pins σ H s e s' I h => by
  subst hp hw
  exact ⟨pins, σ, H, s, I.unwish, h⟩
theorem funFrames_but {base h h' : Heap} {C : Addr} (hs : Heap.SameBut C h h') : ∀ {l : List Env}, h.FunFrames base l → C ∉ frs l → h'.FunFrames base l
  | [], _, _ => trivial
  | env :: l, ⟨hk, ⟨L, o, hf, hn, ho, hd⟩, hr⟩, nC => ⟨hk, ⟨L, o, hf, hn, (hs.2 L fun z => nC (by subst z; unfold frs; rw [List.filterMap_cons, hf]; exact List.mem_cons_self ..)).trans ho, hd⟩, funFrames_but hs hr fun z => nC (frs_tail z)⟩
section
variable {X : Cx} {N : List Str} {fr : List Nat} {x : Str} {scope : Scope} {cl : List (Str × Addr)} {elt iter : Expr} {px pos : Pos} {wi : TI} {te : TE} {EX : XK}
theorem raise_out {pins pk : List (Addr × Obj)} {σ σk : St} {H3 Hk H' : Hp} {s3 sk s' : Shared} {fp : List Addr} {C ea : Addr} {cls a0 acc : Value} {B : Heap} {use : Option (Value → Sem Unit)} {R : Value → Shared → Prop} {E' : Value → Shared → Prop}
    (hout : HeldOut X EX) (hst : X.stack = X.env :: X.outer) (hf : X.env.frame = some X.env.locals) (hex : X.ex = []) (I3 : Inv X pins σ H3 s3) (f3 : ∀ b ∈ fp, FpOk X pins H3 b) (hC : s3.heap.objs.size ≤ C)
    (J : Inv (cxC X N scope cl C s3 H3 fp pins) pk σk Hk sk) (xf : Fly X.prog X.w X.stack Hk sk cls a0 ea B H' s') (hE : EX cls none H') :
    wpAny (model X.prog X.w) X.A (noteFrame (.ref ea) (compEnvC scope cl C X.env)) (fun _ s'' => compPostX (model X.prog X.w) X.A X.xe use R acc (compEnvC scope cl C X.env) (.error (.ref ea)) s'') E' s' := by
  rw [noteFrame_frame (env := compEnvC scope cl C X.env) (env' := X.env) rfl]
  obtain ⟨hp, gs, dr, tk, os⟩ := s'
  have frm : X.A.frames = some (X.env :: X.outer) := by rw [← hst]; exact I3.ok.frames
  have fl : Heap.FlyingW B (X.env :: X.outer) ea cls a0 hp := by rw [← hst]; exact xf.fly
  refine wpAny_looks_onW frm hf fl fun h4 held4 u4 => ?_
  have J4 : Inv (cxC X N scope cl C s3 H3 fp pins) pk σk H' ⟨h4, gs, dr, tk, os⟩ := J.landed (t' := tk) xf held4.1 u4
  obtain ⟨m, hn, _⟩ := id J4.loc
  have hn' : h4.Ns C m := hn
  refine ⟨m, hn, fun h5 hs5 => ?_⟩
  have hs5' : Heap.SameBut C h4 h5 := hs5
  have J5 : Inv (cxC X N scope cl C s3 H3 fp pins) [] σk H' ⟨h4, gs, dr, tk, os⟩ := J4.pins_of fun p hp => absurd hp (by simp)
  have I5 : Inv X pins σ H' ⟨h5, gs, dr, tk, os⟩ := cxC_end I3 f3 hC J5 hs5'
  have above : X.s₀.heap.objs.size ≤ C := Nat.le_trans I3.sz hC
  have nC : H' C = none := J4.free
  have nF : C ∉ frs (X.env :: X.outer) := fun z => by
    have st : h4.FunFrames B (X.env :: X.outer) := held4.2.2.1
    rw [← hst] at z
    have z3 : s3.heap.FunFrames X.base X.stack := I3.stack
    obtain ⟨_, o', ho', _⟩ := z3.mem z
    exact absurd (Nat.lt_of_lt_of_le (Heap.lt_size ho') hC) (Nat.lt_irrefl _)
  obtain ⟨oC, es, ep, hoC, hdC, _⟩ := hn'
  refine hout pins σ H' _ (compEnvC scope cl C X.env) (PySem.W.hideAll B [C]) ea cls a0 hf I5 ?_ ?_ hE
  · rw [hst]
    have hB : (PySem.W.hideAll B [C]).StaysIn B := fun b o q => PySem.W.of_hideAll _ q
    obtain ⟨f1, f2, f3', oe, vs, T, oT, ts, he, hcls, hd, h1, hnT, hTe, hT, hdT, h3⟩ := PySem.W.heldW_base hB held4
    have neA : ea ≠ C := fun z => by rw [z, hoC] at he; cases he; rw [hdC] at hd; cases hd
    have neT : T ≠ C := fun z => by rw [z, hoC] at hT; cases hT; rw [hdC] at hdT; cases hdT
    refine ⟨fun b o q => (hs5'.2 b fun z => ?_).trans (f1 b o q), f2, funFrames_but hs5' f3' nF, oe, vs, T, oT, ts, (hs5'.2 ea neA).trans he, hcls, hd, h1, hnT, hTe, (hs5'.2 T neT).trans hT, hdT, h3⟩
    rw [z, PySem.W.hideAll_none [C] (by simp)] at q
    cases q
  · intro b o q nb hc
    have q5 : h5.get? b = some o := q
    have neC : b ≠ C := fun z => by
      subst z
      rcases hc with hc | ⟨o', hc⟩
      · exact hc nC
      · exact absurd (Nat.lt_of_lt_of_le (Heap.lt_size hc) above) (Nat.lt_irrefl _)
    have q4 : h4.get? b = some o := (hs5'.2 b neC).symm.trans q5
    have key : ∃ o1, hp.get? b = some o1 ∧ (H' b ≠ none ∨ ∃ o', sk.heap.get? b = some o') := by
      rcases hc with hc | ⟨o', hc⟩
      · cases e1 : H' b with
        | none => exact absurd e1 hc
        | some u1 =>
          obtain ⟨o1, q1⟩ := (xf.hok b u1 e1).there
          exact ⟨o1, q1, .inl (by simp)⟩
      · have hb : b ∉ X.ex := by rw [hex]; simp
        obtain ⟨o2, q2⟩ := I3.base.there b o' hc hb
        have nfp : b ∉ fp := fun z => by
          rcases (f3 b z).2.2.2.1 with y | y
          · exact hb y
          · exact absurd (Nat.lt_of_lt_of_le (Heap.lt_size hc) y) (Nat.lt_irrefl _)
        obtain ⟨o3, q3⟩ := J.base.there b o2 q2 nfp
        obtain ⟨o4, q4⟩ := xf.un.there b o3 q3 (by simp)
        exact ⟨o4, q4, .inr ⟨o3, q3⟩⟩
    obtain ⟨o1, q1, c1⟩ := key
    have z := xf.cov b o1 q1 nb c1
    have z4 := held4.1 b o1 z
    rw [q4] at z4
    cases z4
    exact PySem.W.hideAll_get _ z (by simpa using neC)
theorem comp_coreX {use : Option (Value → Sem Unit)} {R : Value → Shared → Prop} {Q : VK} {pins : List (Addr × Obj)} {s : Shared} {σ : St} {H : Hp} {ep : Pos} (hout : HeldOut X EX) (hst : X.stack = X.env :: X.outer) (hf : X.env.frame = some X.env.locals) (hex : X.ex = []) (hc : X.still = true) (S : CompScope X N fr x scope cl) (hi : PI X (.Name x px) iter wi)
    (he : ∀ (C : Addr) (s0 : Shared) (H0 : Hp) (fp : List Addr) (pins : List (Addr × Obj)), PE ((cxC X N scope cl C s0 H0 fp pins).thr EX) elt te)
    (hs : ∀ y, foldedSetIterable iter X.env y = pure y) (I : Inv X pins σ H s) (h : tComp wi fr te σ H Q)
    (fin : ∀ (acc C : Addr) (m : Str → Option Value) (H6 : Hp) (s7 : Shared), Q (.ref acc) H6 → s7.heap.Ns C m → (∀ h' : Heap, Heap.SameBut C s7.heap h' → Inv X pins σ H6 { s7 with heap := h' }) → H6 C = none → X.env.locals ≠ C → (∀ z c, X.env.cells.lookup z = some c → c ≠ C) → (∀ p ∈ X.pn ++ pins, p.1 ≠ C) → X.s₀.heap.objs.size ≤ C → compPost (model X.prog X.w) X.A X.xe use R (.ref acc) C (.ok .next) s7) :
    wpAny (model X.prog X.w) X.A (comprehension (.ListComp elt [⟨.Name x px, iter, [], 0⟩] scope pos) scope X.env ep (newList []) false (eval iter X.env) use) R X.xe s := by
  refine comp_freeX (use := use) rfl hs S.clos S.kind S.loc (thn (hi pins s σ H _ I h) fun v s1 h1 => thn h1 fun itv s2 h2 => ?_)
  obtain ⟨it, fp, tn, J, H2, e, I2, T, st2, f2, hW⟩ := h2
  subst e
  have hfl : ∀ b ∈ fp, b < s2.heap.objs.size := fun b hb => by
    obtain ⟨o, q, _⟩ := T.obj _ _ st2 b hb
    exact Heap.lt_size q
  have hfr : H2 s2.heap.objs.size = none := I2.hok.fresh (Nat.le_refl _)
  refine wpAny_newObj_type ?_
  have keep3 : ∀ b o, s2.heap.get? b = some o → (s2.heap.push { cls := .type "list", dict := none, data := .seq ([] : List Value).toArray }).get? b = some o := fun b o q => Heap.get?_push_of_some _ q
  have I3 : Inv X pins σ (upd H2 s2.heap.objs.size (.lst [])) { s2 with heap := s2.heap.push { cls := .type "list", dict := none, data := .seq ([] : List Value).toArray } } :=
    I2.laid (t' := s2.toks) keep3 (Nat.le_refl _) ⟨Nat.zero_le _, [], 0, .nil, Heap.get?_push_size _ rfl⟩
  obtain ⟨W, ⟨m0, w0⟩, turn⟩ := hW s2.heap.objs.size hfr
  have f3 : ∀ b ∈ fp, FpOk X pins (upd H2 s2.heap.objs.size (.lst [])) b := fun b hb => ⟨by rw [upd_ne (Nat.ne_of_lt (hfl b hb))]; exact (f2 b hb).1, (f2 b hb).2⟩
  refine wpAny_newFunctionEnv S.nocell (by intro y hy; simp at hy) (fun h4 hns hsb => ?_) S.kind
  have hfl3 : ∀ b ∈ fp, b < (s2.heap.push { cls := .type "list", dict := none, data := .seq ([] : List Value).toArray }).objs.size := fun b hb => by
    rw [Heap.size_push]
    exact Nat.lt_succ_of_lt (hfl b hb)
  have keep4 : ∀ b o, (s2.heap.push { cls := .type "list", dict := none, data := .seq ([] : List Value).toArray }).get? b = some o → h4.get? b = some o := fun b o q =>
    (hsb.2 b (Nat.ne_of_lt (Heap.lt_size q))).trans (Heap.get?_push_of_some _ q)
  have I4 : Inv (cxC X N scope cl (s2.heap.push { cls := .type "list", dict := none, data := .seq ([] : List Value).toArray }).objs.size { s2 with heap := s2.heap.push { cls := .type "list", dict := none, data := .seq ([] : List Value).toArray } } (upd H2 s2.heap.objs.size (.lst [])) fp pins) [] (compSt σ fr none) (upd H2 s2.heap.objs.size (.lst []))
      { s2 with heap := h4, toks := s2.toks + ([] : List (Str × Value)).length } := cxC_start S I3 f3 (Nat.le_refl _) hfl3 hns keep4 rfl rfl
  have st4 : tn 0 h4 := T.keep _ _ _ st2 fun b hb o q => keep4 b o (keep3 b o q)
  generalize hY : cxC X N scope cl (s2.heap.push { cls := .type "list", dict := none, data := .seq ([] : List Value).toArray }).objs.size { s2 with heap := s2.heap.push { cls := .type "list", dict := none, data := .seq ([] : List Value).toArray } } (upd H2 s2.heap.objs.size (.lst [])) fp pins = Y at I4
  have hel : PE (Y.thr EX) elt te := hY ▸ he _ _ _ _ _
  have eA : Y.A = X.A := by rw [← hY]; rfl
  have eP : Y.prog = X.prog := by rw [← hY]; rfl
  have ew : Y.w = X.w := by rw [← hY]; rfl
  have eK : Y.K = X.K := by rw [← hY]; rfl
  have eC : Y.still = true := by rw [← hY]; exact hc
  have eE : Y.env = compEnvC scope cl (s2.heap.push { cls := .type "list", dict := none, data := .seq ([] : List Value).toArray }).objs.size X.env := by rw [← hY]; rfl
  have eX : Y.xe = fun _ _ => False := by rw [← hY]; rfl
  have hg : PG Y (.Name x px) (gName 0) := by
    subst hY
    exact pg_name (i := 0) S.nd S.hN (.inl (lookup_relabel_local S.own)) (.inr (lookup_relabel_local S.own))
  have fY : ∀ {H' : Hp}, (∀ b ∈ fp, H' b = none) → ∀ b ∈ fp, FpOk Y [] H' b := fun {H'} hn b hb => by
    subst hY
    obtain ⟨_, g2, g3, g4, g5, g6⟩ := f3 b hb
    refine ⟨hn b hb, Nat.ne_of_lt (hfl3 b hb), fun z => ?_, .inl hb, fun y c q => g5 y c (S.sub _ _ q), fun p hp => ?_⟩
    · rcases List.mem_cons.mp (I3.stkSub b z) with q | q
      · exact g2 q
      · exact g3 q
    · rw [List.append_nil] at hp
      exact g6 p hp
  have loop : ∀ s5 : Shared, s5 = { s2 with heap := h4, toks := s2.toks + ([] : List (Str × Value)).length } →
      codeAny (model X.prog X.w) X.A (.compLoop (.ListComp elt [⟨.Name x px, iter, [], 0⟩] scope pos) 0 (.ref it) (.ref s2.heap.objs.size) (compEnvC scope cl (s2.heap.push { cls := .type "list", dict := none, data := .seq ([] : List Value).toArray }).objs.size X.env))
        (compPostX (model X.prog X.w) X.A X.xe use R (.ref s2.heap.objs.size) (compEnvC scope cl (s2.heap.push { cls := .type "list", dict := none, data := .seq ([] : List Value).toArray }).objs.size X.env)) s5 := by
    rintro s5 rfl
    refine codeAny_compLoop_tests (fun n s' => ∃ i v H' vs, Inv Y [] (compSt σ fr v) H' s' ∧ tn i s'.heap ∧ (∀ b ∈ fp, H' b = none) ∧ W i n H' vs) ?_ m0 ⟨0, none, _, [], I4, st4, fun b hb => (f3 b hb).1, w0⟩
    rintro n s6 ⟨i, v6, H6, vs, I6, st6, fr6, w6⟩
    obtain ⟨hacc, hgo⟩ := turn i n H6 vs w6
    rcases hgo with ⟨stop, qn⟩ | ⟨go, hz, step⟩
    · have hd := T.done Y eP ew eK eC i [] s6 _ H6 (fun _ _ => False) I6 (fY fr6) st6 stop
      rw [eA] at hd
      refine wpAny_mono hd (fun r s7 ⟨hr, I7⟩ => ?_) fun _ _ z => z.elim
      subst hr
      obtain ⟨m, hn, _⟩ := id I7.loc
      rw [eE] at hn
      have hend : ∀ h' : Heap, Heap.SameBut (s2.heap.push { cls := .type "list", dict := none, data := .seq ([] : List Value).toArray }).objs.size s7.heap h' → Inv X pins σ H6 { s7 with heap := h' } := fun h' hs' => by
        subst hY
        exact cxC_end I3 f3 (Nat.le_refl _) I7 hs'
      have cf : H6 (s2.heap.push { cls := .type "list", dict := none, data := .seq ([] : List Value).toArray }).objs.size = none := by
        subst hY
        exact I7.free
      have big : ∀ b o, s2.heap.get? b = some o → b ≠ (s2.heap.push { cls := .type "list", dict := none, data := .seq ([] : List Value).toArray }).objs.size := fun b o q => Nat.ne_of_lt (by rw [Heap.size_push]; exact Nat.lt_succ_of_lt (Heap.lt_size q))
      obtain ⟨m2, hn2, _⟩ := id I2.loc
      obtain ⟨oL, _, _, hoL, _⟩ := id hn2
      exact fin _ _ m H6 s7 qn hn hend cf (big _ _ hoL) (fun z c q => by
        obtain ⟨_, o, w1, _⟩ := I2.cell z c q
        exact big _ _ w1) (fun p hp => by
        obtain ⟨e, _⟩ := I2.pin p hp
        exact big _ _ e) (by
        rw [Heap.size_push]
        exact Nat.le_succ_of_le (Nat.le_trans (Nat.le_refl _) I2.sz))
    · have hd := T.item Y eP ew eK eC i [] s6 _ H6 (fun _ _ => False) I6 (fY fr6) st6 go
      rw [eA] at hd
      refine wpAny_mono hd (fun r s7 ⟨u, hr, h7⟩ => ?_) fun _ _ z => z.elim
      subst hr
      show wpAny _ _ ((pure () : Sem Unit) >>= fun _ => assign (.Name x px) _ u) _ _ s7
      refine wpAny_bind (wpAny_mono h7 (fun _ s8 ⟨y, H8, I8, r8, y8, st8, fr8⟩ => ?_) fun _ _ z => z.elim)
      have I8' := I8.pinned (fY fr8) (T.obj _ _ st8)
      have h9 := hg _ s8 _ H8 y u (fun σ9 H9 => σ9 = compSt σ fr (some y) ∧ H9 = H8) I8' r8 ⟨rfl, rfl⟩
      rw [eA, eP, ew, eE, eX] at h9
      refine wpAny_mono h9 (fun _ s9 ⟨σ9, H9, I9, e9, e9'⟩ => ?_) fun _ _ z => z.elim
      subst e9 e9'
      refine wpAny_tests_nil ?_
      rw [if_pos rfl]
      have h10 := hel _ s9 _ _ _ (I9.wish _) (step y _ y8)
      have h10' : wpAny (model Y.prog Y.w) Y.A (eval elt Y.env) _ (fun ex s' => ∃ pk σk Hk sk, Inv Y pk σk Hk sk ∧ XF Y.prog Y.w Y.stack Hk sk EX ex s') s9 := h10
      rw [eA, eP, ew, eE] at h10'
      refine wpAny_mono h10' (fun u10 s10 ⟨z10, H10, I10w, r10, a10, m', hm, w10⟩ => ?_) fun ex s' z => ?_
      rotate_left
      · subst hY
        obtain ⟨pk, σk, Hk, sk, J, ea, cls, a0, B, H', rfl, xf, hE⟩ := z
        exact raise_out hout hst hf hex I3 f3 (Nat.le_refl _) J xf hE
      have I10 := I10w.unwish
      have h11 := mt_append _ s10 _ H10 (.ref s2.heap.objs.size) [z10] (.ref s2.heap.objs.size) [u10] (fun _ H11 => H11 = upd H10 s2.heap.objs.size (.lst (vs ++ [z10]))) I10 rfl (.cons r10 .nil) ⟨_, vs, z10, rfl, rfl, a10, hz, rfl⟩
      rw [eA, eP, ew, eX] at h11
      refine wpAny_mono h11 (fun _ s11 ⟨_, H11, I11, _, e11⟩ => ?_) fun _ _ z => z.elim
      subst e11
      refine ⟨m', hm, i + 1, some y, _, vs ++ [z10], I11.unpinned, T.keep _ _ _ st8 fun b hb o q => (I11.pin (b, o) (List.mem_append_right _ (List.mem_append_right _ (mem_pinsAt hb q)))).1, fun b hb => ?_, w10⟩
      obtain ⟨o, q, _⟩ := T.obj _ _ st8 b hb
      exact (I11.pin (b, o) (List.mem_append_right _ (List.mem_append_right _ (mem_pinsAt hb q)))).2.1
  exact codeAny_compStart_list (loop _ rfl) (T.self _ 0 _ _ _ st4 (loop _ rfl))
theorem ps_setCX {y : Str} {py spos : Pos} {k : Nat} (hout : HeldOut X EX) (hN : X.N.Nodup) (hk : X.N[k]? = some y) (hy : Loc X.env.scope y) (hsw : swapsWith (.ListComp elt [⟨.Name x px, iter, [], 0⟩] scope pos) (some (.Name y py)) spos.line X.env = pure true) (hc : X.still = true) (S : CompScope X N fr x scope cl) (hi : PI X (.Name x px) iter wi) (he : ∀ (C : Addr) (s0 : Shared) (H0 : Hp) (fp : List Addr) (pins : List (Addr × Obj)), PE ((cxC X N scope cl C s0 H0 fp pins).thr EX) elt te)
    (hf : X.fn y = true ∨ X.env.scope.names.lookup y = some .local) (hs : ∀ y, foldedSetIterable iter X.env y = pure y := by intro _; rfl) (hst : X.stack = X.env :: X.outer := by rfl) (hfr : X.env.frame = some X.env.locals := by rfl) (hex : X.ex = [] := by rfl) : PS X (.Assign [.Name y py] (.ListComp elt [⟨.Name x px, iter, [], 0⟩] scope pos) spos) (tSetC0 wi fr te k) := by
  intro pins s σ H D I h
  rw [exec_Assign_Name_used _ _ _ _ hsw]
  refine wpAny_bind (wpAny_standAt (wpAny_bind ?_))
  show wpAny _ X.A (do let _ ← comprehension (.ListComp elt [⟨.Name x px, iter, [], 0⟩] scope pos) scope X.env _ (newList []) false (eval iter X.env) (some (assign (.Name y py) X.env))) _ _ s
  refine wpAny_bind (wpAny_mono (comp_coreX (Q := fun v H' => D.nx (σ.set k (some v)) H') (use := some (assign (.Name y py) X.env)) (R := fun _ s' => SP X pins D .next s') hout hst hfr hex hc S hi he hs I h (fun acc C m H6 s7 qn hn hend cf cL cC cP cS => by
    have J7 : Inv X pins σ H6 s7 := hend s7.heap ⟨rfl, fun _ _ => rfl⟩
    show wpAny _ X.A (assign (.Name y py) X.env (.ref acc)) _ _ _
    refine wpAny_assign_Name (store_ok2 J7 hN hk hy (v := .ref acc) rfl (fun s8 J8 ⟨a, hsa, ha⟩ => ?_) hf)
    have aC : C ≠ a := by
      rcases ha with e | e
      · rw [e]; exact Ne.symm cL
      · exact Ne.symm (cC _ _ e)
    exact ⟨m, hn.sameBut hsa aC, fun h' hs' => ⟨_, H6, J8.off hs' cS cf (Ne.symm cL) cC cP, qn⟩⟩)) (fun _ s' hq => wpAny_pure (wpAny_pure hq)) fun _ _ e => e)
end
end L2

namespace L2
open PySem PySem.Spec PyProof.Rows
theorem op_mul_str {X : Cx} : OpR X (binaryOp .Mult) (fun x y H Q => ∃ i n, x = .str i ∧ y = .int n ∧ MulOk i n ∧ Q (.str (Txt.mul i n)) H) := by
  intro pins s σ H x y v u Q I rx ry h
  obtain ⟨i, n, rfl, rfl, hz, q⟩ := h
  obtain ⟨t, rfl⟩ := rx
  obtain ⟨t', rfl⟩ := ry
  exact SB.mul hz fun t'' k => ⟨.str (Txt.mul i n), H, I.tok _, ⟨_, rfl⟩, q⟩
theorem pe_never {X : Cx} {e : Expr} : PE X e (fun _ _ _ => False) := fun _ _ _ _ _ _ h => h.elim
def TabK (K : PySem.W.Frag) (a : Addr) (D : List (Str × KTD.Dat)) : Prop := KTD.tabLook (KTD.datLooks fun b => List.lookup b K) (fun b => List.lookup b K) a D = true
def partOf (K : PySem.W.Frag) (h : Heap) : Heap := PySem.W.hideAll h ((List.range h.objs.size).filter fun b => (K.lookup b).isNone)
theorem partOf_get {K : PySem.W.Frag} {h : Heap} (X : K.In h) {b : Addr} {o : Obj} (e : K.lookup b = some o) : (partOf K h).get? b = some o :=
  PySem.W.hideAll_get _ (X b o e) fun m => by
    have := (List.mem_filter.mp m).2
    rw [e] at this
    cases this
theorem of_partOf {K : PySem.W.Frag} {h : Heap} (X : K.In h) {b : Addr} {o : Obj} (e : (partOf K h).get? b = some o) : K.lookup b = some o := by
  have e1 : h.get? b = some o := PySem.W.of_hideAll _ e
  cases q : K.lookup b with
  | none =>
    have m : b ∈ (List.range h.objs.size).filter fun b => (K.lookup b).isNone := List.mem_filter.mpr ⟨List.mem_range.mpr (Heap.lt_size e1), by rw [q]; rfl⟩
    have z := PySem.W.hideAll_none (h := h) _ m
    have e2 : (PySem.W.hideAll h ((List.range h.objs.size).filter fun b => (K.lookup b).isNone)).get? b = some o := e
    rw [z] at e2
    cases e2
  | some o' =>
    have z := X b o' q
    rw [e1] at z
    cases z
    rfl
theorem TabK.here {K : PySem.W.Frag} {h : Heap} {a : Addr} {D : List (Str × KTD.Dat)} (T : TabK K a D) (X : K.In h) : KTD.Here (partOf K h) h a D :=
  ⟨KTD.tab_of_look (fun d v q => KTD.dat_of_looks (fun b o e => partOf_get X e) d v q) (fun b o e => partOf_get X e) T, fun b o e => PySem.W.of_hideAll _ e⟩
theorem flats_vals (hp : Heap) {its : List Value} {ns : List Int} (h : KTD.Flats its (ns.map PySem.PyData.int)) : Vals (ns.map V.int) its := by
  induction ns generalizing its with
  | nil => cases h; exact .nil
  | cons n r ih =>
    cases h with
    | cons f t =>
      exact .cons (KTD.Opened.of (h := hp) (d := .flat (.int n)) (P := fun v => RelV (V.int n) v) (fun t => ⟨t, rfl⟩) _ f) (ih t)
section
variable {X : Cx} {o i : Expr} {pos : Pos} {td ty : TE}
def tTabNot (td ty : TE) (K : PySem.W.Frag) (D : List (Str × KTD.Dat)) : TE := fun σ H Q => ty σ H fun y H1 => td σ H1 fun x H2 => ∃ a k, x = .ref a ∧ y = .str k ∧ TabK K a D ∧ Q (.bl (!KTD.inKeys k D)) H2
def tTabGet (td ty : TE) (K : PySem.W.Frag) (D : List (Str × KTD.Dat)) : TE := fun σ H Q => td σ H fun x H1 => ty σ H1 fun y H2 => ∃ a k, ∃ ns : List Int, x = .ref a ∧ y = .str k ∧ TabK K a D ∧ KTD.datumAt k D = some (.tup (ns.map PySem.PyData.int)) ∧ ns.length ≤ sizeLine ∧ ∀ b, TupK K b (ns.map V.int) → Q (.ref b) H2
theorem pc_tabnot {D : List (Str × KTD.Dat)} (hi : PE X i ty) (ho : PE X o td) : PC X .NotIn i o (tTabNot td ty X.K D) := by
  intro pins s σ H Q I h
  refine thn (hi pins s σ H _ I h) fun iv s1 ⟨y, H1, I1, ry, q1⟩ => thn (ho pins s1 σ H1 _ I1 q1) fun u s2 ⟨x, H2, I2, rx, a, k, ex, ey, T, q2⟩ => ?_
  subst ex ey
  obtain rfl : u = Value.ref a := rx
  obtain ⟨t, rfl⟩ := (show ∃ t, iv = Value.str k t from ry)
  exact KTD.notin_text (T.here I2.kIn) ⟨.bl (!KTD.inKeys k D), H2, I2.tok _, rfl, q2⟩
theorem pe_tabget {D : List (Str × KTD.Dat)} (ho : PE X o td) (hi : PE X i ty) (hs : NoSl i) : PE X (.Subscript o i pos) (tTabGet td ty X.K D) := by
  intro pins s σ H Q I h
  refine subD_of PySem.F.slot_dict_getitem.lookup hs (thn (ho pins s σ H _ I h) fun u s1 ⟨x, H1, I1, rx, q1⟩ => thn (hi pins s1 σ H1 _ I1 q1) fun iv s2 ⟨y, H2, I2, ry, a, k, ns, ex, ey, T, hd, hz, q2⟩ => ?_)
  subst ex ey
  obtain rfl : u = Value.ref a := rx
  obtain ⟨t, rfl⟩ := (show ∃ t, iv = Value.str k t from ry)
  have Hr := T.here I2.kIn
  refine ⟨Hr.typeIs, ?_⟩
  unfold getItem
  refine wpAny_holding (wpAny_bind (wpAny_sequenceKey Hr.typeIs (by decide) ?_))
  refine wpAny_bind (wpAny_callSpecial?_slot (name := Str.ofString "__getitem__") Hr.typeIs PySem.F.slot_dict_getitem
    (wpAny_call_entry PySem.F.slot_dict_getitem Hr.typeIs PySem.F.entry_dict_getitem ?_ (PySem.F.args_dict_getitem_2 _ _)))
  show wpAny _ _ (dictGet a (.str k t) >>= _) _ _ s2
  refine wpAny_bind (KTD.dictGet_text Hr (fun d v ha hv => wpAny_pure ⟨v, rfl, wpAny_pure ?_⟩) fun hn => absurd hn (by rw [hd]; simp))
  rw [hd] at ha
  cases ha
  obtain ⟨b, vs, rfl, ⟨ob, hob, hcl, n, hda⟩, hf⟩ := hv
  have hlk := of_partOf I2.kIn hob
  have hv := flats_vals s2.heap hf
  exact ⟨.ref b, H2, I2.tok _, rfl, q2 b ⟨ob, vs.toArray, n, hlk, hcl, hda, by have := hv.length; rw [List.length_map] at this; simp; omega, by simpa using hv⟩⟩
end
def tTryM (Cl C : Addr) (m : Str) (sp : Sp) (iy i : Nat) (to : TE) (ta : TA) (ts : TS) : TS := fun D σ H => to σ H fun x H1 => ∃ a dx fs, x = .ref a ∧ H1 a = some (.ins Cl dx fs) ∧ fs.lookup m = none ∧ ta σ H1 fun vs H2 =>
  sp (x :: vs) H2 (fun v H3 => D.nx (σ.set iy (some v)) H3) fun cls _ H3 => cls = .ref C ∧ ∀ e, H3 e = none → ts (asEnds D i) (σ.set i (some (.ref e))) (upd H3 e (.ext (ExcAt C e)))
section
variable {X : Cx} {k : Nat} {f C Cl : Addr} {fd : FuncData} {ps : List Str} {sp : Sp} {m x n y : Str} {p pos pos3 np hpos yp ap apos : Pos} {o e : Expr} {es : List Expr} {to : TE} {t : TA} {ts : TS} {b₀ : Stmt} {suite : List Stmt} {i iy : Nat}
theorem ps_tryM {pl : Sem Bool} (ho : PE X.nox o to) (c : Cls X.K Cl) (hmt : Meth X.K Cl m f) (F : FnOk X.prog X.w X.K X.mg X.base (XF X.prog X.w) k f fd ps sp) (hr : Room k X.A) (hb : Binds X.K fd ps []) (ha : PA X.nox (e :: es) t)
    (hm : X.mg x = some (.ref C)) (hg : Gl X x) (hq : PySem.W.excIn X.K C bmVE "ValueError.__new__" = true) (hN : X.N.Nodup) (hi : X.N[i]? = some n) (hk : X.env.scope.names.lookup n = some .local) (hiy : X.N[iy]? = some y) (hky : X.env.scope.names.lookup y = some .local) (hsu : ∀ ea, PSs (X.marked ea) (b₀ :: suite) ts)
    (hst : X.stack = X.env :: X.outer := by rfl) (hf : X.env.frame = some X.env.locals := by rfl) (hdb : (x == ("__debug__" : Str)) = false := by decide)
    (hs : starEach (e :: es) X.env = (false, eval e X.env) :: starEach es X.env := by rfl) (hpl : (backTo pos (starEach es X.env)).any (·.1) = false := by rfl)
    (ht : eval (.Call (.Attribute o m apos) (e :: es) [] pos) X.env = (do
      let ov ← eval o X.env
      standAt apos.atName
      let (f, first) ← holding [ov] (getMethod ov m pl)
      callWith pos f first (backTo pos (starEach (e :: es) X.env)) (backToKw pos (keywordEach [] X.env))) := by rfl)
    (hsw : swapsWith (.Call (.Attribute o m apos) (e :: es) [] pos) (some (.Name y yp)) ap.line X.env = pure false := by rfl) :
    PS X (.Try [.Assign [.Name y yp] (.Call (.Attribute o m apos) (e :: es) [] pos) ap] [.ExceptHandler (some (.Name x np)) (some n) (b₀ :: suite) hpos] [] [] pos3) (tTryM Cl C m sp iy i to t ts) := by
  intro pins s σ H D I h
  refine wpAny_Try_except (wpAny_execs_cons (wpAny_Assign_Name ?_ hsw))
  refine PySem.W.methodCall_KW (pl := pl) (wpAny_mono (ho pins s σ H _ (I.wish _) h) (fun u s1 ⟨xv, H1, I1, rx, a, dx, fs, ex, eo, l, q⟩ => ?_) fun _ _ z => z.elim) ht
  subst ex
  obtain rfl : u = Value.ref a := rx
  have I1' := I1.unwish
  refine getmeth_ok I1' eo c hmt l ?_
  refine PySem.W.callWith_K (first := [.ref a]) (h₀ := X.base) I.ok.mod.kin hmt.kp (wpAny_mono (ha pos pins s1 σ H1 _ I1 q) (fun us s2 ⟨vs, H2, I2, r, q2⟩ => ⟨I2.unwish.kIn, ?_⟩) fun _ _ z => z.elim) hs hpl
  have J := I2.unwish
  have r2 : Vals (V.ref a :: vs) (Value.ref a :: us) := .cons rfl r
  have hl : (Value.ref a :: us).length = ps.length := by rw [← r2.length]; exact F.len _ _ _ _ q2
  have hb' := hb s2 (.ref a :: us) J.kIn (by rw [List.append_nil]; exact hl)
  rw [List.append_nil] at hb'
  refine wpAny_call (codeAny_mono (F.run X.A X.stack s2 H2 ⟨.ref a :: us, []⟩ (.ref a :: us) (.ref a :: vs) _ _ hr J.env0 hb' r2 q2) fun rr s' hq' => ?_)
  cases rr with
  | error ex =>
    obtain ⟨ea, cls, a0, B, H', rfl, fly, hcl, hh⟩ := hq'
    subst hcl
    exact handle_as J fly hst hf hm hg hq hN hi hk (hsu ea) (hh ea fly.new.2) hdb
  | ok fl =>
    cases fl with
    | ret u =>
      obtain ⟨v, H3, I3, r3, q3⟩ := J.after hq'
      refine store_ok I3 hN hiy (.inl hky) r3 (fun s4 I4 => ?_) (.inr hky)
      exact wpAny_execs_nil (wpAny_execs_nil ⟨_, H3, I4, q3⟩)
    | next => exact False.elim hq'
    | brk => exact False.elim hq'
    | cont => exact False.elim hq'
end
def HasM (P : Program) (w : World) (K : PySem.W.Frag) (mg : Str → Option Value) (base : Heap) (CX : CXT) (k : Nat) (f : Addr) (ps : List Str) (sp : Sp) : Prop := ∃ fd : FuncData, FnOk P w K mg base CX k f fd ps sp ∧ Binds K fd ps []
end L2

namespace L2
open PySem PySem.Spec PyProof.Rows PySem.SeqAt
def rInD : R2 := fun x y H Q => ∃ (d : PyData) (ds : List PyData), DA H x d ∧ DA H y (.list ds) ∧ SeqAt.shaped d = true ∧ SeqAt.shaped (.list ds) = true ∧ Q (.bl (ds.any fun z => PyData.eqv z d)) H
end L2

namespace K63
open PySem L2
def top (i : Nat) : Stmt := PySem.Challenge.pw_conicplaces_k63_curves_by_names.main.body.getD i (.Pass ⟨0, 0, 0, 0⟩)
abbrev s_prime_parts : Stmt := top 18
abbrev s_divisor_after : Stmt := top 19
abbrev s_taken_out : Stmt := top 20
abbrev s_core_of : Stmt := top 21
abbrev s_is_without_squares : Stmt := top 22
abbrev s_power_by : Stmt := top 24
abbrev s_sign_by : Stmt := top 25
abbrev s_sign_of_two : Stmt := top 26
abbrev s_sign_of_turn : Stmt := top 27
abbrev s_shares_of : Stmt := top 29
abbrev s_row_less : Stmt := top 30
abbrev s_root_of : Stmt := top 31
abbrev s_above_root : Stmt := top 32
abbrev s_is_plain : Stmt := top 34
abbrev s_bad_places : Stmt := top 35
abbrev s_places_without_point : Stmt := top 36
abbrev s_places_in_question : Stmt := top 37
abbrev s_sign_at : Stmt := top 38
abbrev s_sign_at_odd : Stmt := top 39
abbrev s_sign_at_two : Stmt := top 40
abbrev s_worth_of : Stmt := top 43
abbrev s_changed_by : Stmt := top 44
abbrev s_put_together : Stmt := top 45
abbrev s_size_of : Stmt := top 46
abbrev s_lowest_point : Stmt := top 47
abbrev s_vertex_of : Stmt := top 48
abbrev s_refuse_flat : Stmt := top 49
abbrev s_slopes_of : Stmt := top 50
abbrev s_turned_by : Stmt := top 51
abbrev s_added : Stmt := top 52
abbrev s_stretched : Stmt := top 53
abbrev s_row_product : Stmt := top 54
abbrev s_turned_over : Stmt := top 55
abbrev s_crossing_of : Stmt := top 56
abbrev s_crossings_of : Stmt := top 57
abbrev s_plain_of : Stmt := top 60
abbrev s_corners_of : Stmt := top 61
abbrev s_corners_on : Stmt := top 62
abbrev s_off_curve : Stmt := top 63
abbrev s_cores_of : Stmt := top 64
abbrev s_core_of_cores : Stmt := top 65
abbrev s_back_by : Stmt := top 67
abbrev s_joined_rests : Stmt := top 68
abbrev s_root_or_prime : Stmt := top 70
abbrev s_has_root : Stmt := top 71
abbrev s_root_by_prime : Stmt := top 72
abbrev s_root_by_odd_prime : Stmt := top 73
abbrev s_least_without_root : Stmt := top 74
abbrev s_small_point : Stmt := top 76
abbrev s_fitted_vectors : Stmt := top 77
abbrev s_ratio_by : Stmt := top 78
abbrev s_evened_vectors : Stmt := top 79
abbrev s_settled_vectors : Stmt := top 80
abbrev s_rising : Stmt := top 81
abbrev s_shortened : Stmt := top 82
abbrev s_drawn_to : Stmt := top 83
abbrev s_near_to : Stmt := top 84
abbrev s_point_or_place : Stmt := top 86
abbrev s_bad_of : Stmt := top 87
abbrev s_point_by : Stmt := top 90
abbrev s_led_to : Stmt := top 91
abbrev s_numbers_of : Stmt := top 92
abbrev s_point_on : Stmt := top 93
abbrev s_last_of : Stmt := top 94
abbrev s_standard_of : Stmt := top 96
abbrev s_alike_by : Stmt := top 97
abbrev s_standard_table : Stmt := top 98
abbrev s_turned_back : Stmt := top 99
abbrev s_scale_between : Stmt := top 100
abbrev s_line_met : Stmt := top 102
abbrev s_show_sum : Stmt := top 108
abbrev s_show_term : Stmt := top 109
abbrev s_read_sum : Stmt := top 110
abbrev s_terms_of : Stmt := top 111
abbrev s_read_coefficient : Stmt := top 112
abbrev s_read_size : Stmt := top 113
abbrev s_are_figures : Stmt := top 114
abbrev s_names_of_row : Stmt := top 119
abbrev s_read_whole : Stmt := top 120
abbrev s_answer_to : Stmt := top 121
abbrev s_show_told : Stmt := top 122
abbrev s_parted : Stmt := top 123
abbrev s_cell_at : Stmt := top 125
abbrev s_letters : Stmt := top 126
abbrev s_term : Stmt := top 127
abbrev s_shown : Stmt := top 128
abbrev s_alone : Stmt := top 129
abbrev s_names : Stmt := top 130
abbrev s_name : Stmt := top 131
abbrev s_size : Stmt := top 132
abbrev s_said : Stmt := top 133
abbrev s_form : Stmt := top 134
abbrev s_row_done : Stmt := top 135
abbrev s_law : Stmt := top 136
abbrev s_Desk_init : Stmt := inClass (top 118) 0
abbrev s_Desk_say : Stmt := inClass (top 118) 1
abbrev s_Desk_keep : Stmt := inClass (top 118) 2
abbrev s_Desk_kept : Stmt := inClass (top 118) 3
structure Adr where
  (ce c0 c1 c2 c3 c4 c5 c6 c7 c8 c9 c10 c11 c12 c13 c14 cDesk iDesk_init iDesk_say iDesk_keep iDesk_kept gLETTERS gROWS : Addr) (kFIGURES kEND kNOUGHTS kSMALL : Tok)
def tabROWS : List (Str × PyProof.Rows.KTD.Dat) := [("drop", .tup ([1, 0].map PySem.PyData.int)), ("show", .tup ([1, 0].map PySem.PyData.int)), ("size", .tup ([1, 0].map PySem.PyData.int)), ("point", .tup ([1, 0].map PySem.PyData.int)), ("bad", .tup ([1, 0].map PySem.PyData.int)), ("next", .tup ([1, 5].map PySem.PyData.int)), ("pair", .tup ([1, 6].map PySem.PyData.int)), ("met", .tup ([1, 3].map PySem.PyData.int)), ("alike", .tup ([2, 0].map PySem.PyData.int))]
structure Txt (K : PySem.W.Frag) (mg : Str → Option Value) (t : Adr) : Prop where
  m_CurveError : mg "CurveError" = some (.ref t.ce)
  m_NoNumber : mg "NoNumber" = some (.ref t.c0)
  m_NoBack : mg "NoBack" = some (.ref t.c1)
  m_NoJoin : mg "NoJoin" = some (.ref t.c2)
  m_NoSign : mg "NoSign" = some (.ref t.c3)
  m_NotPlain : mg "NotPlain" = some (.ref t.c4)
  m_NoPlace : mg "NoPlace" = some (.ref t.c5)
  m_BadPlace : mg "BadPlace" = some (.ref t.c6)
  m_NoVertex : mg "NoVertex" = some (.ref t.c7)
  m_Flat : mg "Flat" = some (.ref t.c8)
  m_OffCurve : mg "OffCurve" = some (.ref t.c9)
  m_NoPair : mg "NoPair" = some (.ref t.c10)
  m_NoLine : mg "NoLine" = some (.ref t.c11)
  m_NoText : mg "NoText" = some (.ref t.c12)
  m_NoRow : mg "NoRow" = some (.ref t.c13)
  m_NoName : mg "NoName" = some (.ref t.c14)
  i_ce : PySem.W.kitOne K (.ref t.c14) (.ref t.ce) = some true
  i_0 : PySem.W.kitOne K (.ref t.c14) (.ref t.c0) = some false
  i_1 : PySem.W.kitOne K (.ref t.c14) (.ref t.c1) = some false
  i_2 : PySem.W.kitOne K (.ref t.c14) (.ref t.c2) = some false
  i_3 : PySem.W.kitOne K (.ref t.c14) (.ref t.c3) = some false
  i_4 : PySem.W.kitOne K (.ref t.c14) (.ref t.c4) = some false
  i_5 : PySem.W.kitOne K (.ref t.c14) (.ref t.c5) = some false
  i_6 : PySem.W.kitOne K (.ref t.c14) (.ref t.c6) = some false
  i_7 : PySem.W.kitOne K (.ref t.c14) (.ref t.c7) = some false
  i_8 : PySem.W.kitOne K (.ref t.c14) (.ref t.c8) = some false
  i_9 : PySem.W.kitOne K (.ref t.c14) (.ref t.c9) = some false
  i_10 : PySem.W.kitOne K (.ref t.c14) (.ref t.c10) = some false
  i_11 : PySem.W.kitOne K (.ref t.c14) (.ref t.c11) = some false
  i_12 : PySem.W.kitOne K (.ref t.c14) (.ref t.c12) = some false
  i_13 : PySem.W.kitOne K (.ref t.c14) (.ref t.c13) = some false
  i_14 : PySem.W.kitOne K (.ref t.c14) (.ref t.c14) = some true
  i_ve : PySem.W.kitOne K (.ref t.c14) (.type "ValueError") = some true
  e0 : (PySem.W.clsIn K t.c14).isSome = true
  e1 : PySem.W.findIn K (.ref t.c14) "__getattribute__" = some (some (.builtin "BaseException.__getattribute__"))
  e2 : PySem.W.findIn K (.ref t.c14) "__getattr__" = some none
  e3 : PySem.W.findIn K (.ref t.c14) "__class__" = some (some (.builtin "object.__class__"))
  e4 : PySem.W.specialIn K (.builtin "object.__class__") "__get__" = some (some (.builtin "getset_descriptor.__get__"))
  e5 : PySem.W.takesIn K (.builtin "object.__class__") = some true
  e6 : PySem.W.mroIn K t.c14 (.type "object") = some true
  e7 : PySem.W.mroIn K t.c14 (.type "BaseException") = some true
  x_NoName : PySem.W.excIn K t.c14 bmVE "ValueError.__new__" = true
  m_Desk : mg "Desk" = some (.ref t.cDesk)
  cl1_Desk : PySem.W.plainGet K t.cDesk Str.empty = true
  cl2_Desk : PySem.W.hasDictIn K t.cDesk = true
  cl3_Desk : PySem.W.plainOver K t.cDesk = true
  cl4_Desk : PySem.W.findIn K (.ref t.cDesk) "__setattr__" = some (some (.builtin "object.__setattr__"))
  mk1_Desk : PySem.W.makesIn K t.cDesk = true
  mk2_Desk : PySem.W.keepIn K (.ref t.cDesk) = true
  na_curves : PySem.W.findIn K (.ref t.cDesk) "curves" = some none
  mt1_Desk_init : PySem.W.findIn K (.ref t.cDesk) "__init__" = some (some (.ref t.iDesk_init))
  mt2_Desk_init : PySem.W.isFn K (.ref t.iDesk_init) = true
  mt3_Desk_init : PySem.W.keepIn K (.ref t.iDesk_init) = true
  mt1_Desk_say : PySem.W.findIn K (.ref t.cDesk) "say" = some (some (.ref t.iDesk_say))
  mt2_Desk_say : PySem.W.isFn K (.ref t.iDesk_say) = true
  mt3_Desk_say : PySem.W.keepIn K (.ref t.iDesk_say) = true
  mt1_Desk_keep : PySem.W.findIn K (.ref t.cDesk) "keep" = some (some (.ref t.iDesk_keep))
  mt2_Desk_keep : PySem.W.isFn K (.ref t.iDesk_keep) = true
  mt3_Desk_keep : PySem.W.keepIn K (.ref t.iDesk_keep) = true
  mt1_Desk_kept : PySem.W.findIn K (.ref t.cDesk) "kept" = some (some (.ref t.iDesk_kept))
  mt2_Desk_kept : PySem.W.isFn K (.ref t.iDesk_kept) = true
  mt3_Desk_kept : PySem.W.keepIn K (.ref t.iDesk_kept) = true
  m_FIGURES : mg "FIGURES" = some (.str "0123456789" t.kFIGURES)
  m_LETTERS : mg "LETTERS" = some (.ref t.gLETTERS)
  k_LETTERS : TupK K t.gLETTERS [.str "xx", .str "yy", .str "zz", .str "yz", .str "xz", .str "xy"]
  m_END : mg "END" = some (.str " = 0" t.kEND)
  m_NOUGHTS : mg "NOUGHTS" = some (.str "0 = 0" t.kNOUGHTS)
  m_SMALL : mg "SMALL" = some (.str "abcdefghijklmnopqrstuvwxyz" t.kSMALL)
  m_ROWS : mg "ROWS" = some (.ref t.gROWS)
  k_ROWS : PyProof.Rows.KTD.tabLook (PyProof.Rows.KTD.datLooks fun b => List.lookup b K) (fun b => List.lookup b K) t.gROWS tabROWS = true
  i_ib : PySem.W.kitOne K (.type "int") (.type "bool") = some false
  z_isinstance : mg "isinstance" = none
  z_int : mg "int" = none
  z_bool : mg "bool" = none
  z_len : mg "len" = none
  z_range : mg "range" = none
  z_tuple : mg "tuple" = none
  z_all : mg "all" = none
  z_abs : mg "abs" = none
  z_zip : mg "zip" = none
  z_str : mg "str" = none
  z_list : mg "list" = none
  z_ValueError : mg "ValueError" = none
theorem Txt.exc {K : PySem.W.Frag} {mg : Str → Option Value} {t : Adr} (T : Txt K mg t) : ExcCls K t.c14 := ⟨T.e0, T.e1, T.e2, T.e3, T.e4, T.e5, T.e6, T.e7⟩
theorem Txt.cl_Desk {K : PySem.W.Frag} {mg : Str → Option Value} {t : Adr} (T : Txt K mg t) : Cls K t.cDesk := ⟨T.cl1_Desk, T.cl2_Desk, T.cl3_Desk, T.cl4_Desk⟩
theorem Txt.mk_Desk {K : PySem.W.Frag} {mg : Str → Option Value} {t : Adr} (T : Txt K mg t) : Mk K t.cDesk t.iDesk_init := ⟨T.mk1_Desk, T.mt1_Desk_init, T.mt2_Desk_init, T.mk2_Desk⟩
theorem Txt.me_Desk_say {K : PySem.W.Frag} {mg : Str → Option Value} {t : Adr} (T : Txt K mg t) : Meth K t.cDesk "say" t.iDesk_say := ⟨T.mt1_Desk_say, T.mt2_Desk_say, T.mt3_Desk_say⟩
theorem Txt.me_Desk_keep {K : PySem.W.Frag} {mg : Str → Option Value} {t : Adr} (T : Txt K mg t) : Meth K t.cDesk "keep" t.iDesk_keep := ⟨T.mt1_Desk_keep, T.mt2_Desk_keep, T.mt3_Desk_keep⟩
theorem Txt.me_Desk_kept {K : PySem.W.Frag} {mg : Str → Option Value} {t : Adr} (T : Txt K mg t) : Meth K t.cDesk "kept" t.iDesk_kept := ⟨T.mt1_Desk_kept, T.mt2_Desk_kept, T.mt3_Desk_kept⟩
theorem b_isi : bootBuiltins "isinstance" = some (.builtin "isinstance") := by decide +kernel
theorem b_int : bootBuiltins "int" = some (.type "int") := by decide +kernel
theorem b_tuple : bootBuiltins "tuple" = some (.type "tuple") := by decide +kernel
theorem b_all : bootBuiltins "all" = some (.builtin "all") := by decide +kernel
theorem b_abs : bootBuiltins "abs" = some (.builtin "abs") := by decide +kernel
theorem b_str : bootBuiltins "str" = some (.type "str") := by decide +kernel
theorem b_ValueError : bootBuiltins "ValueError" = some (.type "ValueError") := by decide +kernel
theorem byL0 {P : List Value → Prop} (h : P []) : ∀ us : List Value, us.length = 0 → P us := fun us hl => match us, hl with | [], _ => h
theorem byL1 {P : List Value → Prop} (h : ∀ a0 : Value, P [a0]) : ∀ us : List Value, us.length = 1 → P us := fun us hl => match us, hl with | [a0], _ => h a0
theorem byL2 {P : List Value → Prop} (h : ∀ a0 a1 : Value, P [a0, a1]) : ∀ us : List Value, us.length = 2 → P us := fun us hl => match us, hl with | [a0, a1], _ => h a0 a1
theorem byL3 {P : List Value → Prop} (h : ∀ a0 a1 a2 : Value, P [a0, a1, a2]) : ∀ us : List Value, us.length = 3 → P us := fun us hl => match us, hl with | [a0, a1, a2], _ => h a0 a1 a2
theorem byL4 {P : List Value → Prop} (h : ∀ a0 a1 a2 a3 : Value, P [a0, a1, a2, a3]) : ∀ us : List Value, us.length = 4 → P us := fun us hl => match us, hl with | [a0, a1, a2, a3], _ => h a0 a1 a2 a3
theorem iteDF {c A B : Prop} [Decidable c] (hc : ¬ c) (h : B) : if decide c = true then A else B := by
  rw [decide_eq_false hc]
  exact iteF h
theorem iteDT {c A B : Prop} [Decidable c] (hc : c) (h : A) : if decide c = true then A else B := by
  rw [decide_eq_true hc]
  exact iteT h
theorem neT {c : Prop} [Decidable c] (h : (!decide c) = true) : ¬ c := by
  intro z
  rw [decide_eq_true z] at h
  cases h
theorem neF {c : Prop} [Decidable c] (h : ¬ (!decide c) = true) : c := by
  by_cases z : c
  · exact z
  · exact absurd (by rw [decide_eq_false z]; rfl) h
theorem mulS {a b : Int} (h1 : -(2 ^ 64) < b) (h2 : b < 2 ^ 64) : IntMulOk a b := IntMulOk.of_right (intBits_le_64 h1 h2)
open Tx
theorem hu64_of {A : Around} {k : Nat} (hr : Room k A) : A.units + 64 < cLine := by
  have := hr.un
  omega
theorem hu_of {A : Around} {k : Nat} (hr : Room k A) : A.units + 1 < cLine := by
  have := hr.un
  omega
theorem log_lt {n : Int} (h : n.natAbs < 10 ^ 60) : n.natAbs.log2 < 1920 :=
  Nat.lt_of_lt_of_le (log2_lt_of (k := 200) (Nat.lt_of_lt_of_le h (by decide +kernel)) (by decide)) (by decide)
theorem av_log {n : Int} (h : n.natAbs < 10 ^ 60) : (av n).natAbs.log2 < 1920 := log_lt (by unfold av; split <;> omega)
def zt (fs : List Int) : Ts := (fs.zip LS).filter fun p => decide (p.1 ≠ 0)
def trm (fs : List Int) (k : Nat) : Int × Str := (fs.getD k 0, LS.getD k ⟨#[]⟩)
def ter (fs : List Int) (os : List Nat) : Ts := (os.map (trm fs)).filter fun p => decide (p.1 ≠ 0)
theorem zt_ter {fs : List Int} (h : fs.length = 6) : zt fs = ter fs (List.range 6) := by
  match fs, h with
  | [a, b, c, d, e, f], _ => rfl
theorem ter_snoc (fs : List Int) (os : List Nat) (k : Nat) : ter fs (os ++ [k]) = if fs.getD k 0 ≠ 0 then ter fs os ++ [trm fs k] else ter fs os := by
  unfold ter
  rw [List.map_append, List.filter_append]
  split
  · rename_i h
    rw [List.map_singleton, List.filter_cons, decide_eq_true (show (trm fs k).1 ≠ 0 from h), if_pos rfl, List.filter_nil]
  · rename_i h
    rw [List.map_singleton, List.filter_cons, decide_eq_false (show ¬ (trm fs k).1 ≠ 0 from h), if_neg Bool.false_ne_true, List.filter_nil, List.append_nil]
theorem ls_mem {k : Nat} (h : k < 6) : LS.getD k ⟨#[]⟩ ∈ LS := by
  rw [List.getD_eq_getElem?_getD, List.getElem?_eq_getElem (by rw [LS_len]; exact h)]
  exact List.getElem_mem _
theorem ls_inj {j k : Nat} (hj : j < 6) (hk : k < 6) (e : LS.getD j ⟨#[]⟩ = LS.getD k ⟨#[]⟩) : j = k := by
  have key : ∀ j, j < 6 → ∀ k, k < 6 → LS.getD j ⟨#[]⟩ = LS.getD k ⟨#[]⟩ → j = k := by decide +kernel
  exact key j hj k hk e
theorem getD_mem {fs : List Int} {k : Nat} (h : fs.getD k 0 ≠ 0) : fs.getD k 0 ∈ fs := by
  rw [List.getD_eq_getElem?_getD] at h ⊢
  cases e : fs[k]? with
  | none => rw [e] at h; exact absurd rfl h
  | some x => exact List.mem_of_getElem? e
theorem ter_mem {fs : List Int} {os : List Nat} {p : Int × Str} (h : p ∈ ter fs os) : p.1 ≠ 0 ∧ ∃ k ∈ os, p = trm fs k := by
  obtain ⟨h1, h2⟩ := List.mem_filter.mp h
  obtain ⟨k, hk, e⟩ := List.mem_map.mp h1
  exact ⟨of_decide_eq_true h2, k, hk, e.symm⟩
def Bd (B : Nat) (fs : List Int) : Prop := ∀ x ∈ fs, x.natAbs < B
theorem ter_sm {fs : List Int} {os : List Nat} (hb : Bd (10 ^ 60) fs) (ho : ∀ k ∈ os, k < 6) : Sm (ter fs os) := by
  intro p hp
  obtain ⟨h0, k, hk, rfl⟩ := ter_mem hp
  exact ⟨(LS_let _ (ls_mem (ho k hk))).2, hb _ (getD_mem h0)⟩
theorem ter_let {fs : List Int} {os : List Nat} (ho : ∀ k ∈ os, k < 6) : ∀ p ∈ ter fs os, Let p.2 := by
  intro p hp
  obtain ⟨h0, k, hk, rfl⟩ := ter_mem hp
  exact LS_let _ (ls_mem (ho k hk))
theorem ter_len (fs : List Int) (os : List Nat) : (ter fs os).length ≤ os.length := by
  unfold ter
  have := List.length_filter_le (fun p : Int × Str => decide (p.1 ≠ 0)) (os.map (trm fs))
  rw [List.length_map] at this
  exact this
def Gd (ts : Ts) : Prop := (∀ p ∈ ts, p.2 ∈ LS ∧ p.1 ≠ 0 ∧ p.1.natAbs < 10 ^ 6) ∧ (ts.map (·.2)).Nodup ∧ ts.length ≤ 6
theorem Gd.let {ts : Ts} (h : Gd ts) : ∀ p ∈ ts, Let p.2 := fun p m => LS_let _ (h.1 p m).1
theorem Gd.sm {ts : Ts} (h : Gd ts) : Sm ts := fun p m => ⟨(h.let p m).2, Nat.lt_of_lt_of_le (h.1 p m).2.2 (by decide)⟩
theorem ter_gd {fs : List Int} {os : List Nat} (hb : Bd (10 ^ 6) fs) (hp : os.Perm (List.range 6)) : Gd (ter fs os) := by
  have ho : ∀ k ∈ os, k < 6 := fun k m => List.mem_range.mp (hp.mem_iff.mp m)
  refine ⟨fun p m => ?_, ?_, ?_⟩
  · obtain ⟨h0, k, hk, rfl⟩ := ter_mem m
    exact ⟨ls_mem (ho k hk), h0, hb _ (getD_mem h0)⟩
  · have hn : os.Nodup := hp.nodup_iff.mpr List.nodup_range
    have : ((os.map (trm fs)).map (·.2)).Nodup := by
      rw [List.map_map]
      clear hp
      induction os with
      | nil => exact List.nodup_nil
      | cons a os ih =>
        rw [List.nodup_cons] at hn
        rw [List.map_cons, List.nodup_cons]
        refine ⟨fun m => ?_, ih (fun k m => ho k (List.mem_cons_of_mem _ m)) hn.2⟩
        obtain ⟨b, hb', e⟩ := List.mem_map.mp m
        have := ls_inj (ho b (List.mem_cons_of_mem _ hb')) (ho a (List.mem_cons_self ..)) e
        exact hn.1 (this ▸ hb')
    exact (List.Sublist.map _ List.filter_sublist).nodup this
  · have := ter_len fs os
    have := hp.length_eq
    rw [List.length_range] at this
    omega
def vl (ts : Ts) (l : Str) : Int := ((ts.find? fun p => decide (p.2 = l)).map (·.1)).getD 0
theorem vl_in {ts : Ts} (hn : (ts.map (·.2)).Nodup) {n : Int} {l : Str} (h : (n, l) ∈ ts) : vl ts l = n := by
  induction ts with
  | nil => cases h
  | cons p ts ih =>
    rw [List.map_cons, List.nodup_cons] at hn
    unfold vl
    by_cases e : p.2 = l
    · rw [List.find?_cons, decide_eq_true e]
      rcases List.mem_cons.mp h with z | z
      · rw [← z]; rfl
      · exact absurd (List.mem_map.mpr ⟨_, z, e.symm⟩) hn.1
    · rw [List.find?_cons, decide_eq_false e]
      rcases List.mem_cons.mp h with z | z
      · exact absurd (by rw [← z]) e
      · exact ih hn.2 z
theorem vl_out {ts : Ts} {l : Str} (h : ∀ p ∈ ts, p.2 ≠ l) : vl ts l = 0 := by
  unfold vl
  rw [List.find?_eq_none.mpr (fun p m => by rw [decide_eq_false (h p m)]; decide)]
  rfl
theorem vl_ter {fs : List Int} {os : List Nat} (hb : Bd (10 ^ 6) fs) (hp : os.Perm (List.range 6)) {k : Nat} (hk : k < 6) : vl (ter fs os) (LS.getD k ⟨#[]⟩) = fs.getD k 0 := by
  have hm : k ∈ os := hp.mem_iff.mpr (List.mem_range.mpr hk)
  by_cases h0 : fs.getD k 0 = 0
  · rw [h0]
    refine vl_out fun p m e => ?_
    obtain ⟨h1, j, hj, rfl⟩ := ter_mem m
    have := ls_inj (List.mem_range.mp (hp.mem_iff.mp hj)) hk e
    subst this
    exact h1 h0
  · exact vl_in (ter_gd hb hp).2.1 (List.mem_filter.mpr ⟨List.mem_map.mpr ⟨k, hm, rfl⟩, decide_eq_true h0⟩)
def VS (ts : Ts) : List V := LS.map fun l => V.int (vl ts l)
theorem VS_ter {fs : List Int} {os : List Nat} (h6 : fs.length = 6) (hb : Bd (10 ^ 6) fs) (hp : os.Perm (List.range 6)) : VS (ter fs os) = fs.map V.int := by
  have k0 := vl_ter hb hp (k := 0) (by decide)
  have k1 := vl_ter hb hp (k := 1) (by decide)
  have k2 := vl_ter hb hp (k := 2) (by decide)
  have k3 := vl_ter hb hp (k := 3) (by decide)
  have k4 := vl_ter hb hp (k := 4) (by decide)
  have k5 := vl_ter hb hp (k := 5) (by decide)
  match fs, h6 with
  | [a, b, c, d, e, f], _ =>
    show [V.int (vl _ (LS.getD 0 ⟨#[]⟩)), V.int (vl _ (LS.getD 1 ⟨#[]⟩)), V.int (vl _ (LS.getD 2 ⟨#[]⟩)), V.int (vl _ (LS.getD 3 ⟨#[]⟩)), V.int (vl _ (LS.getD 4 ⟨#[]⟩)), V.int (vl _ (LS.getD 5 ⟨#[]⟩))] = _
    rw [k0, k1, k2, k3, k4, k5]
    rfl
def kd (ts : Ts) : List (Key × V) := ts.map fun p => ((.inr p.2 : Key), V.int p.1)
theorem kd_val (ts : Ts) (l : Str) : valV (kd ts) (.inr l) = (ts.find? fun p => decide (p.2 = l)).map fun p => V.int p.1 := by
  induction ts with
  | nil => rfl
  | cons p ts ih =>
    by_cases e : p.2 = l
    · rw [List.find?_cons, decide_eq_true e]
      exact valV_pos (p := ((.inr p.2 : Key), V.int p.1)) (by rw [e])
    · rw [List.find?_cons, decide_eq_false e]
      rw [show kd (p :: ts) = ((.inr p.2 : Key), V.int p.1) :: kd ts from rfl, valV_neg (fun z => e (Sum.inr.inj z))]
      exact ih
theorem kd_get (ts : Ts) (l : Str) : (valV (kd ts) (.inr l)).getD (.int 0) = .int (vl ts l) := by
  rw [kd_val]
  unfold vl
  cases ts.find? fun p => decide (p.2 = l) <;> rfl
theorem kd_new {ts : Ts} {l : Str} (h : l ∉ ts.map (·.2)) : valV (kd ts) (.inr l) = none := by
  rw [kd_val, List.find?_eq_none.mpr (fun p m => by rw [decide_eq_false (fun e => h (List.mem_map.mpr ⟨p, m, e⟩))]; decide)]
  rfl
theorem kd_put {ts : Ts} {p : Int × Str} (h : p.2 ∉ ts.map (·.2)) : putK (kd ts) (.inr p.2) (.int p.1) = kd (ts ++ [p]) := by
  rw [putK_new _ (kd_new h)]
  unfold kd
  rw [List.map_append]
  rfl
def LayL (H : Hp) : List Addr → List (List Str) → Prop
  | [], [] => True
  | a :: as, g :: gs => H a = some (.lst (g.map V.str)) ∧ LayL H as gs
  | _, _ => False
theorem LayL.snoc {H : Hp} : ∀ {as : List Addr} {gs : List (List Str)} {a : Addr} {g : List Str}, LayL H as gs → H a = some (.lst (g.map V.str)) → LayL H (as ++ [a]) (gs ++ [g])
  | [], [], _, _, _, h => ⟨h, trivial⟩
  | _ :: _, _ :: _, _, _, h, h' => ⟨h.1, LayL.snoc h.2 h'⟩
  | [], _ :: _, _, _, h, _ => h.elim
  | _ :: _, [], _, _, h, _ => h.elim
theorem LayL.last {H : Hp} : ∀ {as : List Addr} {gs : List (List Str)} {g : List Str}, LayL H as (gs ++ [g]) → ∃ bs b, as = bs ++ [b] ∧ LayL H bs gs ∧ H b = some (.lst (g.map V.str))
  | [], [], _, h => h.elim
  | [a], [], _, h => ⟨[], a, rfl, trivial, h.1⟩
  | _ :: _ :: _, [], _, h => h.2.elim
  | [], _ :: _, _, h => h.elim
  | a :: as, _ :: gs, _, h => by
    obtain ⟨bs, b, e, h1, h2⟩ := LayL.last h.2
    exact ⟨a :: bs, b, by rw [e]; rfl, ⟨h.1, h1⟩, h2⟩
theorem LayL.upd {H : Hp} {p : Addr} {o : HO} : ∀ {as : List Addr} {gs : List (List Str)}, LayL H as gs → p ∉ as → LayL (upd H p o) as gs
  | [], [], _, _ => trivial
  | a :: as, g :: gs, h, n => ⟨by rw [upd_ne (fun e => n (by rw [e]; exact List.mem_cons_self ..))]; exact h.1, h.2.upd fun m => n (List.mem_cons_of_mem _ m)⟩
  | [], _ :: _, h, _ => h.elim
  | _ :: _, [], h, _ => h.elim
theorem LayL.same {H H' : Hp} (s : Same H H') : ∀ {as : List Addr} {gs : List (List Str)}, LayL H as gs → LayL H' as gs
  | [], [], _ => trivial
  | a :: as, g :: gs, h => ⟨s _ _ h.1, h.2.same s⟩
  | [], _ :: _, h => h.elim
  | _ :: _, [], h => h.elim
theorem LayL.ne {H : Hp} {p : Addr} (hp : H p = none) : ∀ {as : List Addr} {gs : List (List Str)}, LayL H as gs → p ∉ as
  | [], [], _ => List.not_mem_nil
  | a :: as, g :: gs, h => fun m => by
    rcases List.mem_cons.mp m with e | m
    · rw [e, h.1] at hp; cases hp
    · exact h.2.ne hp m
  | [], _ :: _, h => h.elim
  | _ :: _, [], h => h.elim
theorem LayL.len {H : Hp} : ∀ {as : List Addr} {gs : List (List Str)}, LayL H as gs → as.length = gs.length
  | [], [], _ => rfl
  | a :: as, g :: gs, h => by rw [List.length_cons, List.length_cons, h.2.len]
  | [], _ :: _, h => h.elim
  | _ :: _, [], h => h.elim
theorem LayL.at {H : Hp} : ∀ {as : List Addr} {gs : List (List Str)} {i : Nat} {a : Addr}, LayL H as gs → as[i]? = some a → ∃ g, gs[i]? = some g ∧ H a = some (.lst (g.map V.str))
  | a :: as, g :: gs, 0, b, h, e => by
    have : a = b := by simpa using e
    exact ⟨g, rfl, this ▸ h.1⟩
  | a :: as, g :: gs, i + 1, b, h, e => LayL.at (i := i) h.2 (by simpa using e)
  | [], [], _, _, _, e => by simp at e
  | [], _ :: _, _, _, h, _ => h.elim
  | _ :: _, [], _, _, h, _ => h.elim
theorem isS_in (w : Str) : inV (.str w) [.str ⟨#[43]⟩, .str ⟨#[45]⟩] = isS w := by
  show ((⟨#[43]⟩ : Str) == w || ((⟨#[45]⟩ : Str) == w || false)) = (decide (w = ⟨#[43]⟩) || decide (w = ⟨#[45]⟩))
  rw [Bool.or_false]
  congr 1 <;> rw [Bool.eq_iff_iff, beq_iff_eq, decide_eq_true_iff] <;> exact eq_comm
theorem LS_in {l : Str} (h : l ∈ LS) : inV (.str l) (LS.map V.str) = true := by
  unfold inV
  rw [List.any_eq_true]
  exact ⟨.str l, List.mem_map.mpr ⟨l, h, rfl⟩, by show (l == l) = true; exact beq_self_eq_true l⟩
def numF (c : Int) : Int := if c * 67867967 % 998244353 % 5 < 2 then c * 67867967 % 998244353 / 5 % 3 - 1 else if c * 67867967 % 998244353 % 5 = 2 then c * 67867967 % 998244353 / 5 % 25 - 12 else c * 67867967 % 998244353 / 5 * 31 % 1999999 - 999999
def spTerm : Sp := fun vs H Q _ => ∃ (n : Int) (l : Str), vs = [.int n, .str l] ∧ n.natAbs < 10 ^ 60 ∧ (L l).length = 2 ∧ Q (.str (pt (n, l))) H
def spShow : Sp := fun vs H Q _ => ∃ (p : Addr) (fs : List Int), vs = [.ref p] ∧ H p = some (.tup (fs.map V.int)) ∧ fs.length = 6 ∧ Bd (10 ^ 60) fs ∧ ∀ H', Same H H' → Q (.str (fu (zt fs))) H'
def spFig : Sp := fun vs H Q _ => ∃ m : Int, vs = [.str (nu m), .int 6] ∧ 2 ≤ m ∧ m < 10 ^ 6 ∧ ∀ H', Same H H' → Q (.bl true) H'
def spSize (K : PySem.W.Frag) : Sp := fun vs H Q _ => ∃ (p : Addr) (m : Int), vs = [.ref p] ∧ SqL K H p [.str (nu m)] ∧ 2 ≤ m ∧ m < 10 ^ 6 ∧ ∀ H', Same H H' → Q (.int m) H'
def spCoef (K : PySem.W.Frag) : Sp := fun vs H Q _ => ∃ (p : Addr) (q : Int × Str), vs = [.ref p] ∧ SqL K H p ((grp q).map V.str) ∧ q.1 ≠ 0 ∧ q.1.natAbs < 10 ^ 6 ∧ ∀ H', Same H H' → Q (.int q.1) H'
def spTerms : Sp := fun vs H Q _ => ∃ ts : Ts, vs = [.str (tx ts)] ∧ ts ≠ [] ∧ (∀ p ∈ ts, Let p.2) ∧ Sm ts ∧ ts.length ≤ 6 ∧ ∀ (a : Addr) (as : List Addr) (H' : Hp), Same H H' → H' a = some (.lst (as.map V.ref)) → LayL H' as (ts.map grp) → Q (.ref a) H'
def spRead : Sp := fun vs H Q _ => ∃ ts : Ts, vs = [.str (fu ts)] ∧ Gd ts ∧ ∀ (p : Addr) (H' : Hp), Same H H' → H' p = some (.tup (VS ts)) → Q (.ref p) H'
def spLetters : Sp := fun vs H Q _ => vs = [] ∧ ∀ p, H p = none → Q (.ref p) (upd H p (.lst (LS.map V.str)))
def spTm : Sp := fun vs H Q _ => ∃ (n : Int) (l : Str), vs = [.int n, .str l] ∧ n.natAbs < 10 ^ 60 ∧ (L l).length = 2 ∧ Q (.str (tmS n l)) H
def spShown (K : PySem.W.Frag) : Sp := fun vs H Q _ => ∃ (f o : Addr) (fs : List Int) (os : List Nat), vs = [.ref f, .ref o] ∧ (H f = some (.lst (fs.map V.int)) ∨ H f = some (.tup (fs.map V.int))) ∧ SqL K H o (os.map fun k : Nat => V.int k) ∧ fs.length = 6 ∧ Bd (10 ^ 60) fs ∧ os.length ≤ 6 ∧ (∀ k ∈ os, k < 6) ∧
  ∀ H', Same H H' → Q (.str (fu (ter fs os))) H'
def spOrder : Sp := fun vs H Q _ => ∃ c : Int, vs = [.int c] ∧ ∀ (p : Addr) (H' : Hp) (os : List Nat), Same H H' → H' p = some (.lst (os.map fun k : Nat => V.int k)) → os.Perm (List.range 6) → Q (.ref p) H'
def spSame : Sp := fun vs H Q _ => ∃ (p q : Addr) (fs : List Int), vs = [.ref p, .ref q] ∧ H p = some (.tup (fs.map V.int)) ∧ H q = some (.tup (fs.map V.int)) ∧ fs.length = 6 ∧ ∀ H', Same H H' → Q (.bl true) H'
def spNum : Sp := fun vs H Q _ => ∃ c : Int, vs = [.int c] ∧ Q (.int (numF c)) H
theorem ifC {c : Prop} [Decidable c] {a b : V} {σ : St} {H : Hp} {R : VK} (h : R (if c then a else b) H) : if decide c = true then tC a σ H R else tC b σ H R := by
  by_cases hc : c
  · rw [if_pos hc] at h
    rw [decide_eq_true hc]
    exact h
  · rw [if_neg hc] at h
    rw [decide_eq_false hc]
    exact h
theorem sg_val (n : Int) : (if n < 0 then V.str " - " else V.str " + ") = V.str (sgB n) := by
  unfold sgB
  split <;> rfl
theorem em_app (a : Str) : Str.empty ++ a = a := PySem.W.KT.empty_app a
theorem big100 : 1000 ≤ sizeLine := by decide
theorem iteFE {b : Bool} {A B : Prop} (h : b = false) (hB : B) : if b = true then A else B := by
  subst h
  exact iteF hB
theorem iteTE {b : Bool} {A B : Prop} (h : b = true) (hA : A) : if b = true then A else B := by
  subst h
  exact iteT hA
theorem nu_no {m : Int} (m0 : 2 ≤ m) (m1 : m < 10 ^ 6) : inV (.str (nu m)) [.str "0", .str "1"] = false := by
  have r : PySem.intText? (nu m) = some m := PySem.W.KIN.num_reads (by omega) (by omega)
  have z0 : PySem.intText? ("0" : Str) = some 0 := by decide +kernel
  have z1 : PySem.intText? ("1" : Str) = some 1 := by decide +kernel
  show ((("0" : Str) == nu m) || ((("1" : Str) == nu m) || false)) = false
  rw [Bool.or_false, Bool.or_eq_false_iff]
  constructor <;> rw [beq_eq_false_iff_ne] <;> intro e <;> rw [← e] at r
  · rw [z0] at r; have := Option.some.inj r; omega
  · rw [z1] at r; have := Option.some.inj r; omega
theorem grp_one {n : Int} {l : Str} (h : av n = 1) : grp (n, l) = [sg n, l] := by
  show sg n :: (if av n = 1 then [l] else [nu (av n), l]) = _
  rw [if_pos h]
theorem grp_two {n : Int} {l : Str} (h : ¬ av n = 1) : grp (n, l) = [sg n, nu (av n), l] := by
  show sg n :: (if av n = 1 then [l] else [nu (av n), l]) = _
  rw [if_neg h]
def fV : V × V → V
  | (.int n, .str l) => .str (pt (n, l))
  | _ => .non
theorem zipV : ∀ (fs : List Int) (ls : List Str), (((fs.map V.int).zip (ls.map V.str)).filter fun v => !decide (v.1 = V.int 0)).map fV = (((fs.zip ls).filter fun p => decide (p.1 ≠ 0)).map pt).map V.str
  | [], _ => by simp
  | _ :: _, [] => by simp
  | n :: fs, l :: ls => by
    have ih := zipV fs ls
    rw [List.map_cons, List.map_cons, List.zip_cons_cons, List.zip_cons_cons, List.filter_cons, List.filter_cons]
    by_cases h : n = 0
    · rw [decide_eq_true (show V.int n = V.int 0 by rw [h]), decide_eq_false (show ¬ n ≠ 0 from fun z => z h)]
      exact ih
    · rw [decide_eq_false (show ¬ V.int n = V.int 0 from fun z => h (V.int.inj z)), decide_eq_true (show n ≠ 0 from h)]
      show fV (V.int n, V.str l) :: _ = V.str (pt (n, l)) :: _
      rw [ih]
      rfl
theorem hd_val (n : Int) : (if n < 0 then V.str "-" else V.str "") = V.str (hd n) := by
  unfold hd
  split <;> rfl
theorem fu_nil : (fu [] : Str) = "0 = 0" := by decide +kernel
theorem ifB {b : Bool} {u v : V} {c : Prop} [Decidable c] (e : b = decide c) {σ : St} {H : Hp} {R : VK} (h : R (if c then u else v) H) : if b = true then tC u σ H R else tC v σ H R := by
  rw [e]
  exact ifC h
def sn (ts : Ts) (n : Int) : Str := if ts = [] then hd n else sgB n
theorem tx_add (ts : Ts) (n : Int) (l : Str) : tx ts ++ sn ts n ++ tmS n l = tx (ts ++ [(n, l)]) := by
  unfold sn
  split
  · rename_i h
    subst h
    rw [List.nil_append, tx_one]
    show (⟨#[]⟩ : Str) ++ hd n ++ tmS n l = _
    rw [e_app]
  · rename_i h
    rw [tx_snoc h]
theorem tx_nil {ts : Ts} (h : ∀ p ∈ ts, Let p.2) : (V.str (tx ts) = V.str "") ↔ ts = [] := by
  constructor
  · intro e
    match ts, h with
    | [], _ => rfl
    | p :: r, h => exact absurd (V.str.inj e) (tx_ne (h p (List.mem_cons_self ..))).1
  · intro e
    subst e
    rfl
theorem at_sgB (n : Int) : atI [V.str " + ", V.str " - "] (if decide (n < 0) = true then 1 else 0) = some (.str (sgB n)) := by
  unfold sgB
  by_cases h : n < 0
  · rw [decide_eq_true h, if_pos rfl, if_pos h]; rfl
  · rw [decide_eq_false h, if_neg Bool.false_ne_true, if_neg h]; rfl
theorem at_hd (n : Int) : atI [V.str "", V.str "-"] (if decide (n < 0) = true then 1 else 0) = some (.str (hd n)) := by
  unfold hd
  by_cases h : n < 0
  · rw [decide_eq_true h, if_pos rfl, if_pos h]; rfl
  · rw [decide_eq_false h, if_neg Bool.false_ne_true, if_neg h]; rfl
theorem sn_len (ts : Ts) (n : Int) : (sn ts n).length ≤ 3 := by
  unfold sn
  have := hd_len n
  have := sgB_len n
  split <;> omega
theorem at_LS {k : Nat} (h : k < 6) : atI (LS.map V.str) (k : Int) = some (.str (LS.getD k ⟨#[]⟩)) := by
  refine atI_nat ?_
  rw [List.getElem?_map, List.getD_eq_getElem?_getD, List.getElem?_eq_getElem (by rw [LS_len]; exact h)]
  rfl
theorem wd_len (p : Int × Str) : (wd p).length ≤ 2 := by
  unfold wd
  split <;> simp
theorem ww_len : ∀ {ts : Ts}, (ww ts).length ≤ 3 * ts.length
  | [] => by decide
  | p :: r => by
    have := ww_len (ts := r)
    have := wd_len p
    show (sg p.1 :: (wd p ++ ww r)).length ≤ _
    rw [List.length_cons, List.length_append, List.length_cons]
    omega
theorem parts_le {a b : Str} : (Builtin.Str.partsBetween a (Builtin.Str.occurrences a b 0 a.length (a.length + 1)) b.length).length ≤ a.length + 2 := by
  rw [PyProof.Rows.len_partsBetween]
  have := StrLaws.occ_length_le a b 0 a.length (a.length + 1)
  omega
theorem stp_two {gs : List (List Str)} {w : Str} : (isS w = true ∧ stp gs w = gs ++ [[w]]) ∨ (isS w = false ∧ ((gs = [] ∧ stp gs w = []) ∨ ∃ g0 g, gs = g0 ++ [g] ∧ stp gs w = g0 ++ [g ++ [w]])) := by
  cases e : isS w with
  | true => exact .inl ⟨rfl, stp_sign e⟩
  | false =>
    refine .inr ⟨rfl, ?_⟩
    by_cases h : gs = []
    · subst h
      refine .inl ⟨rfl, ?_⟩
      unfold stp
      rw [e]
      rfl
    · have e2 := (List.dropLast_concat_getLast h).symm
      exact .inr ⟨_, _, e2, by rw (config := { occs := .pos [1] }) [e2]; exact stp_word e⟩
theorem stp_bd {gs : List (List Str)} {w : Str} {k : Nat} (h : ∀ g ∈ gs, g.length ≤ k) (h2 : gs.length ≤ k) : (∀ g ∈ stp gs w, g.length ≤ k + 1) ∧ (stp gs w).length ≤ k + 1 := by
  rcases stp_two (gs := gs) (w := w) with ⟨_, e⟩ | ⟨_, ⟨_, e⟩ | ⟨g0, g, e0, e⟩⟩ <;> rw [e]
  · refine ⟨fun x hx => ?_, by rw [List.length_append]; simpa using h2⟩
    rcases List.mem_append.mp hx with m | m
    · have := h x m; omega
    · rw [List.mem_singleton.mp m]; simp
  · exact ⟨fun x hx => (by cases hx), by simp⟩
  · subst e0
    refine ⟨fun x hx => ?_, by rw [List.length_append] at *; simpa using Nat.le_succ_of_le h2⟩
    rcases List.mem_append.mp hx with m | m
    · have := h x (List.mem_append_left _ m); omega
    · rw [List.mem_singleton.mp m, List.length_append]
      have := h g (List.mem_append_right _ (List.mem_singleton.mpr rfl))
      simpa using this
theorem fold_bd : ∀ (ws : List Str) (gs : List (List Str)) (k : Nat), (∀ g ∈ gs, g.length ≤ k) → gs.length ≤ k → (∀ g ∈ ws.foldl stp gs, g.length ≤ k + ws.length) ∧ (ws.foldl stp gs).length ≤ k + ws.length
  | [], gs, k, h, h2 => ⟨h, h2⟩
  | w :: ws, gs, k, h, h2 => by
    have := stp_bd (w := w) h h2
    have := fold_bd ws (stp gs w) (k + 1) this.1 this.2
    rw [List.foldl_cons, List.length_cons]
    rw [show k + (ws.length + 1) = k + 1 + ws.length by omega]
    exact this
def gpA (W : List Str) (i : Nat) : List (List Str) := (W.take i).foldl stp []
theorem gpA_succ {W : List Str} {i : Nat} {w : Str} (h : W[i]? = some w) : gpA W (i + 1) = stp (gpA W i) w := by
  unfold gpA
  rw [List.take_succ, h, List.foldl_append]
  rfl
theorem gpA_bd (W : List Str) (i : Nat) : (∀ g ∈ gpA W i, g.length ≤ i) ∧ (gpA W i).length ≤ i := by
  have := fold_bd (W.take i) [] 0 (fun g m => by cases m) (Nat.le_refl _)
  have l : (W.take i).length ≤ i := by rw [List.length_take]; omega
  exact ⟨fun g m => Nat.le_trans (this.1 g m) (by omega), Nat.le_trans this.2 (by omega)⟩
theorem gpA_ne {a : Str} {W : List Str} {i : Nat} (ha : isS a = true) (hi : 0 < i) : gpA (a :: W) i ≠ [] := by
  match i, hi with
  | i + 1, _ =>
    unfold gpA
    rw [List.take_succ_cons, List.foldl_cons]
    exact fold_ne _ _ (stp_ne (.inl ha))
theorem gpA_all {ts : Ts} (h : ∀ p ∈ ts, Let p.2) : gpA (ww ts) (ww ts).length = ts.map grp := by
  unfold gpA
  rw [List.take_length, fold_ww ts [] h, List.nil_append]
structure Grp (H H' : Hp) (w l : Addr) (W : List Str) (as : List Addr) (gs : List (List Str)) : Prop where
  sm : Same H H'
  hw : H' w = some (.lst (W.map V.str))
  hl : H' l = some (.lst (as.map V.ref))
  ly : LayL H' as gs
  nd : as.Nodup
  nl : l ∉ as
  nw : w ∉ as
  ne : l ≠ w
  fr : ∀ a ∈ as, H a = none
  fl : H l = none
theorem Grp.new {H H' : Hp} {w l : Addr} {W : List Str} {as : List Addr} {gs : List (List Str)} (G : Grp H H' w l W as gs) {p : Addr} (hp : H' p = none) (o : HO) : Grp H (upd H' p o) w l W as gs :=
  have s := same_new hp o
  { sm := G.sm.trans s, hw := s _ _ G.hw, hl := s _ _ G.hl, ly := G.ly.same s, nd := G.nd, nl := G.nl, nw := G.nw, ne := G.ne, fr := G.fr, fl := G.fl }
theorem Grp.open {H H' : Hp} {w l : Addr} {W : List Str} {as : List Addr} {gs : List (List Str)} (G : Grp H H' w l W as gs) {a : Addr} (ha : H' a = none) : Grp H (upd (upd H' a (.lst [])) l (.lst (as.map V.ref ++ [.ref a]))) w l W (as ++ [a]) (gs ++ [[]]) := by
  have s := same_new ha (.lst [])
  have na : a ∉ as := G.ly.ne ha
  have la : l ≠ a := fun e => by rw [← e, G.hl] at ha; cases ha
  have wa : w ≠ a := fun e => by rw [← e, G.hw] at ha; cases ha
  have Ha : H a = none := by
    cases e : H a with
    | none => rfl
    | some o => rw [G.sm _ _ e] at ha; cases ha
  have nl' : l ∉ as ++ [a] := fun m => by
    rcases List.mem_append.mp m with m | m
    · exact G.nl m
    · exact la (List.mem_singleton.mp m)
  refine { sm := same_upd (G.sm.trans s) G.fl, hw := ?_, hl := ?_, ly := ?_, nd := ?_, nl := nl', nw := ?_, ne := G.ne, fr := ?_, fl := G.fl }
  · rw [upd_ne (Ne.symm G.ne)]
    exact s _ _ G.hw
  · rw [upd_same, List.map_append]
    rfl
  · refine LayL.upd (LayL.snoc (G.ly.same s) ?_) nl'
    exact upd_same
  · rw [List.nodup_append]
    refine ⟨G.nd, by simp, ?_⟩
    intro x hx y hy e
    rw [List.mem_singleton.mp hy] at e
    exact na (e ▸ hx)
  · intro m
    rcases List.mem_append.mp m with m | m
    · exact G.nw m
    · exact wa (List.mem_singleton.mp m)
  · intro x m
    rcases List.mem_append.mp m with m | m
    · exact G.fr x m
    · rw [List.mem_singleton.mp m]; exact Ha
theorem Grp.word {H H' : Hp} {w l : Addr} {W : List Str} {as : List Addr} {g0 : List (List Str)} {g : List Str} (G : Grp H H' w l W as (g0 ++ [g])) : ∃ bs b, as = bs ++ [b] ∧ H' b = some (.lst (g.map V.str)) ∧ ∀ x : Str, Grp H (upd H' b (.lst (g.map V.str ++ [.str x]))) w l W as (g0 ++ [g ++ [x]]) := by
  obtain ⟨bs, b, rfl, h1, h2⟩ := G.ly.last
  refine ⟨bs, b, rfl, h2, fun x => ?_⟩
  have bm : b ∈ bs ++ [b] := List.mem_append_right _ (List.mem_singleton.mpr rfl)
  have lb : l ≠ b := fun e => G.nl (e ▸ bm)
  have wb : w ≠ b := fun e => G.nw (e ▸ bm)
  have nb : b ∉ bs := by
    have := G.nd
    rw [List.nodup_append] at this
    exact fun m => this.2.2 b m b (List.mem_singleton.mpr rfl) rfl
  refine { sm := same_upd G.sm (G.fr b bm), hw := ?_, hl := ?_, ly := ?_, nd := G.nd, nl := G.nl, nw := G.nw, ne := G.ne, fr := G.fr, fl := G.fl }
  · rw [upd_ne wb]; exact G.hw
  · rw [upd_ne lb]; exact G.hl
  · refine LayL.snoc (LayL.upd h1 nb) ?_
    rw [upd_same, List.map_append]
    rfl
theorem sl_one_len {x : Str} {k : Nat} (h : 1 ≤ x.length) (hk : x.length ≤ k) : (Txt.slice x (some 1) none).length ≤ k := by
  have e := slice_from (x := x) (i := 1) h
  rw [show ((1 : Nat) : Int) = 1 from rfl] at e
  rw [← len_L, e, List.length_drop, len_L]
  omega
theorem tx_pos {n : Int} {l : Str} {r : Ts} (h : Let l) : 1 ≤ (tx ((n, l) :: r)).length := by
  have := (tx_ne (p := (n, l)) (r := r) h).1
  cases e : (tx ((n, l) :: r)).length with
  | zero =>
    exfalso
    apply this
    refine ext ?_
    rw [← len_L] at e
    rw [List.eq_nil_of_length_eq_zero e]
  | succ k => omega
theorem sg_neg {n : Int} (h : n < 0) : sg n = "-" := by unfold sg; rw [if_pos h]; rfl
theorem sg_pos {n : Int} (h : ¬ n < 0) : sg n = "+" := by unfold sg; rw [if_neg h]; rfl
theorem cat_ok {H : Hp} {p1 p2 : Addr} {a b : List V} (n1 : H p1 = none) (n2 : (upd H p1 (.lst a)) p2 = none) : (upd (upd H p1 (.lst a)) p2 (.lst b)) p1 = some (.lst a) ∧ Same H (upd (upd H p1 (.lst a)) p2 (.lst b)) := by
  have p12 : p1 ≠ p2 := fun e => by rw [← e, upd_same] at n2; cases n2
  exact ⟨by rw [upd_ne p12, upd_same], (same_new n1 _).trans (same_new n2 _)⟩
theorem LayL.no {H : Hp} {p : Addr} {k : List (Key × V)} (hp : H p = some (.dK k)) : ∀ {as : List Addr} {gs : List (List Str)}, LayL H as gs → p ∉ as
  | [], [], _ => List.not_mem_nil
  | a :: as, g :: gs, h => fun m => by
    rcases List.mem_cons.mp m with e | m
    · rw [e, h.1] at hp; cases hp
    · exact h.2.no hp m
  | [], _ :: _, h => h.elim
  | _ :: _, [], h => h.elim
theorem grp_last (p : Int × Str) : ∃ g, grp p = g ++ [p.2] := by
  obtain ⟨n, l⟩ := p
  by_cases h : av n = 1
  · exact ⟨[sg n], by rw [grp_one h]; rfl⟩
  · exact ⟨[sg n, nu (av n)], by rw [grp_two h]; rfl⟩
theorem nd_take {ts : Ts} {i : Nat} {p : Int × Str} (h : (ts.map (·.2)).Nodup) (e : ts[i]? = some p) : p.2 ∉ (ts.take i).map (·.2) := by
  obtain ⟨hi, rfl⟩ := List.getElem?_eq_some_iff.mp e
  have : ts = ts.take i ++ ts[i] :: ts.drop (i + 1) := by rw [← List.drop_eq_getElem_cons hi, List.take_append_drop]
  rw [this, List.map_append, List.nodup_append] at h
  intro m
  exact h.2.2 _ m _ (by rw [List.map_cons]; exact List.mem_cons_self ..) rfl
theorem kd_len (ts : Ts) : (kd ts).length = ts.length := by unfold kd; rw [List.length_map]
def frF (ns : List Int) (i : Nat) : Int := numF (ns.getD (0 + (i : Int)).toNat 0 + 3 * (0 + (i : Int)) * (0 + (i : Int)))
def grF (ns : List Int) (i : Nat) : Int := ns.getD (8 + (0 + (i : Int))).toNat 0 * 49979687 ^ Int.toNat 6 % (2 * 10 ^ Int.toNat 40 - 1) - (10 ^ Int.toNat 40 - 1)
theorem gd_zt {fs : List Int} (h6 : fs.length = 6) (hb : Bd (10 ^ 6) fs) : Gd (zt fs) := by
  rw [zt_ter h6]
  exact ter_gd hb (List.Perm.refl _)
theorem vs_zt {fs : List Int} (h6 : fs.length = 6) (hb : Bd (10 ^ 6) fs) : VS (zt fs) = fs.map V.int := by
  rw [zt_ter h6]
  exact VS_ter h6 hb (List.Perm.refl _)
theorem Bd.up {fs : List Int} (h : Bd (10 ^ 6) fs) : Bd (10 ^ 60) fs := fun x m => Nat.lt_of_lt_of_le (h x m) (by decide)
def Kp (d : Addr) (H H' : Hp) : Prop := ∀ b o, b ≠ d → H b = some o → H' b = some o
def Dk (C : Addr) (H : Hp) (p d : Addr) (kvs : List (Key × V)) : Prop := ∃ dx, H p = some (.ins C dx [("curves", .ref d)]) ∧ H d = some (.dK kvs)
def gdC (c : Nat) : Bool := !(Builtin.Str.occurrences ("abcdefghijklmnopqrstuvwxyz" : Str) ⟨#[c]⟩ 0 ("abcdefghijklmnopqrstuvwxyz" : Str).length 1).isEmpty
def good (s : Str) : Bool := decide (1 ≤ s.length) && decide (s.length ≤ 8) && (L s).all gdC
def Nm (s : Str) : Prop := (∀ c ∈ L s, c < 128 ∧ c ≠ 32) ∧ s.length ≤ 30
def Cv (H : Hp) (a : Addr) (fs : List Int) : Prop := H a = some (.tup (fs.map V.int)) ∧ fs.length = 6 ∧ Bd (10 ^ 6) fs
def szF (fs : List Int) : Int := 4 * fs.getD 0 0 * fs.getD 1 0 * fs.getD 2 0 + fs.getD 3 0 * fs.getD 4 0 * fs.getD 5 0 - fs.getD 0 0 * fs.getD 3 0 * fs.getD 3 0 - fs.getD 1 0 * fs.getD 4 0 * fs.getD 4 0 - fs.getD 2 0 * fs.getD 5 0 * fs.getD 5 0
def spSz : Sp := fun vs H Q _ => ∃ (p : Addr) (fs : List Int), vs = [.ref p] ∧ Cv H p fs ∧ Q (.int (szF fs)) H
def spLsz : Sp := fun vs H Q _ => ∃ (p : Addr) (fs : List Int), vs = [.ref p] ∧ Cv H p fs ∧ Q (.int (szF fs)) H
def spInit (C : Addr) : Sp := fun vs H Q _ => ∃ (x dx : Addr), vs = [.ref x] ∧ H x = some (.ins C dx []) ∧ ∀ (d : Addr) (H' : Hp), H d = none → H' x = some (.ins C dx [("curves", .ref d)]) → H' d = some (.dK []) → (∀ b o, b ≠ x → H b = some o → H' b = some o) → Q .non H'
def spKept (C c : Addr) : Sp := fun vs H Q E => ∃ (p d : Addr) (kvs : List (Key × V)) (s : Str), vs = [.ref p, .str s] ∧ Dk C H p d kvs ∧ (∀ v, valV kvs (.inr s) = some v → Q v H) ∧ (valV kvs (.inr s) = none → ∀ H', Same H H' → E (.ref c) none H')
def KeepC (H : Hp) (d : Addr) (kvs : List (Key × V)) (s : Str) (ts : Ts) (Q : VK) (R : Prop) : Prop := kvs.length ≤ 900 ∧ Gd ts ∧ Nm s ∧
  (good s = true → ∀ (a : Addr) (H' : Hp), Kp d H H' → H' a = some (.tup (VS ts)) → H' d = some (.dK (putK kvs (.inr s) (.ref a))) → Q (.str "ok") H') ∧ (good s = false → R)
def spKeep (C c : Addr) : Sp := fun vs H Q E => ∃ (p d : Addr) (kvs : List (Key × V)) (s : Str) (ts : Ts), vs = [.ref p, .str s, .str (fu ts)] ∧ Dk C H p d kvs ∧ KeepC H d kvs s ts Q (∀ H', Same H H' → E (.ref c) none H')
def W3 (wd : Str) : Prop := wd = "drop" ∨ wd = "show" ∨ wd = "size"
def spRowN (K : PySem.W.Frag) : Sp := fun vs H Q _ => ∃ (w : Addr) (wd s : Str), vs = [.ref w] ∧ SqL K H w [.str wd, .str s] ∧ W3 wd ∧ ∀ (p : Addr) (H' : Hp), Same H H' → H' p = some (.lst [.str s]) → Q (.ref p) H'
def spAns (K : PySem.W.Frag) : Sp := fun vs H Q _ => ∃ (wd : Str) (tl nl a : Addr) (fs : List Int), vs = [.str wd, .ref tl, .ref nl] ∧ SqL K H tl [.ref a] ∧ Cv H a fs ∧
  ((wd = "show" ∧ ∀ H', Same H H' → Q (.str (fu (zt fs))) H') ∨ (wd = "size" ∧ ∀ H', Same H H' → Q (.str (nu (szF fs))) H'))
def cuR (s t : Str) : Str := "curve " ++ s ++ " " ++ t
def SayC (H : Hp) (d : Addr) (kvs : List (Key × V)) (s row : Str) (Q : VK) (R : Prop) : Prop :=
  (∃ ts, row = cuR s (fu ts) ∧ KeepC H d kvs s ts Q R) ∨
  (Nm s ∧ ∃ wd, W3 wd ∧ row = wd ++ " " ++ s ∧ (valV kvs (.inr s) = none → R) ∧ ∀ v, valV kvs (.inr s) = some v → ∃ (a : Addr) (fs : List Int), v = .ref a ∧ Cv H a fs ∧
    (wd = "drop" → ∀ H', Kp d H H' → H' d = some (.dK (dropK kvs (.inr s))) → Q (.str "ok") H') ∧ (wd = "show" → ∀ H', Same H H' → Q (.str (fu (zt fs))) H') ∧ (wd = "size" → ∀ H', Same H H' → Q (.str (nu (szF fs))) H'))
def spSay (C c : Addr) : Sp := fun vs H Q E => ∃ (p d : Addr) (kvs : List (Key × V)) (s row : Str), vs = [.ref p, .str row] ∧ Dk C H p d kvs ∧ SayC H d kvs s row Q (∀ H', Same H H' → E (.ref c) none H')
def spSaid (C : Addr) : Sp := fun vs H Q _ => ∃ (p d : Addr) (kvs : List (Key × V)) (s row : Str), vs = [.ref p, .str row] ∧ Dk C H p d kvs ∧ SayC H d kvs s row Q (∀ (t : Addr) (H' : Hp), Same H H' → H' t = some (.tup [.str "name", .bl true]) → Q (.ref t) H')
def spNms : Sp := fun vs H Q _ => ∃ c : Int, vs = [.int c] ∧ ∀ (p : Addr) (H' : Hp) (ns : List Str), Same H H' → H' p = some (.lst (ns.map V.str)) → ns.length = 7 → (∀ s ∈ ns, Nm s) → Q (.ref p) H'
def spNme : Sp := fun vs H Q _ => ∃ (n : Int) (p : Addr) (ns : List Str), vs = [.int n, .ref p] ∧ H p = some (.lst (ns.map V.str)) ∧ ns.length = 7 ∧ (∀ s ∈ ns, Nm s) ∧ ∀ (s : Str) (H' : Hp), Same H H' → Nm s → Q (.str s) H'
def spForm : Sp := fun vs H Q _ => ∃ n : Int, vs = [.int n] ∧ 0 ≤ n ∧ n < 2 ^ 30 ∧ ∀ (p : Addr) (H' : Hp) (fs : List Int), Same H H' → Cv H' p fs → Q (.ref p) H'
def Rl (H : Hp) (kvs kvs' : List (Key × V)) : Prop := ∀ s : Str, (valV kvs (.inr s) = none ∧ valV kvs' (.inr s) = none) ∨ ∃ (a a' : Addr) (fs : List Int), valV kvs (.inr s) = some (.ref a) ∧ valV kvs' (.inr s) = some (.ref a') ∧ Cv H a fs ∧ Cv H a' fs
def spRow (C : Addr) : Sp := fun vs H Q _ => ∃ (p d k : Addr) (kvs kvs' : List (Key × V)) (s : Str) (n : Int), vs = [.ref p, .ref k, .str s, .int n] ∧ Dk C H p d kvs ∧ H k = some (.dK kvs') ∧ d ≠ k ∧ Rl H kvs kvs' ∧ kvs.length ≤ 900 ∧ kvs'.length ≤ 900 ∧ Nm s ∧ 0 ≤ n ∧ n < 2 ^ 30 ∧
  ∀ (H' : Hp) (kvs2 kvs2' : List (Key × V)), (∀ b o, b ≠ d → b ≠ k → H b = some o → H' b = some o) → H' d = some (.dK kvs2) → H' k = some (.dK kvs2') → Rl H' kvs2 kvs2' → kvs2.length ≤ kvs.length + 1 → kvs2'.length ≤ kvs'.length + 1 → Q (.bl true) H'
theorem Dk.same {C : Addr} {H H' : Hp} {p d : Addr} {kvs : List (Key × V)} (h : Dk C H p d kvs) (g : Same H H') : Dk C H' p d kvs := by
  obtain ⟨dx, h1, h2⟩ := h
  exact ⟨dx, g _ _ h1, g _ _ h2⟩
theorem Cv.same {H H' : Hp} {a : Addr} {fs : List Int} (h : Cv H a fs) (g : Same H H') : Cv H' a fs := ⟨g _ _ h.1, h.2⟩
theorem Cv.kp {H H' : Hp} {a d : Addr} {fs : List Int} {kvs : List (Key × V)} (h : Cv H a fs) (hd : H d = some (.dK kvs)) (g : Kp d H H') : Cv H' a fs := ⟨g _ _ (fun z => by have h1 := h.1; rw [z, hd] at h1; cases h1) h.1, h.2⟩
def gV : V → V
  | .str x => .bl ((L x).all gdC)
  | _ => .non
theorem gV_one (c : Nat) : V.bl (gdC c) = gV (.str ⟨#[c]⟩) := by show _ = V.bl ([c].all gdC); simp
theorem sgn_good (w : Str) : (sgn w).map gV = ((L w).map gdC).map V.bl := by
  unfold sgn
  rw [List.map_map, List.map_map]
  refine List.map_congr_left fun c _ => ?_
  exact (gV_one c).symm
theorem nm_all {w : Str} (h : ∀ c ∈ L w, c < 128 ∧ c ≠ 32) : w.cps.all (· < 128) = true := by
  rw [Array.all_eq_true']
  intro c hc
  exact decide_eq_true (h c (by unfold L; simpa using hc)).1
theorem sgn_mem {w : Str} {i : Nat} {v : V} (hv : (sgn w)[i]? = some v) : ∃ c ∈ L w, v = .str ⟨#[c]⟩ := by
  obtain ⟨c, h1, h2⟩ := List.mem_map.mp (List.mem_of_getElem? hv)
  exact ⟨c, h1, h2.symm⟩
theorem all_gd (w : Str) : ((L w).map gdC).all id = (L w).all gdC := by rw [List.all_map]; rfl
theorem six {fs : List Int} (h : fs.length = 6) : ∃ a b c d e f, fs = [a, b, c, d, e, f] := by
  match fs, h with
  | [a, b, c, d, e, f], _ => exact ⟨a, b, c, d, e, f, rfl⟩
theorem bd_lo {x : Int} (h : x.natAbs < 10 ^ 6) : -(2 ^ 64) < x ∧ x < 2 ^ 64 := by omega
theorem sq_bd {x y : Int} {a b : Nat} (hx : x.natAbs < a) (hy : y.natAbs < b) : (x * y).natAbs < a * b := by
  rw [Int.natAbs_mul]
  exact Nat.mul_lt_mul'' hx hy
theorem szF_lt {fs : List Int} (h6 : fs.length = 6) (hb : Bd (10 ^ 6) fs) : (szF fs).natAbs < 10 ^ 60 := by
  obtain ⟨a, b, c, d, e, f, rfl⟩ := six h6
  have ha := hb a (by simp)
  have hb' := hb b (by simp)
  have hc := hb c (by simp)
  have hd := hb d (by simp)
  have he := hb e (by simp)
  have hf := hb f (by simp)
  show (4 * a * b * c + d * e * f - a * d * d - b * e * e - c * f * f).natAbs < _
  have h1 := sq_bd (sq_bd (sq_bd (x := 4) (a := 5) (by decide) ha) hb') hc
  have h2 := sq_bd (sq_bd hd he) hf
  have h3 := sq_bd (sq_bd ha hd) hd
  have h4 := sq_bd (sq_bd hb' he) he
  have h5 := sq_bd (sq_bd hc hf) hf
  generalize 4 * a * b * c = x1 at *
  generalize d * e * f = x2 at *
  generalize a * d * d = x3 at *
  generalize b * e * e = x4 at *
  generalize c * f * f = x5 at *
  omega
theorem join_len : ∀ {ws : List Str}, ws ≠ [] → (Str.join bl ws).length + 1 = (ws.map (·.length)).sum + ws.length
  | [], h => absurd rfl h
  | [w], _ => by
    rw [← len_L, L_join1, len_L]
    simp
  | w :: z :: r, _ => by
    have ih := join_len (ws := z :: r) (by simp)
    have e : (Str.join bl (w :: z :: r)).length = w.length + 1 + (Str.join bl (z :: r)).length := by
      rw [← len_L, show Str.join bl (w :: z :: r) = Str.join ⟨#[32]⟩ (w :: z :: r) from rfl, L_join2, List.length_append, List.length_cons, len_L, len_L]
      show _ + ((Str.join bl (z :: r)).length + 1) = _
      omega
    rw [e, List.map_cons, List.sum_cons, List.length_cons]
    omega
theorem split_ne (t : Str) : Txt.split t bl ≠ [] := by
  intro e
  have := PyProof.Rows.split_pos t bl
  rw [e] at this
  cases this
theorem join_back (t : Str) : Txt.join bl (Txt.split t bl) = t := by
  show Builtin.Str.glued bl (Txt.split t bl) = t
  rw [StrLaws.glued_eq_join, StrLaws.join_split]
theorem join_sp (t : Str) : Str.join bl (Txt.split t bl) = t := StrLaws.join_split ..
theorem split_sum (t : Str) : t.length + 1 = ((Txt.split t bl).map (·.length)).sum + (Txt.split t bl).length := by
  have := join_len (split_ne t)
  rwa [join_sp] at this
theorem join_fit {t : Str} (h : t.length ≤ 400) : JoinOk bl (Txt.split t bl) = true := by
  refine PyProof.Rows.joinOk_of_weight ?_ (by decide)
  have := split_sum t
  have : bl.length = 1 := rfl
  omega
theorem L_two (a b : Str) (r : List Str) : L (Str.join bl (a :: b :: r)) = L a ++ 32 :: L (Str.join bl (b :: r)) := L_join2 32 a b r
theorem split_cu {s t : Str} (hs : ∀ c ∈ L s, c < 128 ∧ c ≠ 32) : Txt.split (cuR s t) bl = ("curve" : Str) :: s :: Txt.split t bl := by
  have e : cuR s t = Str.join bl (("curve" : Str) :: s :: Txt.split t bl) := ext (by
    rw [L_two]
    obtain ⟨w, r, hw⟩ := List.exists_cons_of_ne_nil (split_ne t)
    have hj := join_sp t
    rw [hw] at hj ⊢
    rw [L_two, hj]
    show L ("curve " ++ s ++ " " ++ t) = _
    rw [L_app, L_app, L_app]
    show L ("curve" : Str) ++ [32] ++ L s ++ [32] ++ L t = _
    simp)
  rw [e]
  refine split_words (by simp) fun w hw => ?_
  rcases List.mem_cons.mp hw with rfl | hw
  · decide +kernel
  rcases List.mem_cons.mp hw with rfl | hw
  · exact fun m => (hs _ m).2 rfl
  · exact StrLaws.split_free _ 32 w hw
theorem split_wd {wd s : Str} (h3 : W3 wd) (hs : ∀ c ∈ L s, c < 128 ∧ c ≠ 32) : Txt.split (wd ++ " " ++ s) bl = [wd, s] := by
  have e : wd ++ " " ++ s = Str.join bl [wd, s] := ext (by
    rw [L_two, L_app, L_app]
    show L wd ++ [32] ++ L s = L wd ++ 32 :: L s
    simp)
  rw [e]
  refine split_words (by simp) fun w hw => ?_
  rcases List.mem_cons.mp hw with rfl | hw
  · rcases h3 with rfl | rfl | rfl <;> decide +kernel
  rcases List.mem_cons.mp hw with rfl | hw
  · exact fun m => (hs _ m).2 rfl
  · cases hw
theorem cut_two (x y : V) (r : List V) : cutV (x :: y :: r) (some 2) none = r := by
  unfold cutV HT.sIx
  simp
theorem fu_len {ts : Ts} (hg : Gd ts) : (fu ts).length ≤ 400 := by
  have h1 := tx_len hg.sm
  have h2 := hg.2.2
  unfold fu
  rw [len_app]
  have : eo.length = 4 := rfl
  have : (⟨#[48]⟩ : Str).length = 1 := rfl
  split <;> omega
theorem comp_raise {K : PySem.W.Frag} {a : Addr} {x : V} {xs : List V} {te : TE} {σ : V → St} {H : Hp} {Q : VK} (hx : SqL K H a (x :: xs)) (hK : ∀ H', Same H H' → SqL K H' a (x :: xs)) (he : ∀ H' Q', Same H H' → te (σ x) H' Q') : CompEnd (Itl K a) Q H te σ := by
  intro acc hacc
  refine ⟨fun i m H' vs => i = 0 ∧ Same H H' ∧ H' acc = some (.lst vs) ∧ vs = [], ⟨0, rfl, same_new hacc _, upd_same, rfl⟩, ?_⟩
  rintro i m H' vs ⟨rfl, g, ha, rfl⟩
  refine ⟨ha, .inr ⟨⟨_, x, hK _ g, rfl⟩, by decide, ?_⟩⟩
  rintro z H2 ⟨rfl, hz⟩
  have hz' := hz _ (hK _ g)
  cases hz'
  exact he _ _ g
theorem st_len (a b : Nat) : ((⟨#[a]⟩ : Str) ++ ⟨#[b]⟩).length = 2 := rfl
theorem mul4 (a b : Nat) : L (Txt.mul ((⟨#[a]⟩ : Str) ++ ⟨#[b]⟩) 4) = [a,b,a,b,a,b,a,b] := by rfl
theorem mulOk4 (a b : Nat) : MulOk ((⟨#[a]⟩ : Str) ++ ⟨#[b]⟩) 4 := ⟨by decide, fun _ _ => by rw [st_len]; decide, fun _ _ => by rw [st_len]; decide⟩
theorem slice_mem (x : Str) (l u : Option Int) : ∀ c ∈ L (Txt.slice x l u), c ∈ L x := by
  intro c hc
  unfold Txt.slice at hc
  split at hc
  · exact hc
  · have : c ∈ ((Builtin.Str.strSliceIndices l u 1 x.length).filterMap (x.cps[·]?)) := by simpa [L] using hc
    obtain ⟨i, _, hi⟩ := List.mem_filterMap.mp this
    unfold L
    exact Array.mem_toList_iff.mpr (Array.mem_of_getElem? hi)
def AL : Str := "abcdefghijklmnopqrstuvwxyz"
theorem at_AL {m : Int} (h0 : 0 ≤ m) (h1 : m < 26) : ∃ c, atI (L AL) m = some c ∧ c < 128 ∧ c ≠ 32 := by
  obtain ⟨k, rfl⟩ := Int.eq_ofNat_of_zero_le h0
  have hk : k < 26 := by omega
  have : ∀ k < 26, ∃ c, (L AL)[k]? = some c ∧ c < 128 ∧ c ≠ 32 := by decide +kernel
  obtain ⟨c, h1, h2⟩ := this k hk
  exact ⟨c, atI_nat h1, h2⟩
theorem at_mod {xs : List Str} {m : Int} (h : 0 ≤ m) (hl : m < xs.length) : ∃ s ∈ xs, atI (xs.map V.str) m = some (.str s) := by
  obtain ⟨k, rfl⟩ := Int.eq_ofNat_of_zero_le h
  have hk : k < xs.length := by omega
  exact ⟨xs[k], List.getElem_mem hk, atI_nat (by rw [List.getElem?_map, List.getElem?_eq_getElem hk]; rfl)⟩
def badN : List Str := ["", "abcdefghi", "aB", "a1", "a-b", "a\n"]
theorem badN_nm : ∀ s ∈ badN, (∀ c ∈ L s, c < 128 ∧ c ≠ 32) ∧ s.length ≤ 30 := by decide +kernel
theorem SayC.mono {H : Hp} {d : Addr} {kvs : List (Key × V)} {s row : Str} {Q Q' : VK} {R R' : Prop} (h : SayC H d kvs s row Q R) (hq : ∀ v H', Q v H' → Q' v H') (hr : R → R') : SayC H d kvs s row Q' R' := by
  rcases h with ⟨ts, e, kl, gt, nm, q1, q2⟩ | ⟨nm, wd, h3, e, q0, qv⟩
  · exact .inl ⟨ts, e, kl, gt, nm, fun gs a H' k1 k2 k3 => hq _ _ (q1 gs a H' k1 k2 k3), fun gs => hr (q2 gs)⟩
  · refine .inr ⟨nm, wd, h3, e, fun z => hr (q0 z), fun v ev => ?_⟩
    obtain ⟨a, fs, ea, cv, k1, k2, k3⟩ := qv v ev
    exact ⟨a, fs, ea, cv, fun z H' y1 y2 => hq _ _ (k1 z H' y1 y2), fun z H' y1 => hq _ _ (k2 z H' y1), fun z H' y1 => hq _ _ (k3 z H' y1)⟩
def gF (m : Int) (mo : Int) : Int := m % (2 * mo + 1) - mo
theorem gF_bd {m mo : Int} (h : mo = 4 ∨ mo = 999999) : (gF m mo).natAbs < 10 ^ 6 := by
  unfold gF
  rcases h with rfl | rfl <;> omega
theorem Bd.snoc {B : Nat} {fs : List Int} {x : Int} (h : Bd B fs) (hx : x.natAbs < B) : Bd B (fs ++ [x]) := fun y m => by
  rcases List.mem_append.mp m with z | z
  · exact h y z
  · rcases List.mem_singleton.mp z with rfl
    exact hx
theorem nm_slice {x : Str} (h : ∀ c ∈ L x, c < 128 ∧ c ≠ 32) (l u : Option Int) : ∀ c ∈ L (Txt.slice x l u), c < 128 ∧ c ≠ 32 := fun c m => h c (slice_mem x l u c m)
theorem nm_mul {a b : Nat} (ha : a < 128 ∧ a ≠ 32) (hb : b < 128 ∧ b ≠ 32) : ∀ c ∈ L (Txt.mul ((⟨#[a]⟩ : Str) ++ ⟨#[b]⟩) 4), c < 128 ∧ c ≠ 32 := by
  intro c m
  rw [mul4] at m
  simp only [List.mem_cons, List.not_mem_nil, or_false] at m
  rcases m with rfl | rfl | rfl | rfl | rfl | rfl | rfl | rfl <;> assumption
theorem mul_len (a b : Nat) : (Txt.mul ((⟨#[a]⟩ : Str) ++ ⟨#[b]⟩) 4).length = 8 := by rw [← len_L, mul4]; rfl
theorem nm_app {x y : Str} (hx : ∀ c ∈ L x, c < 128 ∧ c ≠ 32) (hy : ∀ c ∈ L y, c < 128 ∧ c ≠ 32) : ∀ c ∈ L (x ++ y), c < 128 ∧ c ≠ 32 := fun c m => by
  rw [L_app] at m
  exact (List.mem_append.mp m).elim (hx c) (hy c)
theorem nm_one {c : Nat} (h : c < 128 ∧ c ≠ 32) : ∀ x ∈ L (⟨#[c]⟩ : Str), x < 128 ∧ x ≠ 32 := fun x m => by
  have : x ∈ [c] := m
  rcases List.mem_singleton.mp this with rfl
  exact h
theorem valV_drop {κ : Type} [DecidableEq κ] (k j : κ) : ∀ kvs : List (κ × V), valV (dropK kvs k) j = if j = k then none else valV kvs j
  | [] => by
    show none = _
    split <;> rfl
  | p :: r => by
    have ih := valV_drop k j r
    unfold dropK at ih ⊢
    rw [List.filter_cons]
    by_cases e : p.1 = k
    · rw [if_neg (by simp [e]), ih]
      by_cases z : j = k
      · rw [if_pos z, if_pos z]
      · rw [if_neg z, if_neg z, valV_neg (fun y => z (y.symm.trans e))]
    · rw [if_pos (by simp [e])]
      by_cases y : p.1 = j
      · rw [valV_pos y, if_neg (fun z => e (y.trans z)), valV_pos y]
      · rw [valV_neg y, ih, valV_neg y]
theorem Rl.kept {H H' : Hp} {kvs kvs' : List (Key × V)} (h : Rl H kvs kvs') (g : ∀ a fs, Cv H a fs → Cv H' a fs) : Rl H' kvs kvs' := fun s => by
  rcases h s with z | ⟨a, a', fs, h1, h2, c1, c2⟩
  · exact .inl z
  · exact .inr ⟨a, a', fs, h1, h2, g _ _ c1, g _ _ c2⟩
theorem Rl.put {H : Hp} {kvs kvs' : List (Key × V)} {s : Str} {a a' : Addr} {fs : List Int} (h : Rl H kvs kvs') (c1 : Cv H a fs) (c2 : Cv H a' fs) : Rl H (putK kvs (.inr s) (.ref a)) (putK kvs' (.inr s) (.ref a')) := fun x => by
  rw [valV_put, valV_put]
  by_cases e : (Sum.inr x : Key) = .inr s
  · rw [if_pos e, if_pos e]
    exact .inr ⟨a, a', fs, rfl, rfl, c1, c2⟩
  · rw [if_neg e, if_neg e]
    exact h x
theorem Rl.drop {H : Hp} {kvs kvs' : List (Key × V)} {s : Str} (h : Rl H kvs kvs') : Rl H (dropK kvs (.inr s)) (dropK kvs' (.inr s)) := fun x => by
  rw [valV_drop, valV_drop]
  by_cases e : (Sum.inr x : Key) = .inr s
  · rw [if_pos e, if_pos e]
    exact .inl ⟨rfl, rfl⟩
  · rw [if_neg e, if_neg e]
    exact h x
theorem cv_ne {H : Hp} {a d : Addr} {fs : List Int} {kvs : List (Key × V)} (c : Cv H a fs) (hd : H d = some (.dK kvs)) : a ≠ d := fun z => by
  have h1 := c.1
  rw [z, hd] at h1
  cases h1
theorem at_w3 {n : Int} (h : ¬ n % 5 < 2) : ∃ wd, W3 wd ∧ atI [V.str "drop", .str "show", .str "size"] (n % 5 - 2) = some (.str wd) := by
  have : n % 5 - 2 = 0 ∨ n % 5 - 2 = 1 ∨ n % 5 - 2 = 2 := by omega
  rcases this with e | e | e
  · exact ⟨"drop", .inl rfl, by rw [e]; exact atI_nat (j := 0) rfl⟩
  · exact ⟨"show", .inr (.inl rfl), by rw [e]; exact atI_nat (j := 1) rfl⟩
  · exact ⟨"size", .inr (.inr rfl), by rw [e]; exact atI_nat (j := 2) rfl⟩
theorem good_of {s : Str} (h1 : ¬ V.str s = V.str "") (h2 : (s.length : Int) < 9) : good s = (L s).all gdC := by
  unfold good
  have : 1 ≤ s.length := by
    rcases Nat.lt_or_ge 0 s.length with z | z
    · exact z
    · exfalso
      refine h1 (congrArg V.str (ext ?_))
      have : (L s).length = 0 := by rw [len_L]; omega
      rw [List.eq_nil_of_length_eq_zero this]
      rfl
  rw [decide_eq_true this, decide_eq_true (show s.length ≤ 8 by omega)]
  rfl
theorem good_e {s : Str} (h : V.str s = V.str "") : good s = false := by
  rw [V.str.inj h]
  decide +kernel
theorem good_l {s : Str} (h : ¬ (s.length : Int) < 9) : good s = false := by
  unfold good
  rw [decide_eq_false (show ¬ s.length ≤ 8 by omega), Bool.and_false, Bool.false_and]
theorem sh_nm : SeqAt.shaped (PyData.tuple [PyData.str ("name" : Str), PyData.bool true]) = true := by decide +kernel
theorem ev_nm : PyData.eqv (PyData.tuple [PyData.str ("name" : Str), PyData.bool true]) (PyData.tuple [PyData.str ("name" : Str), PyData.bool true]) = true := by decide +kernel
def Two (C : Addr) (H : Hp) (x d k : Addr) (m : Nat) : Prop := ∃ kv kw : List (Key × V), Dk C H x d kv ∧ H k = some (.dK kw) ∧ Rl H kv kw ∧ kv.length ≤ m ∧ kw.length ≤ m
theorem Two.same {C : Addr} {H H' : Hp} {x d k : Addr} {m : Nat} (h : Two C H x d k m) (g : Same H H') : Two C H' x d k m := by
  obtain ⟨kv, kw, h1, h2, h3, h4, h5⟩ := h
  exact ⟨kv, kw, h1.same g, g _ _ h2, h3.kept fun a fs c => c.same g, h4, h5⟩
theorem Two.off {C : Addr} {H H' : Hp} {x d k d1 k1 : Addr} {m : Nat} {kv1 kw1 : List (Key × V)} (h : Two C H x d k m) (hd1 : H d1 = some (.dK kv1)) (hk1 : H k1 = some (.dK kw1)) (n1 : d ≠ d1) (n2 : d ≠ k1) (n3 : k ≠ d1) (n4 : k ≠ k1)
    (kp : ∀ b o, b ≠ d1 → b ≠ k1 → H b = some o → H' b = some o) : Two C H' x d k (m + 1) := by
  obtain ⟨kv, kw, ⟨dx, h1, h1'⟩, h2, h3, h4, h5⟩ := h
  refine ⟨kv, kw, ⟨dx, kp _ _ (fun z => ?_) (fun z => ?_) h1, kp _ _ n1 n2 h1'⟩, kp _ _ n3 n4 h2, h3.kept fun a fs c => ⟨kp _ _ (cv_ne c hd1) (cv_ne c hk1) c.1, c.2⟩, by omega, by omega⟩
  · rw [z, hd1] at h1
    cases h1
  · rw [z, hk1] at h1
    cases h1
structure Dsk (C : Addr) (H : Hp) (pn pd pk x1 x2 d1 d2 k1 k2 : Addr) (nms : List Str) (m : Nat) : Prop where
  hn : H pn = some (.lst (nms.map V.str))
  hd : H pd = some (.lst [.ref x1, .ref x2])
  hk : H pk = some (.lst [.ref k1, .ref k2])
  one : Two C H x1 d1 k1 m
  two : Two C H x2 d2 k2 m
  n1 : d1 ≠ k1
  n2 : d2 ≠ k2
  n3 : d1 ≠ d2
  n4 : d1 ≠ k2
  n5 : d2 ≠ k1
  n6 : k1 ≠ k2
section
variable {C : Addr} {H H' : Hp} {pn pd pk x1 x2 d1 d2 k1 k2 : Addr} {nms : List Str} {m : Nat}
theorem Dsk.same (D : Dsk C H pn pd pk x1 x2 d1 d2 k1 k2 nms m) (g : Same H H') : Dsk C H' pn pd pk x1 x2 d1 d2 k1 k2 nms m :=
  ⟨g _ _ D.hn, g _ _ D.hd, g _ _ D.hk, D.one.same g, D.two.same g, D.n1, D.n2, D.n3, D.n4, D.n5, D.n6⟩
theorem lst_ne {a d : Addr} {xs : List V} {kvs : List (Key × V)} (h : H a = some (.lst xs)) (hd : H d = some (.dK kvs)) : a ≠ d := fun z => by
  rw [z, hd] at h
  cases h
structure Pick (C : Addr) (H : Hp) (pd pk : Addr) (x d k : Addr) (m : Nat) (xs ks : List V) (i : Int) : Prop where
  ax : atI xs i = some (.ref x)
  ak : atI ks i = some (.ref k)
  tw : Two C H x d k m
  nd : d ≠ k
theorem Dsk.pick (D : Dsk C H pn pd pk x1 x2 d1 d2 k1 k2 nms m) {i : Int} (hi : i = 0 ∨ i = 1) : ∃ x d k, Pick C H pd pk x d k m [.ref x1, .ref x2] [.ref k1, .ref k2] i ∧
    ∀ (H' : Hp) (kv kw : List (Key × V)), (∀ b o, b ≠ d → b ≠ k → H b = some o → H' b = some o) → H' d = some (.dK kv) → H' k = some (.dK kw) → Rl H' kv kw → kv.length ≤ m + 1 → kw.length ≤ m + 1 → Dsk C H' pn pd pk x1 x2 d1 d2 k1 k2 nms (m + 1) := by
  obtain ⟨kv1, kw1, ⟨dx1, hx1, hd1⟩, hk1, hr1, hl1, hm1⟩ := id D.one
  obtain ⟨kv2, kw2, ⟨dx2, hx2, hd2⟩, hk2, hr2, hl2, hm2⟩ := id D.two
  rcases hi with rfl | rfl
  · refine ⟨x1, d1, k1, ⟨atI_nat (j := 0) rfl, atI_nat (j := 0) rfl, D.one, D.n1⟩, fun H' kv kw kp hd hk hr hl hm => ?_⟩
    refine ⟨kp _ _ (lst_ne D.hn hd1) (lst_ne D.hn hk1) D.hn, kp _ _ (lst_ne D.hd hd1) (lst_ne D.hd hk1) D.hd, kp _ _ (lst_ne D.hk hd1) (lst_ne D.hk hk1) D.hk, ⟨kv, kw, ⟨dx1, kp _ _ (fun z => ?_) (fun z => ?_) hx1, hd⟩, hk, hr, hl, hm⟩, D.two.off hd1 hk1 (Ne.symm D.n3) D.n5 (Ne.symm D.n4) (Ne.symm D.n6) kp, D.n1, D.n2, D.n3, D.n4, D.n5, D.n6⟩
    · rw [z, hd1] at hx1
      cases hx1
    · rw [z, hk1] at hx1
      cases hx1
  · refine ⟨x2, d2, k2, ⟨atI_nat (j := 1) rfl, atI_nat (j := 1) rfl, D.two, D.n2⟩, fun H' kv kw kp hd hk hr hl hm => ?_⟩
    refine ⟨kp _ _ (lst_ne D.hn hd2) (lst_ne D.hn hk2) D.hn, kp _ _ (lst_ne D.hd hd2) (lst_ne D.hd hk2) D.hd, kp _ _ (lst_ne D.hk hd2) (lst_ne D.hk hk2) D.hk, D.one.off hd2 hk2 D.n3 D.n4 (Ne.symm D.n5) D.n6 kp, ⟨kv, kw, ⟨dx2, kp _ _ (fun z => ?_) (fun z => ?_) hx2, hd⟩, hk, hr, hl, hm⟩, D.n1, D.n2, D.n3, D.n4, D.n5, D.n6⟩
    · rw [z, hd2] at hx2
      cases hx2
    · rw [z, hk2] at hx2
      cases hx2
end
theorem cut_ints (ns : List Int) (lo hi : Option Int) : ∃ cs : List Int, cutV (ns.map V.int) lo hi = cs.map V.int ∧ cs.length ≤ ns.length := by
  refine ⟨(ns.drop (HT.sIx (ns.map V.int).length 0 lo)).take (HT.sIx (ns.map V.int).length (ns.map V.int).length hi - HT.sIx (ns.map V.int).length 0 lo), ?_, ?_⟩
  · unfold cutV
    rw [← List.map_drop, ← List.map_take]
  · rw [List.length_take, List.length_drop]
    omega
theorem ev_no (x : Str) : PyData.eqv (.str x) (PyData.tuple [PyData.str ("name" : Str), PyData.bool true]) = false := by
  unfold PyData.eqv
  rfl
def As (x : Str) : Prop := ∀ c ∈ L x, c < 128
theorem As.app {a b : Str} (ha : As a) (hb : As b) : As (a ++ b) := fun c hc => by
  rw [L_app] at hc
  exact (List.mem_append.mp hc).elim (ha c) (hb c)
theorem As.nu {n : Int} (h : 0 ≤ n) : As (nu n) := fun c hc => by have := nu_digits h c hc; omega
theorem As.tm {n : Int} {l : Str} (h : Let l) : As (tmS n l) := by
  have hl : As l := fun c hc => by have := h.1 c hc; omega
  unfold tmS
  split
  · exact hl
  · exact ((As.nu (av_nn n)).app (fun c hc => by have : c = 32 := by simpa [L, bl] using hc
                                                 omega)).app hl
theorem As.lit {x : Str} (h : x.cps.toList.all (· < 128) = true) : As x := fun c hc => of_decide_eq_true (List.all_eq_true.mp h c hc)
theorem As.rs : ∀ {ts : Ts}, (∀ p ∈ ts, Let p.2) → As (rs ts)
  | [], _ => fun c hc => by cases hc
  | (n, l) :: r, h => by
    refine As.app (As.app ?_ (As.tm (h _ (List.mem_cons_self ..)))) (As.rs fun p m => h p (List.mem_cons_of_mem _ m))
    unfold sgB
    split <;> exact As.lit (by decide)
theorem As.fu {ts : Ts} (h : ∀ p ∈ ts, Let p.2) : As (fu ts) := by
  unfold Tx.fu
  refine As.app ?_ (As.lit (by decide))
  split
  · exact As.lit (by decide)
  · match ts, h with
    | [], _ => exact fun c hc => by cases hc
    | (n, l) :: r, h =>
      refine As.app (As.app ?_ (As.tm (h _ (List.mem_cons_self ..)))) (As.rs fun p m => h p (List.mem_cons_of_mem _ m))
      unfold hd
      split <;> exact As.lit (by decide)
theorem sh_str {x : Str} (h : As x) : SeqAt.shaped (.str x) = true := by
  have : PyData.strOk x = true := by
    unfold PyData.strOk
    rw [Array.all_eq_true']
    intro c hc
    have := h c (by unfold L; simpa using hc)
    exact decide_eq_true (by omega)
  unfold SeqAt.shaped PyData.canLay0 PyData.depth
  simpa using this
theorem sho_eq (s : Str) : ("show " : Str) ++ s = ("show" : Str) ++ " " ++ s := congrArg (· ++ s) (show ("show " : Str) = ("show" : Str) ++ " " by decide +kernel)
theorem Rl.nil (H : Hp) : Rl H [] [] := fun s => .inl ⟨rfl, rfl⟩

section
variable {P : Program} {w : World} {K : PySem.W.Frag} {mg : Str → Option Value} {base : Heap} {t : Adr}
theorem sc_size_of : FnScope ["Q"] ["Q"] (defScope s_size_of) := ⟨rfl, rfl, rfl, by decide +kernel, rfl, by decide +kernel, by decide +kernel⟩
theorem sc_show_sum : FnScope ["Q", "shown", "ahead"] ["Q"] (defScope s_show_sum) := ⟨rfl, rfl, rfl, by decide +kernel, rfl, by decide +kernel, by decide +kernel⟩
theorem sc_show_term : FnScope ["coefficient", "letters", "sign", "size"] ["coefficient", "letters"] (defScope s_show_term) := ⟨rfl, rfl, rfl, by decide +kernel, rfl, by decide +kernel, by decide +kernel⟩
theorem sc_read_sum : FnScope ["text", "coefficients", "words", "letters"] ["text"] (defScope s_read_sum) := ⟨rfl, rfl, rfl, by decide +kernel, rfl, by decide +kernel, by decide +kernel⟩
theorem sc_terms_of : FnScope ["shown", "words", "terms", "word"] ["shown"] (defScope s_terms_of) := ⟨rfl, rfl, rfl, by decide +kernel, rfl, by decide +kernel, by decide +kernel⟩
theorem sc_read_coefficient : FnScope ["words", "size"] ["words"] (defScope s_read_coefficient) := ⟨rfl, rfl, rfl, by decide +kernel, rfl, by decide +kernel, by decide +kernel⟩
theorem sc_read_size : FnScope ["words"] ["words"] (defScope s_read_size) := ⟨rfl, rfl, rfl, by decide +kernel, rfl, by decide +kernel, by decide +kernel⟩
theorem sc_are_figures : FnScope ["word", "most"] ["word", "most"] (defScope s_are_figures) := ⟨rfl, rfl, rfl, by decide +kernel, rfl, by decide +kernel, by decide +kernel⟩
theorem sc_names_of_row : FnScope ["words", "counts"] ["words"] (defScope s_names_of_row) := ⟨rfl, rfl, rfl, by decide +kernel, rfl, by decide +kernel, by decide +kernel⟩
theorem sc_answer_to : FnScope ["word", "totals", "numbers"] ["word", "totals", "numbers"] (defScope s_answer_to) := ⟨rfl, rfl, rfl, by decide +kernel, rfl, by decide +kernel, by decide +kernel⟩
theorem sc_cell_at : FnScope ["_law_script", "_law_k"] ["_law_script", "_law_k"] (defScope s_cell_at) := ⟨rfl, rfl, rfl, by decide +kernel, rfl, by decide +kernel, by decide +kernel⟩
theorem sc_letters : FnScope [] [] (defScope s_letters) := ⟨rfl, rfl, rfl, by decide +kernel, rfl, by decide +kernel, by decide +kernel⟩
theorem sc_term : FnScope ["_law_number", "_law_letters_here"] ["_law_number", "_law_letters_here"] (defScope s_term) := ⟨rfl, rfl, rfl, by decide +kernel, rfl, by decide +kernel, by decide +kernel⟩
theorem sc_shown : FnScope ["_law_form_here", "_law_order", "_law_shown_here", "_law_k", "_law_sign"] ["_law_form_here", "_law_order"] (defScope s_shown) := ⟨rfl, rfl, rfl, by decide +kernel, rfl, by decide +kernel, by decide +kernel⟩
theorem sc_alone : FnScope ["_law_e", "_law_found"] ["_law_e"] (defScope s_alone) := ⟨rfl, rfl, rfl, by decide +kernel, rfl, by decide +kernel, by decide +kernel⟩
theorem sc_names : FnScope ["_law_cell", "_law_letters_here", "_law_stem", "_law_at"] ["_law_cell"] (defScope s_names) := ⟨rfl, rfl, rfl, by decide +kernel, rfl, by decide +kernel, by decide +kernel⟩
theorem sc_name : FnScope ["_law_number", "_law_names_here"] ["_law_number", "_law_names_here"] (defScope s_name) := ⟨rfl, rfl, rfl, by decide +kernel, rfl, by decide +kernel, by decide +kernel⟩
theorem sc_size : FnScope ["_law_form_here", "_law_less", "_law_a", "_law_b", "_law_c", "_law_d", "_law_e", "_law_f"] ["_law_form_here"] (defScope s_size) := ⟨rfl, rfl, rfl, by decide +kernel, rfl, by decide +kernel, by decide +kernel⟩
theorem sc_said : FnScope ["_law_desk", "_law_row", "_law_e", "_law_told"] ["_law_desk", "_law_row"] (defScope s_said) := ⟨rfl, rfl, rfl, by decide +kernel, rfl, by decide +kernel, by decide +kernel⟩
theorem sc_form : FnScope ["_law_number", "_law_some", "_law_most", "_law_k"] ["_law_number"] (defScope s_form) := ⟨rfl, rfl, rfl, by decide +kernel, rfl, by decide +kernel, by decide +kernel⟩
theorem sc_row_done : FnScope ["_law_desk", "_law_known", "_law_name_here", "_law_number", "_law_good", "_law_word", "_law_found", "_law_form_here"] ["_law_desk", "_law_known", "_law_name_here", "_law_number"] (defScope s_row_done) := ⟨rfl, rfl, rfl, by decide +kernel, rfl, by decide +kernel, by decide +kernel⟩
theorem sc_law : FnScope ["_law_script", "_law_names_here", "_law_desks", "_law_known", "_law_cell", "_law_name_here", "_law_which", "_law_number", "_law_k"] ["_law_script"] (defScope s_law) := ⟨rfl, rfl, rfl, by decide +kernel, rfl, by decide +kernel, by decide +kernel⟩
theorem sc_Desk_init : FnScope ["self"] ["self"] (defScope s_Desk_init) := ⟨rfl, rfl, rfl, by decide +kernel, rfl, by decide +kernel, by decide +kernel⟩
theorem sc_Desk_say : FnScope ["self", "row", "words", "names", "numbers", "totals"] ["self", "row"] (defScope s_Desk_say) := ⟨rfl, rfl, rfl, by decide +kernel, rfl, by decide +kernel, by decide +kernel⟩
theorem sc_Desk_keep : FnScope ["self", "name", "text"] ["self", "name", "text"] (defScope s_Desk_keep) := ⟨rfl, rfl, rfl, by decide +kernel, rfl, by decide +kernel, by decide +kernel⟩
theorem sc_Desk_kept : FnScope ["self", "name"] ["self", "name"] (defScope s_Desk_kept) := ⟨rfl, rfl, rfl, by decide +kernel, rfl, by decide +kernel, by decide +kernel⟩
theorem ok_cell_at {f : Addr} {fd : FuncData} (F : Fun K "_law_cell_at" "_law_cell_at" s_cell_at f fd) (T : Txt K mg t)  : FnOk P w K mg base CX0 1 f fd ["_law_script", "_law_k"] (spCell K) := by
  refine F.ok sc_cell_at (fun vs H Q E h => ?_) (fun cdv A outer s H vs Q E hr h => ?_)
  · obtain ⟨a, ns, k, rfl, _⟩ := h
    rfl
  obtain ⟨a, ns, k, rfl, hS, h0, q⟩ := h
  refine ⟨_, pss_cons (ps_if (pt_cmpR op_lt (pv 1) (pe_callB call_len_seq rfl T.z_len PySem.boot_len (pa_cons (pv 0) pa_nil)) (nomark _)) (pss_one (ps_ret (pe_ix ix_list (pv 0) (pv 1) (fun _ _ => rfl)))) pss_nil)
    (pss_one (ps_ret pe_int)), ?_⟩
  refine ⟨_, rfl, _, rfl, a, _, rfl, .inl hS, _, _, rfl, rfl, _, rfl, ?_⟩
  refine ite2 (fun c => ?_) (fun c => ?_)
  · exact ⟨_, rfl, _, rfl, a, _, _, _, rfl, rfl, hS, cell_in h0 (decT c), q⟩
  · have e := cell_out (decF c) h0
    rw [e] at q
    exact q
theorem ok_alone {f : Addr} {fd : FuncData} (F : Fun K "_law_alone" "_law_alone" s_alone f fd) (T : Txt K mg t)  : FnOkQ P w K mg base 1 f fd ["_law_e"] (spAlone t.c14) := by
  refine F.okQ sc_alone (fun vs H Q E h => ?_) (fun cdv A outer s H vs Q E hr h => ?_)
  · obtain ⟨e, rfl, _⟩ := h
    rfl
  obtain ⟨e, rfl, he, q⟩ := h
  have isi : ∀ {X : Cx} {x : Str} {C : Addr} {p p2 p3 p4 : Pos}, X.N[0]? = some ("_law_e" : Str) → Vis X.env.scope "_law_e" → Gl X "isinstance" → X.mg "isinstance" = none → Gl X x → X.mg x = some (.ref C) → (x == ("__debug__" : Str)) = false →
      PE X (.Call (.Name "isinstance" p) [.Name "_law_e" p2, .Name x p3] [] p4) (tCB (rIsi X.K) (tCons (tVar 0) (tCons (tC (.ref C)) tNil))) :=
    fun h1 h2 h3 h4 h5 h6 h7 => pe_callB call_isi h3 h4 b_isi (pa_cons (pv 0 h1 h2) (pa_cons (pe_glob h5 h6 rfl h7) pa_nil))
  refine ⟨_, pss_cons (ps_set (i := 1) sc_alone.nd rfl (Or.inl rfl) (pe_lst (pa_cons (isi rfl (Or.inl rfl) rfl T.z_isinstance rfl T.m_NoNumber (by decide)) (pa_cons (isi rfl (Or.inl rfl) rfl T.z_isinstance rfl T.m_NoBack (by decide)) (pa_cons (isi rfl (Or.inl rfl) rfl T.z_isinstance rfl T.m_NoJoin (by decide)) (pa_cons (isi rfl (Or.inl rfl) rfl T.z_isinstance rfl T.m_NoSign (by decide)) pa_nil))))))
    (pss_cons (ps_set (i := 1) sc_alone.nd rfl (Or.inl rfl) (pe_op op_cat (pv 1) (pe_lst (pa_cons (isi rfl (Or.inl rfl) rfl T.z_isinstance rfl T.m_NotPlain (by decide)) (pa_cons (isi rfl (Or.inl rfl) rfl T.z_isinstance rfl T.m_NoPlace (by decide)) (pa_cons (isi rfl (Or.inl rfl) rfl T.z_isinstance rfl T.m_BadPlace (by decide)) pa_nil))))))
    (pss_cons (ps_set (i := 1) sc_alone.nd rfl (Or.inl rfl) (pe_op op_cat (pv 1) (pe_lst (pa_cons (isi rfl (Or.inl rfl) rfl T.z_isinstance rfl T.m_NoVertex (by decide)) (pa_cons (isi rfl (Or.inl rfl) rfl T.z_isinstance rfl T.m_Flat (by decide)) (pa_cons (isi rfl (Or.inl rfl) rfl T.z_isinstance rfl T.m_OffCurve (by decide)) (pa_cons (isi rfl (Or.inl rfl) rfl T.z_isinstance rfl T.m_NoPair (by decide)) pa_nil)))))))
    (pss_cons (ps_set (i := 1) sc_alone.nd rfl (Or.inl rfl) (pe_op op_cat (pv 1) (pe_lst (pa_cons (isi rfl (Or.inl rfl) rfl T.z_isinstance rfl T.m_NoLine (by decide)) (pa_cons (isi rfl (Or.inl rfl) rfl T.z_isinstance rfl T.m_NoText (by decide)) (pa_cons (isi rfl (Or.inl rfl) rfl T.z_isinstance rfl T.m_NoRow (by decide)) (pa_cons (isi rfl (Or.inl rfl) rfl T.z_isinstance rfl T.m_NoName (by decide)) pa_nil)))))))
    (pss_one (ps_ret (pe_and (pe_cmpR op_eq (pe_bm PySem.F.plainAttrs_list PySem.F.slot_list_count PySem.F.type_list_count mt_count (pv 1) (pa_cons pe_bl pa_nil)) pe_int (nomark _))
      (pe_and (isi rfl (Or.inl rfl) rfl T.z_isinstance rfl T.m_CurveError (by decide)) (pe_one (pe_callB call_isi rfl T.z_isinstance b_isi (pa_cons (pv 0) (pa_cons (pe_bltn (v := .ty "ValueError") rfl T.z_ValueError b_ValueError rfl) pa_nil))))))))))), ?_⟩
  refine ⟨_, rfl, _, _, _, _, rfl, .inl ⟨_, rfl⟩, .exc T.exc he, T.i_0, _, rfl, _, _, _, _, rfl, .inl ⟨_, rfl⟩, .exc T.exc he, T.i_1, _, rfl, _, _, _, _, rfl, .inl ⟨_, rfl⟩, .exc T.exc he, T.i_2, _, rfl, _, _, _, _, rfl, .inl ⟨_, rfl⟩, .exc T.exc he, T.i_3, (by show 4 ≤ sizeLine; decide), fun p1 n1 => ?_⟩
  have g1 := same_new n1 (.lst [.bl false, .bl false, .bl false, .bl false])
  have he1 := g1 _ _ he
  refine ⟨_, rfl, _, rfl, _, _, _, _, rfl, .inl ⟨_, rfl⟩, .exc T.exc he1, T.i_4, _, rfl, _, _, _, _, rfl, .inl ⟨_, rfl⟩, .exc T.exc he1, T.i_5, _, rfl, _, _, _, _, rfl, .inl ⟨_, rfl⟩, .exc T.exc he1, T.i_6, (by show 3 ≤ sizeLine; decide), fun p2 n2 => ?_⟩
  have g2 := same_new n2 (.lst [.bl false, .bl false, .bl false])
  refine ⟨p1, p2, _, _, rfl, rfl, g2 _ _ upd_same, upd_same, (by show 7 ≤ sizeLine; decide), fun p3 n3 => ?_⟩
  have g3 := g2.trans (same_new n3 (.lst ([.bl false, .bl false, .bl false, .bl false] ++ [.bl false, .bl false, .bl false])))
  have he3 := g3 _ _ he1
  refine ⟨_, rfl, _, rfl, _, _, _, _, rfl, .inl ⟨_, rfl⟩, .exc T.exc he3, T.i_7, _, rfl, _, _, _, _, rfl, .inl ⟨_, rfl⟩, .exc T.exc he3, T.i_8, _, rfl, _, _, _, _, rfl, .inl ⟨_, rfl⟩, .exc T.exc he3, T.i_9, _, rfl, _, _, _, _, rfl, .inl ⟨_, rfl⟩, .exc T.exc he3, T.i_10, (by show 4 ≤ sizeLine; decide), fun p4 n4 => ?_⟩
  have g4 := same_new n4 (.lst [.bl false, .bl false, .bl false, .bl false])
  refine ⟨p3, p4, _, _, rfl, rfl, g4 _ _ upd_same, upd_same, (by show 11 ≤ sizeLine; decide), fun p5 n5 => ?_⟩
  have g5 := g4.trans (same_new n5 (.lst ([.bl false, .bl false, .bl false, .bl false] ++ [.bl false, .bl false, .bl false] ++ [.bl false, .bl false, .bl false, .bl false])))
  have he5 := g5 _ _ he3
  refine ⟨_, rfl, _, rfl, _, _, _, _, rfl, .inl ⟨_, rfl⟩, .exc T.exc he5, T.i_11, _, rfl, _, _, _, _, rfl, .inl ⟨_, rfl⟩, .exc T.exc he5, T.i_12, _, rfl, _, _, _, _, rfl, .inl ⟨_, rfl⟩, .exc T.exc he5, T.i_13, _, rfl, _, _, _, _, rfl, .inl ⟨_, rfl⟩, .exc T.exc he5, T.i_14, (by show 4 ≤ sizeLine; decide), fun p6 n6 => ?_⟩
  have g6 := same_new n6 (.lst [.bl false, .bl false, .bl false, .bl true])
  refine ⟨p5, p6, _, _, rfl, rfl, g6 _ _ upd_same, upd_same, (by show 15 ≤ sizeLine; decide), fun p7 n7 => ?_⟩
  have g7 := g6.trans (same_new n7 (.lst ([.bl false, .bl false, .bl false, .bl false] ++ [.bl false, .bl false, .bl false] ++ [.bl false, .bl false, .bl false, .bl false] ++ [.bl false, .bl false, .bl false, .bl true])))
  have he7 := g7 _ _ he5
  refine ⟨_, rfl, .inl ⟨rfl, _, SqL.of upd_same⟩, p7, [false, false, false, false, false, false, false, false, false, false, false, false, false, false, true], true, rfl, rfl, upd_same, rfl, _, rfl, ?_⟩
  refine iteT ?_
  refine ⟨_, rfl, _, _, _, _, rfl, .inl ⟨_, rfl⟩, .exc T.exc he7, T.i_ce, _, rfl, iteT ?_⟩
  exact ⟨_, rfl, _, _, _, _, rfl, .inr ⟨_, rfl⟩, .exc T.exc he7, T.i_ve, q _ (g1.trans (g3.trans (g5.trans g7)))⟩

theorem ok_show_term {f : Addr} {fd : FuncData} (F : Fun K "show_term" "show_term" s_show_term f fd) (T : Txt K mg t)  : FnOk P w K mg base CX0 1 f fd ["coefficient", "letters"] (spTerm) := by
  refine F.ok sc_show_term (fun vs H Q E h => ?_) (fun cdv A outer s H vs Q E hr h => ?_)
  · obtain ⟨_, _, rfl, _⟩ := h
    rfl
  obtain ⟨n, l, rfl, hn, hl, q⟩ := h
  refine ⟨_, pss_cons (ps_set (i := 2) sc_show_term.nd rfl (Or.inl rfl) (pe_ifExp (pt_cmpR op_lt (pv 0) pe_int (nomark _)) pe_str pe_str))
    (pss_cons (ps_set (i := 3) sc_show_term.nd rfl (Or.inl rfl) (pe_callB call_abs rfl T.z_abs b_abs (pa_cons (pv 0) pa_nil)))
    (pss_one (ps_ret (pe_ifExp (pt_cmpR op_eq (pv 3) pe_int (nomark _)) (pe_fstr (pj_val (pv 2) (pj_val (pv 1) pj_nil))) (pe_fstr (pj_val (pv 2) (pj_val (pv 3) (pj_str (pj_val (pv 1) pj_nil))))))))), ?_⟩
  have sl : l.length = 2 := by rw [← len_L]; exact hl
  have s3 := sgB_len n
  have bg := big100
  have e0 : Str.empty.length = 0 := rfl
  unfold pt tmS at q
  refine ⟨_, rfl, _, _, rfl, rfl, _, rfl, ifC ?_⟩
  rw [sg_val]
  refine ⟨_, rfl, _, rfl, _, rfl, rfl, _, rfl, ite2 (fun c => ?_) (fun c => ?_)⟩
  · have c' : av n = 1 := V.int.inj (decT c)
    rw [if_pos c'] at q
    refine ⟨_, rfl, sgB n, .inl ⟨rfl, by omega⟩, by rw [len_app]; omega, _, rfl, l, .inl ⟨rfl, by omega⟩, by rw [len_app, len_app]; omega, by rw [len_app, len_app]; omega, ?_⟩
    rw [em_app]
    exact q
  · have c' : ¬ av n = 1 := fun z => decF c (by rw [← z]; rfl)
    rw [if_neg c'] at q
    have l1 : (nu (av n)).length ≤ 60 := nu_len (av_nn n) (by decide) (by
      have := av_lt hn
      exact_mod_cast this)
    have b1 : bl.length = 1 := rfl
    refine ⟨_, rfl, sgB n, .inl ⟨rfl, by omega⟩, by rw [len_app]; omega, _, rfl, nu (av n), .inr ⟨av n, rfl, av_log hn, rfl⟩, by rw [len_app, len_app]; omega, ?_, ?_⟩
    · show (Str.empty ++ sgB n ++ nu (av n) ++ bl).length ≤ sizeLine
      rw [len_app, len_app, len_app]; omega
    refine ⟨_, rfl, l, .inl ⟨rfl, by omega⟩, ?_, ?_, ?_⟩
    · show (Str.empty ++ sgB n ++ nu (av n) ++ bl ++ l).length ≤ sizeLine
      rw [len_app, len_app, len_app, len_app]; omega
    · show (Str.empty ++ sgB n ++ nu (av n) ++ bl ++ l).length ≤ sizeLine
      rw [len_app, len_app, len_app, len_app]; omega
    · show Q (.str (Str.empty ++ sgB n ++ nu (av n) ++ bl ++ l)) _
      rw [em_app, app_as (sgB n), app_as (sgB n)]
      exact q
theorem ok_letters {f : Addr} {fd : FuncData} (F : Fun K "_law_letters" "_law_letters" s_letters f fd) (T : Txt K mg t)  : FnOk P w K mg base CX0 1 f fd [] (spLetters) := by
  refine F.ok sc_letters (fun vs H Q E h => ?_) (fun cdv A outer s H vs Q E hr h => ?_)
  · obtain ⟨rfl, _⟩ := h
    rfl
  obtain ⟨rfl, q⟩ := h
  refine ⟨_, pss_one (ps_ret (pe_lst (pa_cons pe_str (pa_cons pe_str (pa_cons pe_str (pa_cons pe_str (pa_cons pe_str (pa_cons pe_str pa_nil)))))))), ?_⟩
  exact ⟨(by show 6 ≤ sizeLine; decide), fun p hp => q p hp⟩
theorem ok_term {f : Addr} {fd : FuncData} (F : Fun K "_law_term" "_law_term" s_term f fd) (T : Txt K mg t)  : FnOk P w K mg base CX0 1 f fd ["_law_number", "_law_letters_here"] (spTm) := by
  refine F.ok sc_term (fun vs H Q E h => ?_) (fun cdv A outer s H vs Q E hr h => ?_)
  · obtain ⟨_, _, rfl, _⟩ := h
    rfl
  obtain ⟨n, l, rfl, hn, hl, q⟩ := h
  refine ⟨_, pss_cons (ps_if (pt_cmpR op_eq (pe_callB call_abs rfl T.z_abs b_abs (pa_cons (pv 0) pa_nil)) pe_int (nomark _)) (pss_one (ps_ret (pv 1))) pss_nil)
    (pss_one (ps_ret (pe_op op_add_str (pe_op op_add_str (pe_callTy call_str_int rfl T.z_str b_str (pa_cons (pe_callB call_abs rfl T.z_abs b_abs (pa_cons (pv 0) pa_nil)) pa_nil)) pe_str) (pv 1)))), ?_⟩
  have sl : l.length = 2 := by rw [← len_L]; exact hl
  unfold tmS at q
  refine ⟨_, rfl, _, rfl, rfl, _, rfl, ite2 (fun c => ?_) (fun c => ?_)⟩
  · have c' : av n = 1 := V.int.inj (decT c)
    rw [if_pos c'] at q
    exact ⟨_, rfl, q⟩
  · have c' : ¬ av n = 1 := fun z => decF c (by rw [← z]; rfl)
    rw [if_neg c'] at q
    have l1 : (nu (av n)).length ≤ 60 := nu_len (av_nn n) (by decide) (by
      have := av_lt hn
      exact_mod_cast this)
    refine ⟨_, rfl, _, rfl, _, rfl, av_log hn, _, _, rfl, rfl, ?_, _, rfl, _, _, rfl, rfl, ?_, q⟩
    · show (nu (av n)).length + 1 ≤ sizeLine
      have : 100 ≤ sizeLine := by decide
      omega
    · show (nu (av n) ++ bl).length + l.length ≤ sizeLine
      rw [len_app]
      have : bl.length = 1 := rfl
      have : 100 ≤ sizeLine := by decide
      omega
theorem ok_read_size {f : Addr} {fd : FuncData} (F : Fun K "read_size" "read_size" s_read_size f fd) (T : Txt K mg t) (H_are_figures : Has P w K mg base CX0 1 "are_figures" ["word", "most"] (spFig)) : FnOk P w K mg base CX0 2 f fd ["words"] (spSize K) := by
  obtain ⟨f_are_figures, d_are_figures, G_are_figures, b_are_figures, k_are_figures, m_are_figures⟩ := H_are_figures
  refine F.ok sc_read_size (fun vs H Q E h => ?_) (fun cdv A outer s H vs Q E hr h => ?_)
  · obtain ⟨_, _, rfl, _⟩ := h
    rfl
  obtain ⟨p, m, rfl, hp, m0, m1, q⟩ := h
  have hr_are_figures := hr.mono (show 1 ≤ 1 by decide)
  refine ⟨_, pss_cons (ps_if (PW.pt (pw_or (pt_cmpR op_ne (pe_callB call_len_seq rfl T.z_len PySem.boot_len (pa_cons (pv 0) pa_nil)) pe_int (nomark _)) (pw_or (pt_not (pt_val (pe_call G_are_figures hr_are_figures rfl m_are_figures k_are_figures b_are_figures .nil pass0 (pa_cons (pe_ix ix_list (pv 0) pe_int (fun _ _ => rfl)) (pa_cons pe_int pa_nil))) (fun _ => rfl))) (pw_or1 (pt_cmpR op_in_seq (pe_ix ix_list (pv 0) pe_int (fun _ _ => rfl)) (pe_tup (pa_cons pe_str (pa_cons pe_str pa_nil))) (by with_unfolding_all rfl)))))) pss_never pss_nil)
    (pss_one (ps_ret (pe_callTy call_int_str rfl T.z_int b_int (pa_cons (pe_ix ix_list (pv 0) pe_int (fun _ _ => rfl)) pa_nil)))), ?_⟩
  have a0 : atI [V.str (nu m)] 0 = some (.str (nu m)) := atI_nat (j := 0) rfl
  refine ⟨_, rfl, p, _, rfl, .inl hp, rfl, _, rfl, ?_⟩
  refine iteF ?_
  refine ⟨_, rfl, p, _, _, _, rfl, rfl, hp, a0, m, rfl, m0, m1, fun H1 g1 => ⟨_, rfl, ?_⟩⟩
  have hp1 := g1.seq hp
  refine iteF ?_
  refine ⟨_, rfl, p, _, _, _, rfl, rfl, hp1, a0, (by show 2 ≤ sizeLine; decide), fun p2 n2 => ⟨_, _, rfl, .inr (SqT.of upd_same), rfl, rfl, _, rfl, ?_⟩⟩
  refine iteFE (nu_no m0 m1) ?_
  have g2 := g1.trans (same_new n2 (.tup [.str "0", .str "1"]))
  refine ⟨_, rfl, p, _, _, _, rfl, rfl, g2.seq hp, a0, nu m, m, rfl, PySem.W.KIN.num_reads (by omega) (by omega), ?_, q _ g2⟩
  have := nu_len (n := m) (by omega) (k := 6) (by decide) (by omega)
  omega
theorem ok_read_coefficient {f : Addr} {fd : FuncData} (F : Fun K "read_coefficient" "read_coefficient" s_read_coefficient f fd) (T : Txt K mg t) (H_read_size : Has P w K mg base CX0 2 "read_size" ["words"] (spSize K)) : FnOk P w K mg base CX0 3 f fd ["words"] (spCoef K) := by
  obtain ⟨f_read_size, d_read_size, G_read_size, b_read_size, k_read_size, m_read_size⟩ := H_read_size
  refine F.ok sc_read_coefficient (fun vs H Q E h => ?_) (fun cdv A outer s H vs Q E hr h => ?_)
  · obtain ⟨_, _, rfl, _⟩ := h
    rfl
  obtain ⟨p, ⟨n, l⟩, rfl, hp, n0, n1, q⟩ := h
  have hr_read_size := hr.mono (show 2 ≤ 2 by decide)
  refine ⟨_, pss_cons (ps_set (i := 1) sc_read_coefficient.nd rfl (Or.inl rfl) (pe_ifExp (pt_cmpR op_eq (pe_callB call_len_seq rfl T.z_len PySem.boot_len (pa_cons (pv 0) pa_nil)) pe_int (nomark _)) pe_int (pe_call G_read_size hr_read_size rfl m_read_size k_read_size b_read_size .nil pass0 (pa_cons (pe_slice sl_list (pv 0) (po_some pe_int) (po_some (pe_un un_neg pe_int))) pa_nil))))
    (pss_one (ps_ret (pe_ifExp (pt_cmpR op_eq (pe_ix ix_list (pv 0) pe_int (fun _ _ => rfl)) pe_str (nomark _)) (pe_un un_neg (pv 1)) (pv 1)))), ?_⟩
  have n0' : n ≠ 0 := n0
  have n1' : n.natAbs < 10 ^ 6 := n1
  have key : ∀ H1, Same H H1 → Q (.int n) H1 := q
  have fin : ∀ (xs : List Str), SqL K H p ((sg n :: xs).map V.str) → ∀ H1, Same H H1 → ∀ m : Int, m = av n → (if decide (V.str (sg n) = V.str "-") = true then Q (.int (-m)) H1 else Q (.int m) H1) := by
    intro xs _ H1 g1 m hm
    by_cases c : n < 0
    · have e : sg n = "-" := by unfold sg; rw [if_pos c]; rfl
      refine iteDT (by rw [e]) ?_
      have : -m = n := by rw [hm]; unfold av; rw [if_pos c]; omega
      rw [this]
      exact key _ g1
    · have e : sg n = ⟨#[43]⟩ := by unfold sg; rw [if_neg c]
      refine iteDF (by rw [e]; intro z; exact absurd (V.str.inj z) (by decide +kernel)) ?_
      have : m = n := by rw [hm]; unfold av; rw [if_neg c]
      rw [this]
      exact key _ g1
  by_cases c1 : av n = 1
  · rw [grp_one c1] at hp
    refine ⟨_, rfl, p, _, rfl, .inl hp, rfl, _, rfl, iteT ?_⟩
    have a0 : atI [V.str (sg n), .str l] 0 = some (.str (sg n)) := atI_nat (j := 0) rfl
    refine ⟨_, rfl, p, _, _, _, rfl, rfl, hp, a0, rfl, _, rfl, ?_⟩
    have := fin _ hp H (Same.refl _) 1 c1.symm
    refine ite2 (fun c => ?_) (fun c => ?_)
    · rw [if_pos c] at this
      exact ⟨_, rfl, _, rfl, this⟩
    · rw [if_neg c] at this
      exact ⟨_, rfl, this⟩
  · rw [grp_two c1] at hp
    have av2 : 2 ≤ av n := by have := av_nn n; unfold av at *; split at * <;> omega
    have av6 : av n < 10 ^ 6 := by unfold av; split <;> omega
    refine ⟨_, rfl, p, _, rfl, .inl hp, rfl, _, rfl, iteF ?_⟩
    refine ⟨_, rfl, _, rfl, _, rfl, _, rfl, p, _, rfl, hp, fun p1 n1 => ?_⟩
    refine ⟨p1, av n, rfl, SqL.of upd_same, av2, av6, fun H1 g1 => ?_⟩
    have g2 := (same_new n1 _).trans g1
    have hp2 := g2.seq hp
    have a0 : atI [V.str (sg n), .str (nu (av n)), .str l] 0 = some (.str (sg n)) := atI_nat (j := 0) rfl
    refine ⟨_, rfl, p, _, _, _, rfl, rfl, hp2, a0, rfl, _, rfl, ?_⟩
    have := fin _ hp H1 g2 _ rfl
    refine ite2 (fun c => ?_) (fun c => ?_)
    · rw [if_pos c] at this
      exact ⟨_, rfl, _, rfl, this⟩
    · rw [if_neg c] at this
      exact ⟨_, rfl, this⟩
theorem ok_are_figures {f : Addr} {fd : FuncData} (F : Fun K "are_figures" "are_figures" s_are_figures f fd) (T : Txt K mg t)  : FnOk P w K mg base CX0 1 f fd ["word", "most"] (spFig) := by
  refine F.ok sc_are_figures (fun vs H Q E h => ?_) (fun cdv A outer s H vs Q E hr h => ?_)
  · obtain ⟨_, rfl, _⟩ := h
    rfl
  obtain ⟨m, rfl, m0, m1, q⟩ := h
  refine ⟨_, pss_cons (ps_if (PW.pt (pw_or (pt_not (pt_chain op_le op_le pe_int (pe_callB call_len_str rfl T.z_len PySem.boot_len (pa_cons (pv 0) pa_nil)) (pv 1))) (pw_or1 (pt_not (pt_val (pe_callB (call_all rfl) rfl T.z_all b_all (pa_cons (pe_compC rfl (CompScope.gen (cl := []) [] [] [(".0", .local), ("sign", .local), ("FIGURES", .globalImplicit)] rfl (by decide +kernel) (by decide +kernel) rfl rfl (by intro p hp; cases hp) rfl (by intro p hp h; simp only [List.mem_cons, List.not_mem_nil, or_false] at hp; rcases hp with rfl | rfl | rfl <;> first | rfl | (rcases h with h | h <;> cases h)) (by decide) (by decide +kernel) rfl (by intro p hp; cases hp)) (pi_str (pv 0)) (fun C s0 H0 fp pins => pe_cmpR op_in_str (pv 0) (pe_glob (v := .str "0123456789") rfl T.m_FIGURES ⟨_, rfl⟩) (by with_unfolding_all rfl))) pa_nil)) (fun _ => rfl)))))) (pss_one (ps_ret pe_bl)) pss_nil)
    (pss_one (ps_ret (pe_or (pe_cmpR op_eq (pv 0) pe_str (nomark _)) (pe_one (pe_cmpR op_ne (pe_ix ix_str (pv 0) pe_int (fun _ _ => rfl)) pe_str (nomark _)))))), ?_⟩
  have l1 : (nu m).length ≤ 6 := nu_len (by omega) (by decide) (by omega)
  have l0 : 1 ≤ (nu m).length := by
    have := List.length_pos_iff.mpr (nu_ne (n := m) (by omega))
    rw [len_L] at this
    omega
  have bg := big100
  have dg := nu_digits (n := m) (by omega)
  refine ⟨_, rfl, _, rfl, by omega, _, _, rfl, rfl, _, rfl, ?_⟩
  refine iteDT (by show (1 : Int) ≤ ((nu m).length : Nat); omega) ?_
  refine ⟨_, rfl, _, _, rfl, rfl, _, rfl, ?_⟩
  refine iteFE (by rw [decide_eq_true (show (((nu m).length : Nat) : Int) ≤ 6 by omega)]; rfl) ?_
  refine ⟨_, rfl, nu m, rfl, ?_, ?_⟩
  · rw [Array.all_eq_true']
    intro c hc
    have := dg c (by unfold L; simpa using hc)
    exact decide_eq_true (by omega)
  refine comp_strF (by unfold sgn; rw [List.length_map]; show (L (nu m)).length < _; rw [len_L]; omega) (fun _ => .bl true) ?_ ?_
  · intro i v H' Q' hv g k
    obtain ⟨c, hc, rfl⟩ : ∃ c ∈ L (nu m), v = .str ⟨#[c]⟩ := by
      obtain ⟨c, h1, h2⟩ := List.mem_map.mp (List.mem_of_getElem? hv)
      exact ⟨c, h1, h2.symm⟩
    refine ⟨_, rfl, _, _, rfl, rfl, ?_⟩
    have e := digit_in (dg c hc).1 (dg c hc).2
    rw [show (!(Builtin.Str.occurrences ("0123456789" : Str) ⟨#[c]⟩ 0 ("0123456789" : Str).length 1).isEmpty) = true from e]
    exact k _ (Same.refl _)
  · intro l H' g h0 hl
    refine ⟨l, (L (nu m)).map fun _ => true, rfl, ?_, ?_⟩
    · rw [hl]
      unfold sgn
      rw [List.map_map, List.map_map]
      rfl
    refine ⟨_, rfl, iteFE ?_ ?_⟩
    · rw [show ((L (nu m)).map fun _ => true).all id = true by rw [List.all_eq_true]; intro x hx; obtain ⟨_, _, e⟩ := List.mem_map.mp hx; rw [← e]; rfl]
      rfl
    refine ⟨_, rfl, rfl, _, rfl, ?_⟩
    refine ite2 (fun c => ?_) (fun c => ?_)
    · have e : decide (V.str (nu m) = V.str "0") = true := c
      first | exact q _ g | (rw [e]; exact q _ g)
    · have ne := nu_ne (n := m) (by omega)
      cases e : L (nu m) with
      | nil => exact absurd e ne
      | cons d r =>
        have hd : (L (nu m))[0]? = some d := by rw [e]; rfl
        have d0 : d ≠ 48 := nu_first (by omega) hd
        refine ⟨_, rfl, nu m, 0, d, rfl, rfl, by omega, atI_nat (j := 0) hd, rfl, ?_⟩
        rw [decide_eq_false (show ¬ V.str ⟨#[d]⟩ = V.str "0" from fun z => d0 (by
          have := congrArg (fun x : Str => x.cps.toList) (V.str.inj z)
          have z2 : [d] = [48] := this
          simpa using z2))]
        exact q _ g
theorem ok_show_sum {f : Addr} {fd : FuncData} (F : Fun K "show_sum" "show_sum" s_show_sum f fd) (T : Txt K mg t) (H_show_term : Has P w K mg base CX0 1 "show_term" ["coefficient", "letters"] (spTerm)) : FnOk P w K mg base CX0 2 f fd ["Q"] (spShow) := by
  obtain ⟨f_show_term, d_show_term, G_show_term, b_show_term, k_show_term, m_show_term⟩ := H_show_term
  refine F.ok sc_show_sum (fun vs H Q E h => ?_) (fun cdv A outer s H vs Q E hr h => ?_)
  · obtain ⟨_, _, rfl, _⟩ := h
    rfl
  obtain ⟨p, fs, rfl, hp, h6, hb, q⟩ := h
  have hr_show_term := hr.mono (show 1 ≤ 1 by decide)
  refine ⟨_, pss_cons (ps_set (i := 1) sc_show_sum.nd rfl (Or.inl rfl) (pe_bm PySem.F.plainAttrs_str PySem.F.slot_str_join PySem.F.type_str_join mt_join pe_str (pa_cons (pe_compPairIf rfl (CompScope2.gen (cl := []) [] [] [(".0", .local), ("coefficient", .local), ("letters", .local), ("show_term", .globalImplicit)] rfl (by decide +kernel) (by decide +kernel) rfl rfl rfl (by intro p hp; cases hp) rfl (by intro p hp h; simp only [List.mem_cons, List.not_mem_nil, or_false] at hp; rcases hp with rfl | rfl | rfl | rfl <;> first | rfl | (rcases h with h | h <;> cases h)) (by decide) (by decide +kernel) rfl (by intro p hp; cases hp)) (pi_zip rfl T.z_zip (pa_cons (pv 0) (pa_cons (pe_glob (v := .ref t.gLETTERS) rfl T.m_LETTERS rfl) pa_nil))) (fun C s0 H0 fp pins => pt_cmpR op_ne (pv 0) pe_int (nomark _)) (fun C s0 H0 fp pins => pe_call G_show_term hr_show_term rfl m_show_term k_show_term b_show_term .nil pass0 (pa_cons (pv 0) (pa_cons (pv 1) pa_nil)))) pa_nil)))
    (pss_cons (ps_if (pt_cmpR op_eq (pv 1) pe_str (nomark _)) (pss_one (ps_ret (pe_glob (v := .str "0 = 0") rfl T.m_NOUGHTS ⟨_, rfl⟩))) pss_nil)
    (pss_cons (ps_set (i := 2) sc_show_sum.nd rfl (Or.inl rfl) (pe_ifExp (pt_val (pe_bm PySem.F.plainAttrs_str PySem.F.slot_str_startswith PySem.F.type_str_startswith mt_startswith (pv 1) (pa_cons pe_str pa_nil)) (fun _ => rfl)) pe_str pe_str))
    (pss_one (ps_ret (pe_op op_add_str (pe_op op_add_str (pv 2) (pe_slice sl_str (pv 1) (po_some pe_int) po_none)) (pe_glob (v := .str " = 0") rfl T.m_END ⟨_, rfl⟩)))))), ?_⟩
  have bg := big100
  have hts : zt fs = ter fs (List.range 6) := zt_ter h6
  have sm : Sm (zt fs) := by rw [hts]; exact ter_sm hb fun k m => List.mem_range.mp m
  have zl : (zt fs).length ≤ 6 := by rw [hts]; exact ter_len fs _
  refine ⟨rfl, _, rfl, p, t.gLETTERS, _, _, rfl, SqT.of hp, T.k_LETTERS.sq _, ?_⟩
  refine compPI_zipF (xs := fs.map V.int) (ys := LS.map V.str) (fun H' g => SqT.of (g _ _ hp)) (fun H' g => T.k_LETTERS.sq _) (by rw [List.length_map, List.length_map, h6]; rfl) (by rw [List.length_map, h6]; omega) (fun v => !decide (v.1 = V.int 0)) fV ?_ ?_ ?_
  · intro i x y H' Q' hx hy g k
    obtain ⟨n, _, rfl⟩ := List.mem_map.mp (List.mem_of_getElem? hx)
    exact ⟨_, rfl, rfl, _, rfl, k _ (Same.refl _)⟩
  · intro i x y H' Q' hx hy e g k
    obtain ⟨n, hn, rfl⟩ := List.mem_map.mp (List.mem_of_getElem? hx)
    obtain ⟨l, hl, rfl⟩ := List.mem_map.mp (List.mem_of_getElem? hy)
    exact ⟨_, rfl, _, rfl, n, l, rfl, hb n hn, (LS_let l hl).2, k _ (Same.refl _)⟩
  · intro l H' g h0 hl
    rw [zipV] at hl
    refine ⟨_, l, (zt fs).map pt, rfl, rfl, SqL.of hl, join_ok sm zl, ?_⟩
    rw [show Txt.join ("" : Str) ((zt fs).map pt) = rs (zt fs) from join_rs _]
    clear hl hts
    generalize zt fs = ts at *
    match ts with
    | [] =>
      refine ⟨_, rfl, rfl, _, rfl, iteT ?_⟩
      have := q _ g
      rw [fu_nil] at this
      exact this
    | (n, l) :: r =>
      refine ⟨_, rfl, rfl, _, rfl, iteDF (fun z => rs_ne (V.str.inj z)) ?_⟩
      refine ⟨_, rfl, rfl, _, _, rfl, rfl, _, rfl, ifB starts_rs ?_⟩
      rw [hd_val]
      have sr := rs_len sm
      rw [List.length_cons] at sr zl
      refine ⟨_, rfl, _, rfl, _, rfl, rs ((n, l) :: r), rfl, by omega, ?_⟩
      rw [drop_rs]
      have h1 := hd_len n
      have sr2 : (tmS n l ++ rs r).length ≤ 66 * (r.length + 1) := by
        have : rs ((n, l) :: r) = sgB n ++ (tmS n l ++ rs r) := by rw [← app_as]; rfl
        rw [this, len_app] at sr
        omega
      refine ⟨_, _, rfl, rfl, by omega, _, _, rfl, rfl, ?_, ?_⟩
      · rw [len_app]
        show (hd n).length + (tmS n l ++ rs r).length + 4 ≤ sizeLine
        omega
      · have := q _ g
        unfold fu at this
        rw [if_neg (by simp), show tx ((n, l) :: r) = hd n ++ (tmS n l ++ rs r) by rw [← app_as]; rfl] at this
        exact this
theorem ok_terms_of {f : Addr} {fd : FuncData} (F : Fun K "terms_of" "terms_of" s_terms_of f fd) (T : Txt K mg t)  : FnOk P w K mg base CX0 1 f fd ["shown"] (spTerms) := by
  refine F.ok sc_terms_of (fun vs H Q E h => ?_) (fun cdv A outer s H vs Q E hr h => ?_)
  · obtain ⟨_, rfl, _⟩ := h
    rfl
  obtain ⟨ts, rfl, h0, hlet, hsm, hl6, q⟩ := h
  refine ⟨_, pss_cut (ps_set (i := 1) sc_terms_of.nd rfl (Or.inl rfl) (pe_ifExp (pt_val (pe_bm PySem.F.plainAttrs_str PySem.F.slot_str_startswith PySem.F.type_str_startswith mt_startswith (pv 0) (pa_cons pe_str pa_nil)) (fun _ => rfl)) (pe_op op_cat (pe_lst (pa_cons pe_str pa_nil)) (pe_bm PySem.F.plainAttrs_str PySem.F.slot_str_split PySem.F.type_str_split mt_split (pe_slice sl_str (pv 0) (po_some pe_int) po_none) (pa_cons pe_str pa_nil))) (pe_op op_cat (pe_lst (pa_cons pe_str pa_nil)) (pe_bm PySem.F.plainAttrs_str PySem.F.slot_str_split PySem.F.type_str_split mt_split (pv 0) (pa_cons pe_str pa_nil)))))
    (pss_cons (ps_set (i := 2) sc_terms_of.nd rfl (Or.inl rfl) (pe_lst pa_nil))
    (pss_cons (ps_for PassesOwn.never rfl (pi_list (pv 1)) (pg_name (i := 3) sc_terms_of.nd rfl (Or.inl rfl)) (pss_cut (ps_if (pt_cmpR op_in_seq (pv 3) (pe_tup (pa_cons pe_str (pa_cons pe_str pa_nil))) (by with_unfolding_all rfl)) (pss_one (ps_expr (pe_bm PySem.F.plainAttrs_list PySem.F.slot_list_append PySem.F.type_list_append mt_append (pv 2) (pa_cons (pe_lst pa_nil) pa_nil)))) pss_nil)
    (pss_one (ps_expr (pe_bm PySem.F.plainAttrs_list PySem.F.slot_list_append PySem.F.type_list_append mt_append (pe_ix ix_list (pv 2) (pe_un un_neg pe_int) (fun _ _ => rfl)) (pa_cons (pv 3) pa_nil))))))
    (pss_one (ps_ret (pv 2))))), ?_⟩
  have bg := big100
  match ts, h0 with
  | (n, l) :: r, _ =>
  have tl := tx_len hsm
  have wl := ww_len (ts := (n, l) :: r)
  rw [List.length_cons] at tl hl6 wl
  have ll : Let l := hlet _ (List.mem_cons_self ..)
  have wt := words_tx hlet
  have wl2 : ∀ v : V, [v].length + ((wd (n, l) ++ ww r).map V.str).length ≤ sizeLine := by
    intro v
    rw [List.length_map]
    have : (ww ((n, l) :: r)).length = (wd (n, l) ++ ww r).length + 1 := rfl
    show 1 + _ ≤ _
    omega
  refine ⟨fun σ' H1 => ∃ w : Addr, σ' = [some (.str (tx ((n, l) :: r))), some (.ref w), none, none] ∧ Same H H1 ∧ H1 w = some (.lst ((ww ((n, l) :: r)).map V.str)), ?_, ?_⟩
  · refine ⟨_, rfl, rfl, _, _, rfl, rfl, _, rfl, ?_⟩
    rw [show Txt.startswith (tx ((n, l) :: r)) ("-" : Str) = decide (n < 0) from starts_tx ll]
    refine ite2 (fun c => ?_) (fun c => ?_)
    · have c' := decT c
      have sl := sl_one_len (k := 396) (tx_pos (n := n) (r := r) ll) (by omega)
      refine ⟨(by show 1 ≤ sizeLine; decide), fun p1 n1 => ?_⟩
      refine ⟨_, rfl, _, rfl, _, rfl, by omega, rfl, _, _, rfl, rfl, rfl, by omega, Nat.le_trans parts_le (by omega), by omega, fun p2 n2 => ?_⟩
      rw [show Txt.split (Txt.slice (tx ((n, l) :: r)) (some 1) none) (" " : Str) = wd (n, l) ++ ww r from wt.1 c']
      obtain ⟨e1, g2⟩ := cat_ok (b := (wd (n, l) ++ ww r).map V.str) n1 n2
      refine ⟨p1, p2, _, _, rfl, rfl, e1, upd_same, wl2 _, fun p3 n3 => ⟨p3, rfl, g2.trans (same_new n3 _), ?_⟩⟩
      rw [upd_same, show ww ((n, l) :: r) = sg n :: (wd (n, l) ++ ww r) from rfl, sg_neg c']
      rfl
    · have c' := decF c
      refine ⟨(by show 1 ≤ sizeLine; decide), fun p1 n1 => ?_⟩
      refine ⟨_, rfl, rfl, _, _, rfl, rfl, rfl, by omega, Nat.le_trans parts_le (by omega), by omega, fun p2 n2 => ?_⟩
      rw [show Txt.split (tx ((n, l) :: r)) (" " : Str) = wd (n, l) ++ ww r from wt.2 c']
      obtain ⟨e1, g2⟩ := cat_ok (b := (wd (n, l) ++ ww r).map V.str) n1 n2
      refine ⟨p1, p2, _, _, rfl, rfl, e1, upd_same, wl2 _, fun p3 n3 => ⟨p3, rfl, g2.trans (same_new n3 _), ?_⟩⟩
      rw [upd_same, show ww ((n, l) :: r) = sg n :: (wd (n, l) ++ ww r) from rfl, sg_pos c']
      rfl
  · rintro _ H1 ⟨w, rfl, g1, hw⟩
    refine ⟨(by show 0 ≤ sizeLine; decide), fun l' nl => ?_⟩
    have lw : l' ≠ w := fun e => by rw [e, hw] at nl; cases nl
    have fl : H l' = none := by
      cases e : H l' with
      | none => rfl
      | some o => rw [g1 _ _ e] at nl; cases nl
    generalize hW : ww ((n, l) :: r) = W at *
    refine ⟨_, rfl, w, rfl, ⟨_, SqL.of (by rw [upd_ne (Ne.symm lw)]; exact hw)⟩, for_list (xs := W.map V.str) (fun i σ H' => ∃ (as : List Addr) (x3 : Option V), σ = [some (.str (tx ((n, l) :: r))), some (.ref w), some (.ref l'), x3] ∧ Grp H H' w l' W as (gpA W i)) ?_ ?_ ?_ ?_⟩
    · refine ⟨[], _, rfl, ?_⟩
      refine { sm := g1.trans (same_new nl _), hw := by rw [upd_ne (Ne.symm lw)]; exact hw, hl := upd_same, ly := trivial, nd := List.nodup_nil, nl := List.not_mem_nil, nw := List.not_mem_nil, ne := lw, fr := fun a m => (by cases m), fl := fl }
    · rintro i σ H' hi ⟨as, x3, rfl, G⟩
      exact SqL.of G.hw
    · rintro i x σ H' hx ⟨as, x3, rfl, G⟩
      rw [List.getElem?_map] at hx
      cases hk : W[i]? with
      | none => rw [hk] at hx; cases hx
      | some x' =>
      rw [hk] at hx
      obtain rfl : V.str x' = x := by simpa using hx
      have iw : i < W.length := (List.getElem?_eq_some_iff.mp hk).1
      have gb := gpA_bd W i
      have al := G.ly.len
      refine ⟨fun σ' H2 => ∃ (as2 : List Addr) (g0 : List (List Str)) (g : List Str), σ' = [some (.str (tx ((n, l) :: r))), some (.ref w), some (.ref l'), some (.str x')] ∧ Grp H H2 w l' W as2 (g0 ++ [g]) ∧ stp (gpA W i) x' = g0 ++ [g ++ [x']] ∧ g.length ≤ 20, ?_, ?_⟩
      · refine ⟨_, rfl, (by show 2 ≤ sizeLine; decide), fun p1 n1 => ⟨_, _, rfl, .inr (SqT.of upd_same), rfl, rfl, _, rfl, ?_⟩⟩
        have G1 := G.new n1 (.tup [.str "+", .str "-"])
        refine ite2 (fun c => ?_) (fun c => ?_)
        · have c' : isS x' = true := (isS_in x').symm.trans c
          refine ⟨_, rfl, .inl ⟨rfl, _, SqL.of G1.hl⟩, (by show 0 ≤ sizeLine; decide), fun a na => ?_⟩
          have la : l' ≠ a := fun e => by rw [← e, G1.hl] at na; cases na
          refine ⟨l', _, _, rfl, rfl, by rw [upd_ne la]; exact G1.hl, by rw [List.length_map]; omega, ?_⟩
          exact ⟨_, gpA W i, [], rfl, G1.open na, stp_sign c', by decide⟩
        · have c' : isS x' = false := by
            cases e : isS x' with
            | false => rfl
            | true => exact absurd ((isS_in x').trans e) c
          rcases stp_two (gs := gpA W i) (w := x') with ⟨z, _⟩ | ⟨_, ⟨z, _⟩ | ⟨g0, g, e0, e⟩⟩
          · rw [c'] at z; cases z
          · exfalso
            have i0 : 0 < i := by
              match i, hk with
              | 0, hk =>
                rw [← hW] at hk
                have : sg n = x' := by simpa [ww] using hk
                rw [← this, isS_sg] at c'
                cases c'
              | i + 1, _ => omega
            rw [← hW] at z
            exact gpA_ne (isS_sg n) i0 z
          · refine ⟨as, g0, g, rfl, by rw [← e0]; exact G1, e, ?_⟩
            have := gb.1 g (by rw [e0]; exact List.mem_append_right _ (List.mem_singleton.mpr rfl))
            omega
      · rintro _ H2 ⟨as2, g0, g, rfl, G2, es, gl⟩
        obtain ⟨bs, b, rfl, hb, k⟩ := G2.word
        have hl2 := G2.hl
        rw [List.map_append] at hl2
        refine ⟨_, rfl, _, rfl, l', _, _, _, rfl, rfl, SqL.of hl2, atI_last _ _, .inl ⟨rfl, _, SqL.of hb⟩, _, rfl, b, _, _, rfl, rfl, hb, by rw [List.length_map]; omega, ?_⟩
        refine ⟨bs ++ [b], _, rfl, ?_⟩
        rw [gpA_succ hk, es]
        exact k x'
    · rintro σ H' ⟨as, x3, rfl, G⟩
      rw [List.length_map] at G
      refine ⟨_, rfl, q l' as H' G.sm G.hl ?_⟩
      have := G.ly
      rw [← hW, gpA_all hlet] at this
      exact this
theorem ok_read_sum {f : Addr} {fd : FuncData} (F : Fun K "read_sum" "read_sum" s_read_sum f fd) (T : Txt K mg t) (H_terms_of : Has P w K mg base CX0 1 "terms_of" ["shown"] (spTerms)) (H_read_coefficient : Has P w K mg base CX0 3 "read_coefficient" ["words"] (spCoef K)) : FnOk P w K mg base CX0 4 f fd ["text"] (spRead) := by
  obtain ⟨f_terms_of, d_terms_of, G_terms_of, b_terms_of, k_terms_of, m_terms_of⟩ := H_terms_of
  obtain ⟨f_read_coefficient, d_read_coefficient, G_read_coefficient, b_read_coefficient, k_read_coefficient, m_read_coefficient⟩ := H_read_coefficient
  refine F.ok sc_read_sum (fun vs H Q E h => ?_) (fun cdv A outer s H vs Q E hr h => ?_)
  · obtain ⟨_, rfl, _⟩ := h
    rfl
  obtain ⟨ts, rfl, hg, q⟩ := h
  have hr_terms_of := hr.mono (show 1 ≤ 3 by decide)
  have hr_read_coefficient := hr.mono (show 3 ≤ 3 by decide)
  have hu := hu_of hr
  refine ⟨_, pss_cons (ps_if (PW.pt (pw_or (pt_not (pt_val (pe_callB call_isi rfl T.z_isinstance b_isi (pa_cons (pv 0) (pa_cons (pe_bltn (v := .ty "str") rfl T.z_str b_str rfl) pa_nil))) (fun _ => rfl))) (pw_or1 (pt_not (pt_val (pe_bm PySem.F.plainAttrs_str PySem.F.slot_str_endswith PySem.F.type_str_endswith mt_endswith (pv 0) (pa_cons (pe_glob (v := .str " = 0") rfl T.m_END ⟨_, rfl⟩) pa_nil)) (fun _ => rfl)))))) pss_never pss_nil)
    (pss_cons (ps_if (pt_cmpR op_eq (pv 0) (pe_glob (v := .str "0 = 0") rfl T.m_NOUGHTS ⟨_, rfl⟩) (nomark _)) (pss_one (ps_ret (pe_callTy call_tuple_of rfl T.z_tuple b_tuple (pa_cons (pe_compC rfl (CompScope.gen (cl := []) [] [] [(".0", .local), ("letters", .local)] rfl (by decide +kernel) (by decide +kernel) rfl rfl (by intro p hp; cases hp) rfl (by intro p hp h; simp only [List.mem_cons, List.not_mem_nil, or_false] at hp; rcases hp with rfl | rfl <;> first | rfl | (rcases h with h | h <;> cases h)) (by decide) (by decide +kernel) rfl (by intro p hp; cases hp)) (pi_tup (pe_glob (v := .ref t.gLETTERS) rfl T.m_LETTERS rfl)) (fun C s0 H0 fp pins => pe_int)) pa_nil)))) pss_nil)
    (pss_cons (ps_set (i := 1) sc_read_sum.nd rfl (Or.inr rfl) pe_dnewK)
    (pss_cons (ps_for PassesOwn.never rfl (pi_list (pe_call G_terms_of hr_terms_of rfl m_terms_of k_terms_of b_terms_of .nil pass0 (pa_cons (pe_slice sl_str (pv 0) po_none (po_some (pe_un un_neg (pe_callB call_len_str rfl T.z_len PySem.boot_len (pa_cons (pe_glob (v := .str " = 0") rfl T.m_END ⟨_, rfl⟩) pa_nil))))) pa_nil))) (pg_name (i := 2) sc_read_sum.nd rfl (Or.inl rfl)) (pss_cons (ps_set (i := 3) sc_read_sum.nd rfl (Or.inl rfl) (pe_ix ix_list (pv 2) (pe_un un_neg pe_int) (fun _ _ => rfl)))
    (pss_cons (ps_if (PW.pt (pw_or (pt_cmpR op_notIn_seq (pv 3) (pe_glob (v := .ref t.gLETTERS) rfl T.m_LETTERS rfl) (by with_unfolding_all rfl)) (pw_or1 (pt_cmp (pc_din hu (pv 3) (pv 1)))))) pss_never pss_nil)
    (pss_one (ps_dput hu (pv 1) (pv 3) (pe_call G_read_coefficient hr_read_coefficient rfl m_read_coefficient k_read_coefficient b_read_coefficient .nil pass0 (pa_cons (pv 2) pa_nil)) rfl)))))
    (pss_one (ps_ret (pe_callTy call_tuple_of rfl T.z_tuple b_tuple (pa_cons (pe_compC rfl (CompScope.gen (cl := [("coefficients", _)]) ["coefficients"] [1] [(".0", .local), ("letters", .local), ("coefficients", .cell)] rfl (by decide +kernel) (by decide +kernel) rfl rfl (by intro p hp; simp only [List.mem_cons, List.not_mem_nil, or_false] at hp; rcases hp with rfl <;> rfl) rfl (by intro p hp h; simp only [List.mem_cons, List.not_mem_nil, or_false] at hp; rcases hp with rfl | rfl | rfl <;> first | rfl | (rcases h with h | h <;> cases h)) (by decide) (by decide +kernel) rfl (by intro p hp; simp only [List.zip_cons_cons, List.zip_nil_left, List.mem_cons, List.not_mem_nil, or_false] at hp; rcases hp with rfl <;> exact ⟨rfl, rfl⟩)) (pi_tup (pe_glob (v := .ref t.gLETTERS) rfl T.m_LETTERS rfl)) (fun C s0 H0 fp pins => pe_dget2 hu (pv 1) (pv 0) pe_int ⟨rfl, rfl, rfl, rfl⟩)) pa_nil))))))), ?_⟩
  have bg := big100
  have fl : (fu ts).length ≤ 400 := by
    have h1 := tx_len hg.sm
    have h2 := hg.2.2
    unfold fu
    rw [len_app]
    have : eo.length = 4 := rfl
    have : (⟨#[48]⟩ : Str).length = 1 := rfl
    split <;> omega
  refine ⟨_, rfl, _, _, _, _, rfl, .inr ⟨_, rfl⟩, .of (.str _), rfl, _, rfl, iteF ?_⟩
  refine ⟨_, rfl, rfl, _, _, rfl, rfl, _, rfl, ?_⟩
  rw [show Txt.endswith (fu ts) (" = 0" : Str) = true from fu_ends ts]
  refine iteF ?_
  by_cases e0 : ts = []
  · subst e0
    refine ⟨_, rfl, rfl, _, rfl, iteDT (by rw [fu_nil]) ?_⟩
    refine ⟨t.gLETTERS, rfl, ⟨_, T.k_LETTERS.sq _⟩, comp_tupF (xs := LS.map V.str) (T.k_LETTERS.sq _) (by show 6 < sizeLine; omega) (fun _ => .int 0) (fun H' g => T.k_LETTERS.sq _) ?_ ?_⟩
    · intro i v H' Q' hv g k
      exact k _ (Same.refl _)
    · intro l H' g h0 hl
      exact ⟨l, _, rfl, .inl ⟨SqL.of hl, fun p np => q p _ (g.trans (same_new np _)) upd_same⟩⟩
  have hne : ¬ V.str (fu ts) = V.str "0 = 0" := by
    match ts, e0, hg with
    | p :: r, _, hg => exact fun z => fu_ne (hg.let p (List.mem_cons_self ..)) (V.str.inj z)
  refine ⟨_, rfl, rfl, _, rfl, iteDF hne ?_⟩
  refine fun d nd => ?_
  refine ⟨_, rfl, _, rfl, by decide, _, rfl, _, rfl, _, rfl, by omega, ?_⟩
  rw [show Txt.slice (fu ts) none (some (-((" = 0" : Str).length : Int))) = tx ts from fu_off e0]
  refine ⟨ts, rfl, e0, hg.let, hg.sm, hg.2.2, fun l as H1 g1 hl ly => ?_⟩
  have dl : H1 d = some (.dK []) := g1 _ _ upd_same
  have dnl : d ≠ l := fun e => by rw [e, hl] at dl; cases dl
  have dna : d ∉ as := ly.no dl
  have lal : as.length = ts.length := by rw [ly.len, List.length_map]
  refine ⟨l, rfl, ⟨_, SqL.of hl⟩, for_list (xs := as.map V.ref) (fun i σ H' => ∃ x2 x3 : Option V, σ = [some (.str (fu ts)), some (.ref d), x2, x3] ∧ Same H H' ∧ H' l = some (.lst (as.map V.ref)) ∧ LayL H' as (ts.map grp) ∧ H' d = some (.dK (kd (ts.take i)))) ⟨_, _, rfl, (same_new nd _).trans g1, hl, ly, dl⟩ ?_ ?_ ?_⟩
  · rintro i σ H' hi ⟨x2, x3, rfl, g, hl', ly', hd⟩
    exact SqL.of hl'
  · rintro i x σ H' hx ⟨x2, x3, rfl, g, hl', ly', hd⟩
    rw [List.getElem?_map] at hx
    cases hk : as[i]? with
    | none => rw [hk] at hx; cases hx
    | some a =>
    rw [hk] at hx
    obtain rfl : V.ref a = x := by simpa using hx
    obtain ⟨gp, e1, ha⟩ := ly'.at hk
    rw [List.getElem?_map] at e1
    cases hp : ts[i]? with
    | none => rw [hp] at e1; cases e1
    | some p =>
    rw [hp] at e1
    obtain rfl : grp p = gp := by simpa using e1
    obtain ⟨pl, p0, p6⟩ := hg.1 p (List.mem_of_getElem? hp)
    obtain ⟨g0, eg⟩ := grp_last p
    have nt := nd_take hg.2.1 hp
    have tk : ts.take (i + 1) = ts.take i ++ [p] := by rw [List.take_succ, hp]; rfl
    have ha2 := ha
    rw [eg, List.map_append] at ha2
    refine ⟨_, rfl, _, rfl, a, _, _, _, rfl, rfl, SqL.of ha2, atI_last _ _, ?_⟩
    refine ⟨_, rfl, t.gLETTERS, _, rfl, .inr (T.k_LETTERS.sq _), rfl, rfl, _, rfl, iteFE ?_ ?_⟩
    · show (!inV (.str p.2) (LS.map V.str)) = false
      rw [LS_in pl]
      rfl
    refine ⟨_, rfl, _, rfl, d, _, rfl, DGet.k (k := .inr p.2) hd, _, rfl, iteFE ?_ ?_⟩
    · rw [kd_new nt]
      rfl
    refine ⟨_, rfl, a, p, rfl, SqL.of ha, p0, p6, fun H2 g2 => ?_⟩
    have tl : (ts.take i).length ≤ ts.length := by rw [List.length_take]; omega
    refine ⟨_, rfl, _, rfl, d, _, rfl, DPut.k (k := .inr p.2) (g2 _ _ hd) (by rw [kd_len]; have := hg.2.2; omega), ?_⟩
    refine ⟨_, _, rfl, same_upd (g.trans g2) nd, ?_, LayL.upd (ly'.same g2) dna, ?_⟩
    · rw [upd_ne (Ne.symm dnl)]
      exact g2 _ _ hl'
    · rw [upd_same, kd_put nt, tk]
  · rintro σ H' ⟨x2, x3, rfl, g, hl', ly', hd⟩
    rw [List.length_map, lal, List.take_length] at hd
    refine ⟨t.gLETTERS, rfl, ⟨_, T.k_LETTERS.sq _⟩, comp_tupF (xs := LS.map V.str) (T.k_LETTERS.sq _) (by show 6 < sizeLine; omega) (fun v => match v with | .str l => .int (vl ts l) | _ => .non) (fun H' g => T.k_LETTERS.sq _) ?_ ?_⟩
    · intro i v H2 Q' hv g2 k
      obtain ⟨l, _, rfl⟩ := List.mem_map.mp (List.mem_of_getElem? hv)
      refine ⟨_, rfl, d, rfl, .inl ⟨_, .inl (g2 _ _ hd)⟩, _, rfl, _, DGet.k (k := .inr l) (g2 _ _ hd), ?_⟩
      rw [kd_get]
      exact k _ (Same.refl _)
    · intro l2 H2 g2 h0 hl2
      refine ⟨l2, _, rfl, .inl ⟨SqL.of hl2, fun p np => q p _ (g.trans (g2.trans (same_new np _))) ?_⟩⟩
      rw [upd_same, List.map_map]
      rfl
theorem ok_shown {f : Addr} {fd : FuncData} (F : Fun K "_law_shown" "_law_shown" s_shown f fd) (T : Txt K mg t) (H_term : Has P w K mg base CX0 1 "_law_term" ["_law_number", "_law_letters_here"] (spTm)) (H_letters : Has P w K mg base CX0 1 "_law_letters" [] (spLetters)) : FnOk P w K mg base CX0 2 f fd ["_law_form_here", "_law_order"] (spShown K) := by
  obtain ⟨f_term, d_term, G_term, b_term, k_term, m_term⟩ := H_term
  obtain ⟨f_letters, d_letters, G_letters, b_letters, k_letters, m_letters⟩ := H_letters
  refine F.ok sc_shown (fun vs H Q E h => ?_) (fun cdv A outer s H vs Q E hr h => ?_)
  · obtain ⟨_, _, _, _, rfl, _⟩ := h
    rfl
  obtain ⟨f, o, fs, os, rfl, hf, ho, h6, hb, l6, b6, q⟩ := h
  have hr_term := hr.mono (show 1 ≤ 1 by decide)
  have hr_letters := hr.mono (show 1 ≤ 1 by decide)
  refine ⟨_, pss_cons (ps_set (i := 2) sc_shown.nd rfl (Or.inl rfl) pe_str)
    (pss_cons (ps_for PassesOwn.never rfl (pi_list (pv 1)) (pg_name (i := 3) sc_shown.nd rfl (Or.inl rfl)) (pss_one (ps_if (pt_cmpR op_ne (pe_ix ix_seq (pv 0) (pv 3) (fun _ _ => rfl)) pe_int (nomark _)) (pss_cons (ps_set (i := 4) sc_shown.nd rfl (Or.inl rfl) (pe_ix ix_list (pe_lst (pa_cons pe_str (pa_cons pe_str pa_nil))) (pe_callTy call_int1 rfl T.z_int b_int (pa_cons (pe_cmpR op_lt (pe_ix ix_seq (pv 0) (pv 3) (fun _ _ => rfl)) pe_int (nomark _)) pa_nil)) (fun _ _ => rfl)))
    (pss_cut (ps_if (pt_cmpR op_eq (pv 2) pe_str (nomark _)) (pss_one (ps_set (i := 4) sc_shown.nd rfl (Or.inl rfl) (pe_ix ix_list (pe_lst (pa_cons pe_str (pa_cons pe_str pa_nil))) (pe_callTy call_int1 rfl T.z_int b_int (pa_cons (pe_cmpR op_lt (pe_ix ix_seq (pv 0) (pv 3) (fun _ _ => rfl)) pe_int (nomark _)) pa_nil)) (fun _ _ => rfl)))) pss_nil)
    (pss_one (ps_set (i := 2) sc_shown.nd rfl (Or.inl rfl) (pe_op op_add_str (pe_op op_add_str (pv 2) (pv 4)) (pe_call G_term hr_term rfl m_term k_term b_term .nil pass0 (pa_cons (pe_ix ix_seq (pv 0) (pv 3) (fun _ _ => rfl)) (pa_cons (pe_ix ix_list (pe_call0 G_letters hr_letters rfl m_letters k_letters b_letters .nil pass0) (pv 3) (fun _ _ => rfl)) pa_nil)))))))) pss_nil)))
    (pss_cut (ps_if (pt_cmpR op_eq (pv 2) pe_str (nomark _)) (pss_one (ps_set (i := 2) sc_shown.nd rfl (Or.inl rfl) pe_str)) pss_nil)
    (pss_one (ps_ret (pe_op op_add_str (pv 2) pe_str))))), ?_⟩
  have bg := big100
  have rix : ∀ (H' : Hp) (k : Nat) (R : VK), Same H H' → k < 6 → R (.int (fs.getD k 0)) H' → rIx K (.ref f) (.int k) H' R := by
    intro H' k R g hk hR
    have at' : atI (fs.map V.int) (k : Int) = some (.int (fs.getD k 0)) := cell_in (Int.natCast_nonneg k) (by rw [List.length_map, h6]; omega)
    rcases hf with h | h
    · exact .inl ⟨f, _, _, _, rfl, rfl, SqL.of (g _ _ h), at', hR⟩
    · exact .inr (.inl ⟨f, _, _, _, rfl, rfl, SqT.of (g _ _ h), at', hR⟩)
  have b6t : ∀ i, ∀ k ∈ os.take i, k < 6 := fun i k m => b6 k (List.mem_of_mem_take m)
  have sm : ∀ i, Sm (ter fs (os.take i)) := fun i => ter_sm hb (b6t i)
  have tl : ∀ i, (tx (ter fs (os.take i))).length ≤ 396 := by
    intro i
    have h1 := tx_len (sm i)
    have h2 := ter_len fs (os.take i)
    rw [List.length_take] at h2
    omega
  refine ⟨_, rfl, o, rfl, ⟨_, ho⟩, for_list (xs := os.map fun k : Nat => V.int k) (fun i σ H' => ∃ x3 x4 : Option V, σ = [some (.ref f), some (.ref o), some (.str (tx (ter fs (os.take i)))), x3, x4] ∧ Same H H') ⟨_, _, rfl, Same.refl _⟩ ?_ ?_ ?_⟩
  · rintro i σ H' hi ⟨x3, x4, rfl, g⟩
    exact g.seq ho
  · rintro i x σ H' hx ⟨x3, x4, rfl, g⟩
    rw [List.getElem?_map] at hx
    cases hk : os[i]? with
    | none => rw [hk] at hx; cases hx
    | some k =>
    rw [hk] at hx
    obtain rfl : V.int (k : Int) = x := by simpa using hx
    have k6 : k < 6 := b6 k (List.mem_of_getElem? hk)
    have tk : os.take (i + 1) = os.take i ++ [k] := by rw [List.take_succ, hk]; rfl
    have ts := ter_snoc fs (os.take i) k
    rw [← tk] at ts
    have t1 := tl i
    refine ⟨_, rfl, _, rfl, rix _ _ _ g k6 ⟨rfl, _, rfl, ?_⟩⟩
    refine ite2 (fun c => ?_) (fun c => ?_)
    · have n0 : fs.getD k 0 ≠ 0 := fun z => neT c (by rw [z])
      rw [if_pos n0] at ts
      have bn := hb _ (getD_mem n0)
      have ll := (LS_let _ (ls_mem k6)).2
      have tml := tmS_len ll bn
      have snl := sn_len (ter fs (os.take i)) (fs.getD k 0)
      refine ⟨(by show 2 ≤ sizeLine; decide), fun p1 n1 => ?_⟩
      have g1 := g.trans (same_new n1 (.lst [.str " + ", .str " - "]))
      refine ⟨_, rfl, _, rfl, rix _ _ _ g1 k6 ⟨_, _, rfl, rfl, .inr ⟨_, rfl, p1, _, _, _, rfl, rfl, SqL.of upd_same, at_sgB _, ?_⟩⟩⟩
      refine ⟨fun σ' H2 => σ' = [some (.ref f), some (.ref o), some (.str (tx (ter fs (os.take i)))), some (.int (k : Int)), some (.str (sn (ter fs (os.take i)) (fs.getD k 0)))] ∧ Same H H2, ?_, ?_⟩
      · refine ⟨_, rfl, rfl, _, rfl, ?_⟩
        refine ite2 (fun c => ?_) (fun c => ?_)
        · have e0 := (tx_nil (ter_let (b6t i))).mp (decT c)
          refine ⟨(by show 2 ≤ sizeLine; decide), fun p2 n2 => ?_⟩
          have g2 := g1.trans (same_new n2 (.lst [.str "", .str "-"]))
          refine ⟨_, rfl, _, rfl, rix _ _ _ g2 k6 ⟨_, _, rfl, rfl, .inr ⟨_, rfl, p2, _, _, _, rfl, rfl, SqL.of upd_same, at_hd _, ?_⟩⟩⟩
          refine ⟨?_, g2⟩
          unfold sn
          rw [if_pos e0]
          rfl
        · have e0 : ter fs (os.take i) ≠ [] := fun z => decF c ((tx_nil (ter_let (b6t i))).mpr z)
          refine ⟨?_, g1⟩
          unfold sn
          rw [if_neg e0]
          rfl
      · rintro _ H2 ⟨rfl, g2⟩
        refine ⟨_, rfl, _, rfl, _, _, rfl, rfl, by omega, _, rfl, _, rfl, rix _ _ _ g2 k6 ⟨rfl, fun p3 n3 => ?_⟩⟩
        have g3 := g2.trans (same_new n3 (.lst (LS.map V.str)))
        refine ⟨_, rfl, p3, _, _, _, rfl, rfl, SqL.of upd_same, at_LS k6, _, _, rfl, bn, ll, _, _, rfl, rfl, ?_, ?_⟩
        · rw [len_app]
          omega
        · refine ⟨some (.int (k : Int)), some (.str (sn (ter fs (os.take i)) (fs.getD k 0))), ?_, g3⟩
          rw [tx_add, ts]
          rfl
    · have n0 : ¬ fs.getD k 0 ≠ 0 := fun z => z (V.int.inj (neF c))
      rw [if_neg n0] at ts
      exact ⟨_, _, by rw [ts]; rfl, g⟩
  · rintro σ H' ⟨x3, x4, rfl, g⟩
    rw [List.length_map, List.take_length]
    have t6 := tl os.length
    rw [List.take_length] at t6
    refine ⟨fun σ' H2 => (∃ z, σ' = [some (.ref f), some (.ref o), some (.str z), x3, x4] ∧ z ++ eo = fu (ter fs os) ∧ z.length ≤ 396) ∧ Same H H2, ?_, ?_⟩
    · refine ⟨_, rfl, rfl, _, rfl, ?_⟩
      refine ite2 (fun c => ?_) (fun c => ?_)
      · have e0 := (tx_nil (ter_let b6)).mp (decT c)
        exact ⟨⟨_, rfl, by rw [e0]; rfl, by decide⟩, g⟩
      · have e0 : ter fs os ≠ [] := fun z => decF c ((tx_nil (ter_let b6)).mpr z)
        exact ⟨⟨_, rfl, by unfold fu; rw [if_neg e0], t6⟩, g⟩
    · rintro _ H2 ⟨⟨z, rfl, e, zl⟩, g2⟩
      refine ⟨_, rfl, _, _, rfl, rfl, ?_, ?_⟩
      · show z.length + 4 ≤ sizeLine
        omega
      · have := q _ g2
        rw [← e] at this
        exact this
theorem ok_Desk_init {f : Addr} {fd : FuncData} (F : Fun K "__init__" "Desk.__init__" s_Desk_init f fd) (T : Txt K mg t)  : FnOk P w K mg base CX0 1 f fd ["self"] (spInit t.cDesk) := by
  refine F.ok sc_Desk_init (fun vs H Q E h => ?_) (fun cdv A outer s H vs Q E hr h => ?_)
  · obtain ⟨_, _, rfl, _⟩ := h
    rfl
  obtain ⟨x, dx, rfl, hx, q⟩ := h
  refine ⟨_, pss_one (ps_fld (pv 0) pe_dnewK rfl), ?_⟩
  refine fun d nd => ⟨_, rfl, x, _, dx, _, rfl, same_new nd _ _ _ hx, T.cl_Desk, T.na_curves, by decide, ?_⟩
  have ne : x ≠ d := ne_of_none hx nd
  exact q d _ nd upd_same (by rw [upd_ne (Ne.symm ne)]; exact upd_same) fun b o hb e => by
    rw [upd_ne hb]
    exact same_new nd _ _ _ e
theorem ok_Desk_kept {f : Addr} {fd : FuncData} (F : Fun K "kept" "Desk.kept" s_Desk_kept f fd) (T : Txt K mg t)  : FnOk P w K mg base (XF P w) 1 f fd ["self", "name"] (spKept t.cDesk t.c14) := by
  refine F.okX sc_Desk_kept (fun vs H Q E h => ?_) (fun cdv A outer s H vs Q E hr h => ?_)
  · obtain ⟨_, _, _, _, rfl, _⟩ := h
    rfl
  obtain ⟨p, d, kvs, s, rfl, ⟨dx, hp, hd⟩, q1, q2⟩ := h
  have hu := hu_of hr
  refine ⟨_, pss_cons (ps_if (pt_cmp (pc_dnotin hu (pv 1) (pe_fld (pv 0) rfl))) (pss_one (ps_raise T.m_NoName T.x_NoName rfl (pa_cons pe_str pa_nil))) pss_nil)
    (pss_one (PS.nox (ps_ret (pe_dget hu (pe_fld (pv 0) rfl) (pv 1) (fun _ _ => rfl))))), ?_⟩
  refine ⟨_, rfl, _, rfl, p, _, dx, _, _, rfl, hp, T.cl_Desk, T.na_curves, rfl, d, _, rfl, DGet.k (k := Sum.inr s) hd, _, rfl, ?_⟩
  cases e : valV kvs (Sum.inr s) with
  | none =>
    refine iteT ?_
    exact ⟨by decide, q2 e _ (Same.refl _)⟩
  | some v =>
    refine iteF ?_
    have g : DGet H d (V.str s) (some v) := by
      have := DGet.k (k := Sum.inr s) hd
      rw [e] at this
      exact this
    exact ⟨_, rfl, p, _, dx, _, _, rfl, hp, T.cl_Desk, T.na_curves, rfl, _, rfl, d, v, rfl, g, q1 v e⟩
theorem ok_names_of_row {f : Addr} {fd : FuncData} (F : Fun K "names_of_row" "names_of_row" s_names_of_row f fd) (T : Txt K mg t)  : FnOk P w K mg base CX0 1 f fd ["words"] (spRowN K) := by
  refine F.ok sc_names_of_row (fun vs H Q E h => ?_) (fun cdv A outer s H vs Q E hr h => ?_)
  · obtain ⟨_, _, _, rfl, _⟩ := h
    rfl
  obtain ⟨w, wd, s, rfl, hw, h3, q⟩ := h
  refine ⟨_, pss_cons (ps_if (pt_cmp (pc_tabnot (D := tabROWS) (pe_ix ix_list (pv 0) pe_int (fun _ _ => rfl)) (pe_glob (v := .ref t.gROWS) rfl T.m_ROWS rfl))) pss_never pss_nil)
    (pss_cons (ps_set (i := 1) sc_names_of_row.nd rfl (Or.inl rfl) (pe_tabget (D := tabROWS) (pe_glob (v := .ref t.gROWS) rfl T.m_ROWS rfl) (pe_ix ix_list (pv 0) pe_int (fun _ _ => rfl)) (fun _ _ => rfl)))
    (pss_cons (ps_if (pt_cmpR op_ne (pe_callB call_len_seq rfl T.z_len PySem.boot_len (pa_cons (pv 0) pa_nil)) (pe_op op_add (pe_op op_add pe_int (pe_ix ix_tup (pv 1) pe_int (fun _ _ => rfl))) (pe_ix ix_tup (pv 1) pe_int (fun _ _ => rfl))) (nomark _)) pss_never pss_nil)
    (pss_one (ps_ret (pe_slice sl_list (pv 0) (po_some pe_int) (po_some (pe_op op_add pe_int (pe_ix ix_tup (pv 1) pe_int (fun _ _ => rfl))))))))), ?_⟩
  have a0 : atI [V.str wd, .str s] 0 = some (.str wd) := atI_nat (j := 0) rfl
  have k1 : PyProof.Rows.KTD.inKeys wd tabROWS = true ∧ PyProof.Rows.KTD.datumAt wd tabROWS = some (.tup (([1, 0] : List Int).map PySem.PyData.int)) := by
    rcases h3 with rfl | rfl | rfl
    · exact ⟨by decide +kernel, rfl⟩
    · exact ⟨by decide +kernel, rfl⟩
    · exact ⟨by decide +kernel, rfl⟩
  refine ⟨_, rfl, w, _, _, _, rfl, rfl, hw, a0, _, wd, rfl, rfl, T.k_ROWS, _, rfl, ?_⟩
  refine iteFE (by rw [k1.1]; rfl) ?_
  refine ⟨_, rfl, w, _, _, _, rfl, rfl, hw, a0, _, wd, [1, 0], rfl, rfl, T.k_ROWS, k1.2, by decide, fun b hb => ?_⟩
  have b0 : atI [V.int 1, .int 0] 0 = some (.int 1) := atI_nat (j := 0) rfl
  have b1 : atI [V.int 1, .int 0] 1 = some (.int 0) := atI_nat (j := 1) rfl
  refine ⟨_, rfl, w, _, rfl, .inl hw, _, rfl, b, _, _, _, rfl, rfl, hb.sq _, b0, _, _, rfl, rfl, _, rfl, b, _, _, _, rfl, rfl, hb.sq _, b1, _, _, rfl, rfl, rfl, _, rfl, ?_⟩
  refine iteF ?_
  refine ⟨_, rfl, _, rfl, _, rfl, b, _, _, _, rfl, rfl, hb.sq _, b0, _, _, rfl, rfl, _, rfl, w, _, rfl, hw, fun p1 n1 => ?_⟩
  exact q p1 _ (same_new n1 _) upd_same
theorem ok_Desk_keep {f : Addr} {fd : FuncData} (F : Fun K "keep" "Desk.keep" s_Desk_keep f fd) (T : Txt K mg t) (H_read_sum : Has P w K mg base CX0 4 "read_sum" ["text"] (spRead)) : FnOk P w K mg base (XF P w) 5 f fd ["self", "name", "text"] (spKeep t.cDesk t.c14) := by
  obtain ⟨f_read_sum, d_read_sum, G_read_sum, b_read_sum, k_read_sum, m_read_sum⟩ := H_read_sum
  refine F.okX sc_Desk_keep (fun vs H Q E h => ?_) (fun cdv A outer s H vs Q E hr h => ?_)
  · obtain ⟨_, _, _, _, _, rfl, _⟩ := h
    rfl
  obtain ⟨p, d, kvs, s, ts, rfl, ⟨dx, hp, hd⟩, kl, gt, ⟨na, nl⟩, q1, q2⟩ := h
  have hr_read_sum := hr.mono (show 4 ≤ 4 by decide)
  have hu := hu_of hr
  refine ⟨_, pss_cons (ps_if (PW.pt (pw_or (pt_not (pt_chain op_le op_le pe_int (pe_callB call_len_str rfl T.z_len PySem.boot_len (pa_cons (pv 1) pa_nil)) pe_int)) (pw_or1 (pt_not (pt_val (pe_callB (call_all rfl) rfl T.z_all b_all (pa_cons (pe_compC rfl (CompScope.gen (cl := []) [] [] [(".0", .local), ("sign", .local), ("SMALL", .globalImplicit)] rfl (by decide +kernel) (by decide +kernel) rfl rfl (by intro p hp; cases hp) rfl (by intro p hp h; simp only [List.mem_cons, List.not_mem_nil, or_false] at hp; rcases hp with rfl | rfl | rfl <;> first | rfl | (rcases h with h | h <;> cases h)) (by decide) (by decide +kernel) rfl (by intro p hp; cases hp)) (pi_str (pv 1)) (fun C s0 H0 fp pins => pe_cmpR op_in_str (pv 0) (pe_glob (v := .str "abcdefghijklmnopqrstuvwxyz") rfl T.m_SMALL ⟨_, rfl⟩) (by with_unfolding_all rfl))) pa_nil)) (fun _ => rfl)))))) (pss_one (ps_raise T.m_NoName T.x_NoName rfl (pa_cons pe_str pa_nil))) pss_nil)
    (pss_cons (PS.nox (ps_dput hu (pe_fld (pv 0) rfl) (pv 1) (pe_call G_read_sum hr_read_sum rfl m_read_sum k_read_sum b_read_sum .nil pass0 (pa_cons (pv 2) pa_nil)) rfl))
    (pss_one (PS.nox (ps_ret pe_str)))), ?_⟩
  have bg := big100
  refine ⟨_, rfl, _, rfl, by omega, _, _, rfl, rfl, _, rfl, ?_⟩
  refine ite2 (fun c1 => ?_) (fun c1 => ?_)
  · have c1' : (1 : Int) ≤ ((s.length : Nat) : Int) := decT c1
    refine ⟨_, _, rfl, rfl, _, rfl, ?_⟩
    by_cases c2 : ((s.length : Nat) : Int) ≤ 8
    · refine iteFE (by rw [decide_eq_true c2]; rfl) ?_
      refine ⟨_, rfl, s, rfl, nm_all na, ?_⟩
      refine comp_strF (by unfold sgn; rw [List.length_map]; show (L s).length < _; rw [len_L]; omega) gV ?_ ?_
      · intro i v H' Q' hv g k
        obtain ⟨c, hc, rfl⟩ := sgn_mem hv
        refine ⟨_, rfl, _, _, rfl, rfl, ?_⟩
        show Q' (.bl (gdC c)) H'
        rw [gV_one]
        exact k _ (Same.refl _)
      · intro l H' g h0 hl
        rw [sgn_good] at hl
        refine ⟨l, (L s).map gdC, rfl, hl, _, rfl, ?_⟩
        rw [all_gd]
        have gs : good s = (L s).all gdC := by
          unfold good
          rw [decide_eq_true (show 1 ≤ s.length by omega), decide_eq_true (show s.length ≤ 8 by omega)]
          rfl
        cases hd' : (L s).all gdC with
        | false =>
          refine iteT ?_
          exact ⟨by decide, q2 (gs.trans hd') _ g⟩
        | true =>
          refine iteF ?_
          refine ⟨_, rfl, ts, rfl, gt, fun a H2 g2 ha => ?_⟩
          have g3 := g.trans g2
          have hp2 := g3 _ _ hp
          have hd2 := g3 _ _ hd
          refine ⟨_, rfl, p, _, dx, _, _, rfl, hp2, T.cl_Desk, T.na_curves, rfl, _, rfl, d, _, rfl, DPut.k (k := Sum.inr s) hd2 (by omega), ?_⟩
          have ad : a ≠ d := fun z => by rw [z, hd2] at ha; cases ha
          exact q1 (gs.trans hd') a _ (fun b o hb e => by rw [upd_ne hb]; exact g3 _ _ e) (by rw [upd_ne ad]; exact ha) upd_same
    · refine iteTE (by rw [decide_eq_false c2]; rfl) ?_
      refine ⟨by decide, q2 ?_ _ (Same.refl _)⟩
      unfold good
      rw [decide_eq_false (show ¬ s.length ≤ 8 by omega), Bool.and_false, Bool.false_and]
  · have c1' : ¬ (1 : Int) ≤ ((s.length : Nat) : Int) := decF c1
    refine ⟨_, rfl, iteT ?_⟩
    refine ⟨by decide, q2 ?_ _ (Same.refl _)⟩
    unfold good
    rw [decide_eq_false (show ¬ 1 ≤ s.length by omega), Bool.false_and, Bool.false_and]
theorem ok_size_of {f : Addr} {fd : FuncData} (F : Fun K "size_of" "size_of" s_size_of f fd) (T : Txt K mg t)  : FnOk P w K mg base CX0 1 f fd ["Q"] (spSz) := by
  refine F.ok sc_size_of (fun vs H Q E h => ?_) (fun cdv A outer s H vs Q E hr h => ?_)
  · obtain ⟨_, _, rfl, _⟩ := h
    rfl
  obtain ⟨p, fs, rfl, ⟨hp, h6, hb⟩, q⟩ := h
  obtain ⟨a, b, c, d, e, f', rfl⟩ := six h6
  refine ⟨_, pss_one (ps_ret (pe_op op_sub (pe_op op_sub (pe_op op_sub (pe_op op_add (pe_op op_mulG (pe_op op_mulG (pe_op op_mulG pe_int (pe_ix ix_tup (pv 0) pe_int (fun _ _ => rfl))) (pe_ix ix_tup (pv 0) pe_int (fun _ _ => rfl))) (pe_ix ix_tup (pv 0) pe_int (fun _ _ => rfl))) (pe_op op_mulG (pe_op op_mulG (pe_ix ix_tup (pv 0) pe_int (fun _ _ => rfl)) (pe_ix ix_tup (pv 0) pe_int (fun _ _ => rfl))) (pe_ix ix_tup (pv 0) pe_int (fun _ _ => rfl)))) (pe_op op_mulG (pe_op op_mulG (pe_ix ix_tup (pv 0) pe_int (fun _ _ => rfl)) (pe_ix ix_tup (pv 0) pe_int (fun _ _ => rfl))) (pe_ix ix_tup (pv 0) pe_int (fun _ _ => rfl)))) (pe_op op_mulG (pe_op op_mulG (pe_ix ix_tup (pv 0) pe_int (fun _ _ => rfl)) (pe_ix ix_tup (pv 0) pe_int (fun _ _ => rfl))) (pe_ix ix_tup (pv 0) pe_int (fun _ _ => rfl)))) (pe_op op_mulG (pe_op op_mulG (pe_ix ix_tup (pv 0) pe_int (fun _ _ => rfl)) (pe_ix ix_tup (pv 0) pe_int (fun _ _ => rfl))) (pe_ix ix_tup (pv 0) pe_int (fun _ _ => rfl))))), ?_⟩
  have ba := bd_lo (hb a (by simp))
  have bb := bd_lo (hb b (by simp))
  have bc := bd_lo (hb c (by simp))
  have bd := bd_lo (hb d (by simp))
  have be := bd_lo (hb e (by simp))
  have bf := bd_lo (hb f' (by simp))
  exact ⟨_, rfl, p, _, _, _, rfl, rfl, SqT.of hp, rfl, _, _, rfl, rfl, mulS ba.1 ba.2, _, rfl, p, _, _, _, rfl, rfl, SqT.of hp, rfl, _, _, rfl, rfl, mulS bb.1 bb.2, _, rfl, p, _, _, _, rfl, rfl, SqT.of hp, rfl, _, _, rfl, rfl, mulS bc.1 bc.2,
    _, rfl, p, _, _, _, rfl, rfl, SqT.of hp, rfl, _, rfl, p, _, _, _, rfl, rfl, SqT.of hp, rfl, _, _, rfl, rfl, mulS be.1 be.2, _, rfl, p, _, _, _, rfl, rfl, SqT.of hp, rfl, _, _, rfl, rfl, mulS bf.1 bf.2, _, _, rfl, rfl,
    _, rfl, p, _, _, _, rfl, rfl, SqT.of hp, rfl, _, rfl, p, _, _, _, rfl, rfl, SqT.of hp, rfl, _, _, rfl, rfl, mulS bd.1 bd.2, _, rfl, p, _, _, _, rfl, rfl, SqT.of hp, rfl, _, _, rfl, rfl, mulS bd.1 bd.2, _, _, rfl, rfl,
    _, rfl, p, _, _, _, rfl, rfl, SqT.of hp, rfl, _, rfl, p, _, _, _, rfl, rfl, SqT.of hp, rfl, _, _, rfl, rfl, mulS be.1 be.2, _, rfl, p, _, _, _, rfl, rfl, SqT.of hp, rfl, _, _, rfl, rfl, mulS be.1 be.2, _, _, rfl, rfl,
    _, rfl, p, _, _, _, rfl, rfl, SqT.of hp, rfl, _, rfl, p, _, _, _, rfl, rfl, SqT.of hp, rfl, _, _, rfl, rfl, mulS bf.1 bf.2, _, rfl, p, _, _, _, rfl, rfl, SqT.of hp, rfl, _, _, rfl, rfl, mulS bf.1 bf.2, _, _, rfl, rfl, q⟩
theorem ok_size {f : Addr} {fd : FuncData} (F : Fun K "_law_size" "_law_size" s_size f fd) (T : Txt K mg t)  : FnOk P w K mg base CX0 1 f fd ["_law_form_here"] (spLsz) := by
  refine F.ok sc_size (fun vs H Q E h => ?_) (fun cdv A outer s H vs Q E hr h => ?_)
  · obtain ⟨_, _, rfl, _⟩ := h
    rfl
  obtain ⟨p, fs, rfl, ⟨hp, h6, hb⟩, q⟩ := h
  obtain ⟨a, b, c, d, e, f', rfl⟩ := six h6
  refine ⟨_, pss_cons (ps_asg (pv 0) (pg_tup rfl (pgs_cons (pg_name (i := 2) sc_size.nd rfl (Or.inl rfl)) (pgs_cons (pg_name (i := 3) sc_size.nd rfl (Or.inl rfl)) (pgs_cons (pg_name (i := 4) sc_size.nd rfl (Or.inl rfl)) (pgs_cons (pg_name (i := 5) sc_size.nd rfl (Or.inl rfl)) (pgs_cons (pg_name (i := 6) sc_size.nd rfl (Or.inl rfl)) (pgs_cons (pg_name (i := 7) sc_size.nd rfl (Or.inl rfl)) pgs_nil))))))))
    (pss_cons (ps_set (i := 1) sc_size.nd rfl (Or.inl rfl) (pe_op op_add (pe_op op_add (pe_op op_mulG (pe_op op_mulG (pv 2) (pv 5)) (pv 5)) (pe_op op_mulG (pe_op op_mulG (pv 3) (pv 6)) (pv 6))) (pe_op op_mulG (pe_op op_mulG (pv 4) (pv 7)) (pv 7))))
    (pss_one (ps_ret (pe_op op_sub (pe_op op_add (pe_op op_mulG (pe_op op_mulG (pe_op op_mulG pe_int (pv 2)) (pv 3)) (pv 4)) (pe_op op_mulG (pe_op op_mulG (pv 5) (pv 6)) (pv 7))) (pv 1))))), ?_⟩
  have ba := bd_lo (hb a (by simp))
  have bb := bd_lo (hb b (by simp))
  have bc := bd_lo (hb c (by simp))
  have bd := bd_lo (hb d (by simp))
  have be := bd_lo (hb e (by simp))
  have bf := bd_lo (hb f' (by simp))
  have ez : szF [a, b, c, d, e, f'] = 4 * a * b * c + d * e * f' - (a * d * d + b * e * e + c * f' * f') := by
    show 4 * a * b * c + d * e * f' - a * d * d - b * e * e - c * f' * f' = _
    generalize 4 * a * b * c = x1
    generalize d * e * f' = x2
    generalize a * d * d = x3
    generalize b * e * e = x4
    generalize c * f' * f' = x5
    omega
  rw [ez] at q
  refine ⟨_, rfl, p, _, rfl, SqT.of hp, rfl, _, _, rfl, _, _, rfl, _, _, rfl, _, _, rfl, _, _, rfl, _, _, rfl, rfl, ?_⟩
  refine ⟨_, rfl, _, rfl, _, _, rfl, rfl, mulS bd.1 bd.2, _, rfl, _, _, rfl, rfl, mulS bd.1 bd.2, _, rfl, _, rfl, _, _, rfl, rfl, mulS be.1 be.2, _, rfl, _, _, rfl, rfl, mulS be.1 be.2, _, _, rfl, rfl, _, rfl, _, rfl, _, _, rfl, rfl, mulS bf.1 bf.2, _, rfl, _, _, rfl, rfl, mulS bf.1 bf.2, _, _, rfl, rfl, ?_⟩
  exact ⟨_, rfl, _, _, rfl, rfl, mulS ba.1 ba.2, _, rfl, _, _, rfl, rfl, mulS bb.1 bb.2, _, rfl, _, _, rfl, rfl, mulS bc.1 bc.2, _, rfl, _, rfl, _, _, rfl, rfl, mulS be.1 be.2, _, rfl, _, _, rfl, rfl, mulS bf.1 bf.2, _, _, rfl, rfl, _, rfl, _, _, rfl, rfl, q⟩
theorem ok_answer_to {f : Addr} {fd : FuncData} (F : Fun K "answer_to" "answer_to" s_answer_to f fd) (T : Txt K mg t) (H_show_sum : Has P w K mg base CX0 2 "show_sum" ["Q"] (spShow)) (H_size_of : Has P w K mg base CX0 1 "size_of" ["Q"] (spSz)) : FnOk P w K mg base CX0 3 f fd ["word", "totals", "numbers"] (spAns K) := by
  obtain ⟨f_show_sum, d_show_sum, G_show_sum, b_show_sum, k_show_sum, m_show_sum⟩ := H_show_sum
  obtain ⟨f_size_of, d_size_of, G_size_of, b_size_of, k_size_of, m_size_of⟩ := H_size_of
  refine F.ok sc_answer_to (fun vs H Q E h => ?_) (fun cdv A outer s H vs Q E hr h => ?_)
  · obtain ⟨_, _, _, _, _, rfl, _⟩ := h
    rfl
  obtain ⟨wd, tl, nl, a, fs, rfl, htl, hc, hq⟩ := h
  have hr_show_sum := hr.mono (show 2 ≤ 2 by decide)
  have hr_size_of := hr.mono (show 1 ≤ 2 by decide)
  refine ⟨_, pss_cons (ps_if (pt_cmpR op_eq (pv 0) pe_str (nomark _)) (pss_one (ps_ret (pe_call G_show_sum hr_show_sum rfl m_show_sum k_show_sum b_show_sum .nil pass0 (pa_cons (pe_ix ix_list (pv 1) pe_int (fun _ _ => rfl)) pa_nil)))) pss_nil)
    (pss_cons (ps_if (pt_cmpR op_eq (pv 0) pe_str (nomark _)) (pss_one (ps_ret (pe_callTy call_str_int rfl T.z_str b_str (pa_cons (pe_call G_size_of hr_size_of rfl m_size_of k_size_of b_size_of .nil pass0 (pa_cons (pe_ix ix_list (pv 1) pe_int (fun _ _ => rfl)) pa_nil)) pa_nil)))) pss_nil)
    pss_never), ?_⟩
  have a0 : atI [V.ref a] 0 = some (.ref a) := atI_nat (j := 0) rfl
  rcases hq with ⟨rfl, q⟩ | ⟨rfl, q⟩
  · refine ⟨_, rfl, rfl, _, rfl, iteT ?_⟩
    exact ⟨_, rfl, tl, _, _, _, rfl, rfl, htl, a0, a, fs, rfl, hc.1, hc.2.1, hc.2.2.up, q⟩
  · refine ⟨_, rfl, rfl, _, rfl, iteF ?_⟩
    refine ⟨_, rfl, rfl, _, rfl, iteT ?_⟩
    refine ⟨_, rfl, tl, _, _, _, rfl, rfl, htl, a0, a, fs, rfl, hc, _, rfl, log_lt (szF_lt hc.2.1 hc.2.2), q _ (Same.refl _)⟩
theorem ok_Desk_say {f : Addr} {fd : FuncData} (F : Fun K "say" "Desk.say" s_Desk_say f fd) (T : Txt K mg t) (H_Desk_keep : HasM P w K mg base (XF P w) 5 t.iDesk_keep ["self", "name", "text"] (spKeep t.cDesk t.c14)) (H_Desk_kept : HasM P w K mg base (XF P w) 1 t.iDesk_kept ["self", "name"] (spKept t.cDesk t.c14)) (H_names_of_row : Has P w K mg base CX0 1 "names_of_row" ["words"] (spRowN K)) (H_answer_to : Has P w K mg base CX0 3 "answer_to" ["word", "totals", "numbers"] (spAns K)) : FnOk P w K mg base (XF P w) 6 f fd ["self", "row"] (spSay t.cDesk t.c14) := by
  obtain ⟨d_Desk_keep, G_Desk_keep, b_Desk_keep⟩ := H_Desk_keep
  obtain ⟨d_Desk_kept, G_Desk_kept, b_Desk_kept⟩ := H_Desk_kept
  obtain ⟨f_names_of_row, d_names_of_row, G_names_of_row, b_names_of_row, k_names_of_row, m_names_of_row⟩ := H_names_of_row
  obtain ⟨f_answer_to, d_answer_to, G_answer_to, b_answer_to, k_answer_to, m_answer_to⟩ := H_answer_to
  refine F.okX sc_Desk_say (fun vs H Q E h => ?_) (fun cdv A outer s H vs Q E hr h => ?_)
  · obtain ⟨_, _, _, _, _, rfl, _⟩ := h
    rfl
  obtain ⟨p, d, kvs, s, row, rfl, ⟨dx, hp, hd⟩, hs⟩ := h
  have hr_Desk_keep := hr.mono (show 5 ≤ 5 by decide)
  have hr_Desk_kept := hr.mono (show 1 ≤ 5 by decide)
  have hr_names_of_row := hr.mono (show 1 ≤ 5 by decide)
  have hr_answer_to := hr.mono (show 3 ≤ 5 by decide)
  have hu := hu_of hr
  refine ⟨_, pss_cons (ps_if (pt_not (pt_val (pe_callB call_isi rfl T.z_isinstance b_isi (pa_cons (pv 1) (pa_cons (pe_bltn (v := .ty "str") rfl T.z_str b_str rfl) pa_nil))) (fun _ => rfl))) pss_never pss_nil)
    (pss_cons (PS.nox (ps_set (i := 2) sc_Desk_say.nd rfl (Or.inl rfl) (pe_bm PySem.F.plainAttrs_str PySem.F.slot_str_split PySem.F.type_str_split mt_split (pv 1) (pa_cons pe_str pa_nil))))
    (pss_cons (ps_if (PW.pt (pw_and (pt_cmpR op_eq (pe_ix ix_list (pv 2) pe_int (fun _ _ => rfl)) pe_str (nomark _)) (pw_and1 (pt_cmpR op_gt (pe_callB call_len_seq rfl T.z_len PySem.boot_len (pa_cons (pv 2) pa_nil)) pe_int (nomark _))))) (pss_one (ps_ret (pe_meth (pv 0) T.cl_Desk T.me_Desk_keep G_Desk_keep hr_Desk_keep b_Desk_keep .nil passX (pa_cons (pe_ix ix_list (pv 2) pe_int (fun _ _ => rfl)) (pa_cons (pe_bm PySem.F.plainAttrs_str PySem.F.slot_str_join PySem.F.type_str_join mt_join pe_str (pa_cons (pe_slice sl_list (pv 2) (po_some pe_int) po_none) pa_nil)) pa_nil))))) pss_nil)
    (pss_cons (PS.nox (ps_set (i := 3) sc_Desk_say.nd rfl (Or.inl rfl) (pe_call G_names_of_row hr_names_of_row rfl m_names_of_row k_names_of_row b_names_of_row .nil pass0 (pa_cons (pv 2) pa_nil))))
    (pss_cons (PS.nox (ps_setC0 (k := 4) sc_Desk_say.nd rfl (Or.inl rfl) rfl rfl (CompScope.gen (cl := []) [] [] [(".0", .local), ("word", .local), ("read_whole", .globalImplicit)] rfl (by decide +kernel) (by decide +kernel) rfl rfl (by intro p hp; cases hp) rfl (by intro p hp h; simp only [List.mem_cons, List.not_mem_nil, or_false] at hp; rcases hp with rfl | rfl | rfl <;> first | rfl | (rcases h with h | h <;> cases h)) (by decide) (by decide +kernel) rfl (by intro p hp; cases hp)) (pi_list (pe_slice sl_list (pv 2) (po_some (pe_op op_add pe_int (pe_callB call_len_seq rfl T.z_len PySem.boot_len (pa_cons (pv 3) pa_nil)))) po_none)) (fun C s0 H0 fp pins => pe_never) (Or.inl rfl)))
    (pss_cons (ps_setCX (k := 5) heldOut sc_Desk_say.nd rfl (Or.inl rfl) rfl rfl (CompScope.gen (cl := [("self", _)]) ["self"] [0] [(".0", .local), ("name", .local), ("self", .cell)] rfl (by decide +kernel) (by decide +kernel) rfl rfl (by intro p hp; simp only [List.mem_cons, List.not_mem_nil, or_false] at hp; rcases hp with rfl <;> rfl) rfl (by intro p hp h; simp only [List.mem_cons, List.not_mem_nil, or_false] at hp; rcases hp with rfl | rfl | rfl <;> first | rfl | (rcases h with h | h <;> cases h)) (by decide) (by decide +kernel) rfl (by intro p hp; simp only [List.zip_cons_cons, List.zip_nil_left, List.mem_cons, List.not_mem_nil, or_false] at hp; rcases hp with rfl <;> exact ⟨rfl, rfl⟩)) (pi_list (pv 3)) (fun C s0 H0 fp pins => pe_meth (pv 1) T.cl_Desk T.me_Desk_kept G_Desk_kept hr_Desk_kept b_Desk_kept .nil (passT rfl rfl) (pa_cons (pv 0) pa_nil)) (Or.inl rfl))
    (pss_cons (PS.nox (ps_if (pt_cmpR op_eq (pe_ix ix_list (pv 2) pe_int (fun _ _ => rfl)) pe_str (nomark _)) (pss_cons (ps_expr (pe_dpop1 (pe_fld (pv 0) rfl) (pe_ix ix_list (pv 3) pe_int (fun _ _ => rfl)) ⟨rfl, rfl, rfl, rfl⟩))
    (pss_one (ps_ret pe_str))) pss_nil))
    (pss_one (PS.nox (ps_ret (pe_call G_answer_to hr_answer_to rfl m_answer_to k_answer_to b_answer_to .nil pass0 (pa_cons (pe_ix ix_list (pv 2) pe_int (fun _ _ => rfl)) (pa_cons (pv 5) (pa_cons (pv 4) pa_nil))))))))))))), ?_⟩
  have bg := big100
  refine ⟨_, rfl, _, _, _, _, rfl, .inr ⟨_, rfl⟩, .of (.str _), rfl, _, rfl, iteF ?_⟩
  rcases hs with ⟨ts, rfl, kc⟩ | ⟨⟨na, nl⟩, wd, h3, rfl, q0, qv⟩
  · obtain ⟨kl, gt, ⟨na, nl⟩, q1, q2⟩ := id kc
    have fl := fu_len gt
    have ss := split_sum (fu ts)
    have rl : (cuR s (fu ts)).length ≤ 500 := by
      unfold cuR
      rw [len_app, len_app, len_app]
      have : ("curve " : Str).length = 6 := rfl
      have : (" " : Str).length = 1 := rfl
      omega
    refine ⟨_, rfl, rfl, _, _, rfl, rfl, rfl, by omega, Nat.le_trans parts_le (by omega), by omega, fun w nw => ?_⟩
    rw [show Txt.split (cuR s (fu ts)) (" " : Str) = _ from split_cu na]
    have g1 := same_new nw (.lst ((("curve" : Str) :: s :: Txt.split (fu ts) bl).map V.str))
    have hw : (upd H w (.lst ((("curve" : Str) :: s :: Txt.split (fu ts) bl).map V.str))) w = some (.lst (V.str ("curve" : Str) :: V.str s :: (Txt.split (fu ts) bl).map V.str)) := upd_same
    generalize upd H w (.lst ((("curve" : Str) :: s :: Txt.split (fu ts) bl).map V.str)) = H1 at *
    have a0 : atI (V.str ("curve" : Str) :: V.str s :: (Txt.split (fu ts) bl).map V.str) 0 = some (.str "curve") := atI_nat (j := 0) rfl
    have a1 : atI (V.str ("curve" : Str) :: V.str s :: (Txt.split (fu ts) bl).map V.str) 1 = some (.str s) := atI_nat (j := 1) rfl
    refine ⟨_, rfl, w, _, _, _, rfl, rfl, SqL.of hw, a0, rfl, _, rfl, iteT ?_⟩
    refine ⟨_, rfl, w, _, rfl, .inl (SqL.of hw), _, _, rfl, rfl, _, rfl, iteDT ?_ ?_⟩
    · have := List.length_pos_iff.mpr (split_ne (fu ts))
      simp only [List.length_cons, List.length_map]
      omega
    refine ⟨_, rfl, p, dx, _, rfl, g1 _ _ hp, rfl, _, rfl, w, _, _, _, rfl, rfl, SqL.of hw, a1, rfl, _, rfl, _, rfl, w, _, rfl, SqL.of hw, fun w2 n2 => ?_⟩
    rw [cut_two]
    have g2 := g1.trans (same_new n2 (.lst ((Txt.split (fu ts) bl).map V.str)))
    refine ⟨_, w2, _, rfl, rfl, SqL.of upd_same, join_fit fl, ?_⟩
    rw [show Txt.join (" " : Str) (Txt.split (fu ts) bl) = fu ts from join_back _]
    refine ⟨p, d, kvs, s, ts, rfl, ⟨dx, g2 _ _ hp, g2 _ _ hd⟩, kl, gt, ⟨na, nl⟩, fun gs a H' kp ha hd' => ?_, fun gs H' g => q2 gs H' (g2.trans g)⟩
    exact q1 gs a H' (fun b o hb e => kp b o hb (g2 _ _ e)) ha hd'
  · have wl : wd.length = 4 := by rcases h3 with rfl | rfl | rfl <;> rfl
    have rl : (wd ++ " " ++ s).length ≤ 500 := by
      rw [len_app, len_app]
      have : (" " : Str).length = 1 := rfl
      omega
    refine ⟨_, rfl, rfl, _, _, rfl, rfl, rfl, by omega, Nat.le_trans parts_le (by omega), by omega, fun w nw => ?_⟩
    rw [show Txt.split (wd ++ " " ++ s) (" " : Str) = _ from split_wd h3 na]
    have g1 := same_new nw (.lst ([wd, s].map V.str))
    have hw : (upd H w (.lst ([wd, s].map V.str))) w = some (.lst [V.str wd, V.str s]) := upd_same
    generalize upd H w (.lst ([wd, s].map V.str)) = H1 at *
    have a0 : atI [V.str wd, V.str s] 0 = some (.str wd) := atI_nat (j := 0) rfl
    refine ⟨_, rfl, w, _, _, _, rfl, rfl, SqL.of hw, a0, rfl, _, rfl, iteDF ?_ ?_⟩
    · intro z
      have z := V.str.inj z
      rcases h3 with rfl | rfl | rfl <;> exact absurd z (by decide +kernel)
    refine ⟨_, rfl, w, wd, s, rfl, SqL.of hw, h3, fun nm H2 g2 hnm => ?_⟩
    have g2' := g1.trans g2
    have hw2 := g2 _ _ hw
    refine ⟨_, rfl, _, rfl, nm, _, rfl, .inl (SqL.of hnm), _, _, rfl, rfl, _, rfl, w, _, rfl, SqL.of hw2, fun w3 n3 => ?_⟩
    have g3 := g2'.trans (same_new n3 (.lst (cutV [V.str wd, V.str s] (some (1 + 1)) none)))
    have hw3 := same_new n3 (.lst (cutV [V.str wd, V.str s] (some (1 + 1)) none)) _ _ hw2
    have hnm3 := same_new n3 (.lst (cutV [V.str wd, V.str s] (some (1 + 1)) none)) _ _ hnm
    refine ⟨w3, rfl, ⟨_, SqL.of upd_same⟩, comp_listF (xs := []) (SqL.of upd_same) (by show 0 < sizeLine; omega) id (fun H' g => g.seq (SqL.of upd_same)) (fun i x H' Q' hx => by cases hx) fun nb H4 g4 _ hnb => ?_⟩
    have g4' := g3.trans g4
    have hw4 := g4 _ _ hw3
    have hnm4 := g4 _ _ hnm3
    refine ⟨_, rfl, nm, rfl, ⟨_, SqL.of hnm4⟩, ?_⟩
    cases ev : valV kvs (Sum.inr s) with
    | none =>
      refine comp_raise (SqL.of hnm4) (fun H' g => SqL.of (g _ _ hnm4)) fun H' Q' g => ?_
      have g5 := g4'.trans g
      exact ⟨_, rfl, p, dx, _, rfl, g5 _ _ hp, rfl, _, rfl, p, d, kvs, s, rfl, ⟨dx, g5 _ _ hp, g5 _ _ hd⟩, fun v e => (by rw [ev] at e; cases e), fun _ H'' g'' => q0 ev H'' (g5.trans g'')⟩
    | some v =>
      obtain ⟨a, fs, rfl, cv, k1, k2, k3⟩ := qv v ev
      refine comp_listF (SqL.of hnm4) (by show 1 < sizeLine; omega) (fun _ => V.ref a) (fun H' g => SqL.of (g _ _ hnm4)) ?_ ?_
      · intro i x H' Q' hx g k
        have : i = 0 := by
          cases i with
          | zero => rfl
          | succ i => cases hx
        subst this
        cases hx
        have g5 := g4'.trans g
        exact ⟨_, rfl, p, dx, _, rfl, g5 _ _ hp, rfl, _, rfl, p, d, kvs, s, rfl, ⟨dx, g5 _ _ hp, g5 _ _ hd⟩, fun v e => (by rw [ev] at e; cases e; exact k _ (Same.refl _)), fun e => (by rw [ev] at e; cases e)⟩
      · intro tl H5 g5 _ htl
        have g5' := g4'.trans g5
        have hw5 := g5 _ _ hw4
        have hnm5 := g5 _ _ hnm4
        refine ⟨_, rfl, w, _, _, _, rfl, rfl, SqL.of hw5, a0, rfl, _, rfl, ?_⟩
        rcases h3 with rfl | rfl | rfl
        · refine iteT ?_
          refine ⟨_, rfl, p, _, dx, _, _, rfl, g5' _ _ hp, T.cl_Desk, T.na_curves, rfl, d, rfl, ?_, _, rfl, nm, _, _, _, rfl, rfl, SqL.of hnm5, atI_nat (j := 0) rfl, kvs, Sum.inr s, _, g5' _ _ hd, rfl, ev, ?_⟩
          · first | exact ⟨_, .inl (g5' _ _ hd)⟩ | exact .inl ⟨_, .inl (g5' _ _ hd)⟩ | exact ⟨_, g5' _ _ hd⟩
          · exact k1 rfl _ (fun b o hb e => by rw [upd_ne hb]; exact g5' _ _ e) upd_same
        · refine iteF ?_
          exact ⟨_, rfl, w, _, _, _, rfl, rfl, SqL.of hw5, a0, _, rfl, _, rfl, "show", tl, nb, a, fs, rfl, SqL.of htl, cv.same g5', .inl ⟨rfl, fun H' g => k2 rfl H' (g5'.trans g)⟩⟩
        · refine iteF ?_
          exact ⟨_, rfl, w, _, _, _, rfl, rfl, SqL.of hw5, a0, _, rfl, _, rfl, "size", tl, nb, a, fs, rfl, SqL.of htl, cv.same g5', .inr ⟨rfl, fun H' g => k3 rfl H' (g5'.trans g)⟩⟩
theorem ok_names {f : Addr} {fd : FuncData} (F : Fun K "_law_names" "_law_names" s_names f fd) (T : Txt K mg t)  : FnOk P w K mg base CX0 1 f fd ["_law_cell"] (spNms) := by
  refine F.ok sc_names (fun vs H Q E h => ?_) (fun cdv A outer s H vs Q E hr h => ?_)
  · obtain ⟨_, rfl, _⟩ := h
    rfl
  obtain ⟨c, rfl, q⟩ := h
  refine ⟨_, pss_cons (ps_set (i := 1) sc_names.nd rfl (Or.inr rfl) pe_str)
    (pss_cons (ps_set (i := 2) sc_names.nd rfl (Or.inr rfl) (pe_op op_add_str (pe_ix ix_str (pv 1) (pe_op op_mod (pv 0) pe_int) (fun _ _ => rfl)) (pe_ix ix_str (pv 1) (pe_op op_mod (pe_op op_fdiv (pv 0) pe_int) pe_int) (fun _ _ => rfl))))
    (pss_cons (ps_if (pt_cmpR op_eq (pe_op op_mod (pe_op op_fdiv (pv 0) pe_int) pe_int) pe_int (nomark _)) (pss_one (ps_ret (pe_compC rfl (CompScope.gen (cl := [("_law_stem", _)]) ["_law_stem"] [2] [(".0", .local), ("_law_k", .local), ("_law_stem", .cell)] rfl (by decide +kernel) (by decide +kernel) rfl rfl (by intro p hp; simp only [List.mem_cons, List.not_mem_nil, or_false] at hp; rcases hp with rfl <;> rfl) rfl (by intro p hp h; simp only [List.mem_cons, List.not_mem_nil, or_false] at hp; rcases hp with rfl | rfl | rfl <;> first | rfl | (rcases h with h | h <;> cases h)) (by decide) (by decide +kernel) rfl (by intro p hp; simp only [List.zip_cons_cons, List.zip_nil_left, List.mem_cons, List.not_mem_nil, or_false] at hp; rcases hp with rfl <;> exact ⟨rfl, rfl⟩)) (pi_range1 rfl T.z_range (pa_cons pe_int pa_nil)) (fun C s0 H0 fp pins => pe_slice sl_str (pe_op op_mul_str (pv 1) pe_int) po_none (po_some (pe_op op_add (pe_op op_add pe_int (pv 0)) (pe_op op_fdiv (pv 0) pe_int))))))) pss_nil)
    (pss_cons (ps_set (i := 3) sc_names.nd rfl (Or.inr rfl) (pe_op op_mod (pe_op op_fdiv (pv 0) pe_int) pe_int))
    (pss_cons (ps_set (i := 2) sc_names.nd rfl (Or.inr rfl) (pe_slice sl_str (pe_op op_mul_str (pv 2) pe_int) po_none (po_some (pe_op op_add pe_int (pe_op op_mod (pe_op op_fdiv (pv 0) pe_int) pe_int)))))
    (pss_one (ps_ret (pe_compC rfl (CompScope.gen (cl := [("_law_stem", _), ("_law_letters_here", _), ("_law_cell", _), ("_law_at", _)]) ["_law_at", "_law_cell", "_law_letters_here", "_law_stem"] [3, 0, 1, 2] [(".0", .local), ("_law_k", .local), ("_law_at", .cell), ("_law_cell", .cell), ("_law_letters_here", .cell), ("_law_stem", .cell)] rfl (by decide +kernel) (by decide +kernel) rfl rfl (by intro p hp; simp only [List.mem_cons, List.not_mem_nil, or_false] at hp; rcases hp with rfl | rfl | rfl | rfl <;> rfl) rfl (by intro p hp h; simp only [List.mem_cons, List.not_mem_nil, or_false] at hp; rcases hp with rfl | rfl | rfl | rfl | rfl | rfl <;> first | rfl | (rcases h with h | h <;> cases h)) (by decide) (by decide +kernel) rfl (by intro p hp; simp only [List.zip_cons_cons, List.zip_nil_left, List.mem_cons, List.not_mem_nil, or_false] at hp; rcases hp with rfl | rfl | rfl | rfl <;> exact ⟨rfl, rfl⟩)) (pi_range1 rfl T.z_range (pa_cons pe_int pa_nil)) (fun C s0 H0 fp pins => pe_op op_add_str (pe_op op_add_str (pe_slice sl_str (pv 4) po_none (po_some (pv 1))) (pe_ix ix_str (pv 3) (pe_op op_mod (pe_op op_add (pe_op op_fdiv (pv 2) pe_int) (pv 0)) pe_int) (fun _ _ => rfl))) (pe_slice sl_str (pv 4) (po_some (pv 1)) po_none))))))))), ?_⟩
  have bg := big100
  have al : AL.length = 26 := rfl
  obtain ⟨c1, e1, k1⟩ := at_AL (m := c % 26) (by omega) (by omega)
  obtain ⟨c2, e2, k2⟩ := at_AL (m := c / 26 % 26) (by omega) (by omega)
  refine ⟨_, rfl, _, rfl, _, _, rfl, rfl, (by show (0 : Int) < 26; decide), AL, _, c1, rfl, rfl, by omega, e1, _, rfl, _, rfl, _, _, rfl, rfl, ⟨by decide, by decide⟩, _, _, rfl, rfl, (by show (0 : Int) < 26; decide), AL, _, c2, rfl, rfl, by omega, e2, _, _, rfl, rfl, (by show 1 + 1 ≤ sizeLine; omega), ?_⟩
  have nm4 := nm_mul k1 k2
  have ml := mul_len c1 c2
  refine ⟨_, rfl, _, _, rfl, rfl, ⟨by decide, by decide⟩, _, _, rfl, rfl, (by show (0 : Int) < 2; decide), rfl, _, rfl, ite2 (fun z => ?_) (fun z => ?_)⟩
  · refine ⟨_, rfl, by decide, by decide, comp_rangeF (lo := 0) 7 (by omega) (fun i => .str (Txt.slice (Txt.mul ((⟨#[c1]⟩ : Str) ++ ⟨#[c2]⟩) 4) none (some (1 + (0 + (i : Int)) + (0 + (i : Int)) / 6)))) ?_ ?_⟩
    · intro i H' Q' hi g k
      exact ⟨_, rfl, _, _, rfl, rfl, mulOk4 c1 c2, _, rfl, _, _, rfl, rfl, _, rfl, _, _, rfl, rfl, ⟨by decide, by decide⟩, _, _, rfl, rfl, _, rfl, _, rfl, by rw [ml]; omega, k _ (Same.refl _)⟩
    · intro p H' g _ hp
      refine q p H' ((List.range 7).map fun i : Nat => Txt.slice (Txt.mul ((⟨#[c1]⟩ : Str) ++ ⟨#[c2]⟩) 4) none (some (1 + (0 + (i : Int)) + (0 + (i : Int)) / 6))) g ?_ (by rw [List.length_map, List.length_range]) ?_
      · rw [hp, List.map_map]
        rfl
      · intro x hx
        obtain ⟨i, _, rfl⟩ := List.mem_map.mp hx
        exact ⟨nm_slice nm4 _ _, Nat.le_trans (Txt.slice_le _ _ _) (by rw [ml]; decide)⟩
  · refine ⟨_, rfl, _, _, rfl, rfl, ⟨by decide, by decide⟩, _, _, rfl, rfl, (by show (0 : Int) < 3; decide), ?_⟩
    refine ⟨_, rfl, _, _, rfl, rfl, mulOk4 c1 c2, _, rfl, _, _, rfl, rfl, ⟨by decide, by decide⟩, _, _, rfl, rfl, (by show (0 : Int) < 5; decide), _, _, rfl, rfl, _, rfl, _, rfl, by rw [ml]; omega, ?_⟩
    have nm5 := nm_slice nm4 none (some (3 + c / 4056 % 5))
    have l5 : (Txt.slice (Txt.mul ((⟨#[c1]⟩ : Str) ++ ⟨#[c2]⟩) 4) none (some (3 + c / 4056 % 5))).length ≤ 8 := Nat.le_trans (Txt.slice_le _ _ _) (by rw [ml]; decide)
    generalize Txt.slice (Txt.mul ((⟨#[c1]⟩ : Str) ++ ⟨#[c2]⟩) 4) none (some (3 + c / 4056 % 5)) = st at *
    have ls1 := Nat.le_trans (Txt.slice_le st none (some (c / 1352 % 3))) l5
    have ls2 := Nat.le_trans (Txt.slice_le st (some (c / 1352 % 3)) none) l5
    have hck : ∀ i : Nat, ∃ k : Nat, atI (L AL) ((c / 7 + (0 + (i : Int))) % 26) = some k ∧ k < 128 ∧ k ≠ 32 := fun i => at_AL (by omega) (by omega)
    obtain ⟨ck, hck⟩ := Classical.axiomOfChoice hck
    have one : ∀ k : Nat, (⟨#[k]⟩ : Str).length = 1 := fun _ => rfl
    refine ⟨_, rfl, by decide, by decide, comp_rangeF (lo := 0) 7 (by omega) (fun i => .str (Txt.slice st none (some (c / 1352 % 3)) ++ ⟨#[ck i]⟩ ++ Txt.slice st (some (c / 1352 % 3)) none)) ?_ ?_⟩
    · intro i H' Q' hi g k
      exact ⟨_, rfl, _, rfl, _, rfl, _, rfl, by omega, _, rfl, _, rfl, _, _, rfl, rfl, ⟨by decide, by decide⟩, _, rfl, _, _, rfl, rfl, _, _, rfl, rfl, (by show (0 : Int) < 26; decide), AL, _, ck i, rfl, rfl, by omega, (hck i).1, _, _, rfl, rfl, by rw [one]; omega,
        _, rfl, _, rfl, _, rfl, _, rfl, by omega, _, _, rfl, rfl, by rw [len_app, one]; omega, k _ (Same.refl _)⟩
    · intro p H' g _ hp
      refine q p H' ((List.range 7).map fun i : Nat => Txt.slice st none (some (c / 1352 % 3)) ++ ⟨#[ck i]⟩ ++ Txt.slice st (some (c / 1352 % 3)) none) g ?_ (by rw [List.length_map, List.length_range]) ?_
      · rw [hp, List.map_map]
        rfl
      · intro x hx
        obtain ⟨i, _, rfl⟩ := List.mem_map.mp hx
        refine ⟨nm_app (nm_app (nm_slice nm5 _ _) (nm_one (hck i).2)) (nm_slice nm5 _ _), ?_⟩
        rw [len_app, len_app, one]
        omega
theorem ok_name {f : Addr} {fd : FuncData} (F : Fun K "_law_name" "_law_name" s_name f fd) (T : Txt K mg t)  : FnOk P w K mg base CX0 1 f fd ["_law_number", "_law_names_here"] (spNme) := by
  refine F.ok sc_name (fun vs H Q E h => ?_) (fun cdv A outer s H vs Q E hr h => ?_)
  · obtain ⟨_, _, _, rfl, _⟩ := h
    rfl
  obtain ⟨n, p, ns, rfl, hp, h7, hn, q⟩ := h
  refine ⟨_, pss_cons (ps_if (pt_cmpR op_eq (pe_op op_mod (pv 0) pe_int) pe_int (nomark _)) (pss_one (ps_ret (pe_ix ix_list (pe_lst (pa_cons pe_str (pa_cons pe_str (pa_cons pe_str (pa_cons pe_str (pa_cons pe_str (pa_cons pe_str pa_nil))))))) (pe_op op_mod (pe_op op_fdiv (pv 0) pe_int) pe_int) (fun _ _ => rfl)))) pss_nil)
    (pss_one (ps_ret (pe_ix ix_list (pv 1) (pe_op op_mod (pe_op op_fdiv (pv 0) pe_int) pe_int) (fun _ _ => rfl)))), ?_⟩
  refine ⟨_, rfl, _, _, rfl, rfl, (by show (0 : Int) < 8; decide), rfl, _, rfl, ite2 (fun z => ?_) (fun z => ?_)⟩
  · obtain ⟨s, hs, es⟩ := at_mod (xs := badN) (m := n / 8 % 6) (by omega) (by show _ < (6 : Int); omega)
    exact ⟨(by show 6 ≤ sizeLine; decide), fun p1 n1 => ⟨_, rfl, _, _, rfl, rfl, ⟨by decide, by decide⟩, _, _, rfl, rfl, (by show (0 : Int) < 6; decide), p1, _, _, _, rfl, rfl, SqL.of upd_same, es, q s _ (same_new n1 _) (badN_nm s hs)⟩⟩
  · obtain ⟨s, hs, es⟩ := at_mod (xs := ns) (m := n / 8 % 7) (by omega) (by rw [h7]; show _ < (7 : Int); omega)
    exact ⟨_, rfl, _, rfl, _, _, rfl, rfl, ⟨by decide, by decide⟩, _, _, rfl, rfl, (by show (0 : Int) < 7; decide), p, _, _, _, rfl, rfl, SqL.of hp, es, q s _ (Same.refl _) (hn s hs)⟩
theorem ok_form {f : Addr} {fd : FuncData} (F : Fun K "_law_form" "_law_form" s_form f fd) (T : Txt K mg t)  : FnOk P w K mg base CX0 1 f fd ["_law_number"] (spForm) := by
  refine F.ok sc_form (fun vs H Q E h => ?_) (fun cdv A outer s H vs Q E hr h => ?_)
  · obtain ⟨_, rfl, _⟩ := h
    rfl
  obtain ⟨n, rfl, n0, n1, q⟩ := h
  refine ⟨_, pss_cons (ps_set (i := 1) sc_form.nd rfl (Or.inl rfl) (pe_lst pa_nil))
    (pss_cons (ps_set (i := 2) sc_form.nd rfl (Or.inl rfl) (pe_ix ix_list (pe_lst (pa_cons pe_int (pa_cons pe_int pa_nil))) (pe_op op_fdiv (pe_op op_mod (pv 0) pe_int) pe_int) (fun _ _ => rfl)))
    (pss_cons (ps_for PassesOwn.never rfl (pi_range1 rfl T.z_range (pa_cons pe_int pa_nil)) (pg_name (i := 3) sc_form.nd rfl (Or.inl rfl)) (pss_cons (ps_set (i := 0) sc_form.nd rfl (Or.inl rfl) (pe_op op_mod (pe_op op_mulG (pv 0) pe_int) pe_int))
    (pss_one (ps_expr (pe_bm PySem.F.plainAttrs_list PySem.F.slot_list_append PySem.F.type_list_append mt_append (pv 1) (pa_cons (pe_op op_sub (pe_op op_mod (pv 0) (pe_op op_add (pe_op op_mulG pe_int (pv 2)) pe_int)) (pv 2)) pa_nil))))))
    (pss_cut (ps_if (pt_cmpR op_eq (pe_op op_mod (pv 0) pe_int) pe_int (nomark _)) (pss_one (ps_set (i := 1) sc_form.nd rfl (Or.inl rfl) (pe_lst (pa_cons pe_int (pa_cons pe_int (pa_cons pe_int (pa_cons pe_int (pa_cons pe_int (pa_cons pe_int pa_nil))))))))) pss_nil)
    (pss_one (ps_ret (pe_callTy call_tuple_of rfl T.z_tuple b_tuple (pa_cons (pv 1) pa_nil))))))), ?_⟩
  have bg := big100
  obtain ⟨mo, hmo, emo⟩ : ∃ mo : Int, (mo = 4 ∨ mo = 999999) ∧ atI [V.int 4, .int 999999] (n % 4 / 3) = some (.int mo) := by
    have : n % 4 / 3 = 0 ∨ n % 4 / 3 = 1 := by omega
    rcases this with e | e
    · exact ⟨4, .inl rfl, by rw [e]; exact atI_nat (j := 0) rfl⟩
    · exact ⟨999999, .inr rfl, by rw [e]; exact atI_nat (j := 1) rfl⟩
  refine ⟨(by show 0 ≤ sizeLine; decide), fun l nl => ?_⟩
  refine ⟨(by show 2 ≤ sizeLine; decide), fun p1 n1' => ⟨_, rfl, _, _, rfl, rfl, (by show (0 : Int) < 4; decide), _, _, rfl, rfl, ⟨by decide, by decide⟩, p1, _, _, _, rfl, rfl, SqL.of upd_same, emo, ?_⟩⟩
  have lp : l ≠ p1 := fun e => by rw [← e, upd_same] at n1'; cases n1'
  have np : H p1 = none := by rw [upd_ne (Ne.symm lp)] at n1'; exact n1'
  refine ⟨_, rfl, by decide, by decide, for_range (lo := 0) (n := 6) (fun i σ H' => ∃ (m : Int) (x3 : Option V) (fs : List Int), σ = [some (.int m), some (.ref l), some (.int mo), x3] ∧ Same H H' ∧ H' l = some (.lst (fs.map V.int)) ∧ fs.length = i ∧ Bd (10 ^ 6) fs ∧ 0 ≤ m ∧ m < 2 ^ 30) ?_ ?_ ?_⟩
  · exact ⟨n, _, [], rfl, same_upd (same_new nl _) np, by rw [upd_ne lp]; exact upd_same, rfl, fun x m => (by cases m), n0, n1⟩
  · rintro i σ H' hi ⟨m, x3, fs, rfl, g, hl, fl, bd, m0, m1⟩
    refine ⟨_, rfl, _, _, rfl, rfl, mulS (by decide) (by decide), _, _, rfl, rfl, (by show (0 : Int) < 998244353; decide), ?_⟩
    refine ⟨_, rfl, .inl ⟨rfl, _, SqL.of hl⟩, _, rfl, _, rfl, _, _, rfl, rfl, mulS (by rcases hmo with rfl | rfl <;> decide) (by rcases hmo with rfl | rfl <;> decide), _, _, rfl, rfl, _, _, rfl, rfl, ?_, _, rfl, _, _, rfl, rfl, l, _, _, rfl, rfl, hl, by rw [List.length_map]; omega, ?_⟩
    · rcases hmo with rfl | rfl <;> decide
    refine ⟨_, _, fs ++ [gF (m * 67867967 % 998244353) mo], rfl, same_upd g nl, ?_, by rw [List.length_append, fl]; rfl, bd.snoc (gF_bd hmo), by omega, by omega⟩
    rw [upd_same, List.map_append]
    rfl
  · rintro σ H' ⟨m, x3, fs, rfl, g, hl, fl, bd, m0, m1⟩
    refine ⟨fun σ2 H2 => ∃ (l2 : Addr) (fs2 : List Int), σ2 = [some (.int m), some (.ref l2), some (.int mo), x3] ∧ Same H H2 ∧ H2 l2 = some (.lst (fs2.map V.int)) ∧ fs2.length = 6 ∧ Bd (10 ^ 6) fs2, ?_, ?_⟩
    · refine ⟨_, rfl, _, _, rfl, rfl, (by show (0 : Int) < 16; decide), rfl, _, rfl, ite2 (fun z => ?_) (fun z => ?_)⟩
      · exact ⟨(by show 6 ≤ sizeLine; decide), fun p2 n2 => ⟨p2, [0, 0, 0, 0, 0, 0], rfl, g.trans (same_new n2 _), upd_same, rfl, fun x hx => by
          simp only [List.mem_cons, List.not_mem_nil, or_false, or_self] at hx
          rw [hx]
          decide⟩⟩
      · exact ⟨l, fs, rfl, g, hl, fl, bd⟩
    · rintro σ2 H2 ⟨l2, fs2, rfl, g2, hl2, f6, bd2⟩
      exact ⟨_, rfl, l2, _, rfl, .inl ⟨SqL.of hl2, fun p3 n3 => q p3 _ fs2 (g2.trans (same_new n3 _)) ⟨upd_same, f6, bd2⟩⟩⟩
theorem ok_said {f : Addr} {fd : FuncData} (F : Fun K "_law_said" "_law_said" s_said f fd) (T : Txt K mg t) (H_Desk_say : HasM P w K mg base (XF P w) 6 t.iDesk_say ["self", "row"] (spSay t.cDesk t.c14)) (H_alone : HasQ P w K mg base 1 "_law_alone" ["_law_e"] (spAlone t.c14)) : FnOk P w K mg base CX0 7 f fd ["_law_desk", "_law_row"] (spSaid t.cDesk) := by
  obtain ⟨d_Desk_say, G_Desk_say, b_Desk_say⟩ := H_Desk_say
  obtain ⟨f_alone, d_alone, G_alone, b_alone, k_alone, m_alone⟩ := H_alone
  refine F.ok sc_said (fun vs H Q E h => ?_) (fun cdv A outer s H vs Q E hr h => ?_)
  · obtain ⟨_, _, _, _, _, rfl, _⟩ := h
    rfl
  obtain ⟨p, d, kvs, s, row, rfl, hdk, hs⟩ := h
  have hr_Desk_say := hr.mono (show 6 ≤ 6 by decide)
  have hq1 := (hr.q.mono (show 1 ≤ 6 by decide))
  refine ⟨_, pss_cons (ps_tryM (iy := 3) (i := 2) (pv 0) T.cl_Desk T.me_Desk_say G_Desk_say hr_Desk_say b_Desk_say (pa_cons (pv 1) pa_nil) T.m_NoName rfl T.x_NoName sc_said.nd rfl rfl rfl rfl
      (fun ea => pss_one (ps_set (i := 3) sc_said.nd rfl (Or.inl rfl) (pe_tup (pa_cons pe_str (pa_cons (pe_callQ G_alone (hq1.mark _) rfl m_alone k_alone b_alone .nil (pa_cons (pv 2) pa_nil)) pa_nil))))))
    (pss_one (ps_ret (pv 3))), ?_⟩
  obtain ⟨dx, hp, hd⟩ := id hdk
  refine ⟨_, rfl, p, dx, _, rfl, hp, rfl, _, rfl, p, d, kvs, s, row, rfl, hdk, hs.mono (fun v H' h => ⟨_, rfl, h⟩) fun R H' g => ⟨rfl, fun e he => ?_⟩⟩
  refine ⟨_, rfl, e, rfl, upd_same, fun H2 g2 => ⟨(by show 2 ≤ sizeLine; decide), fun t2 n2 => ?_⟩⟩
  exact ⟨_, rfl, R t2 _ (g.trans ((same_new he _).trans (g2.trans (same_new n2 _)))) upd_same⟩
theorem ok_row_done {f : Addr} {fd : FuncData} (F : Fun K "_law_row_done" "_law_row_done" s_row_done f fd) (T : Txt K mg t) (H_form : Has P w K mg base CX0 1 "_law_form" ["_law_number"] (spForm)) (H_said : Has P w K mg base CX0 7 "_law_said" ["_law_desk", "_law_row"] (spSaid t.cDesk)) (H_shown : Has P w K mg base CX0 2 "_law_shown" ["_law_form_here", "_law_order"] (spShown K)) (H_size : Has P w K mg base CX0 1 "_law_size" ["_law_form_here"] (spLsz)) : FnOk P w K mg base CX0 8 f fd ["_law_desk", "_law_known", "_law_name_here", "_law_number"] (spRow t.cDesk) := by
  obtain ⟨f_form, d_form, G_form, b_form, k_form, m_form⟩ := H_form
  obtain ⟨f_said, d_said, G_said, b_said, k_said, m_said⟩ := H_said
  obtain ⟨f_shown, d_shown, G_shown, b_shown, k_shown, m_shown⟩ := H_shown
  obtain ⟨f_size, d_size, G_size, b_size, k_size, m_size⟩ := H_size
  refine F.ok sc_row_done (fun vs H Q E h => ?_) (fun cdv A outer s H vs Q E hr h => ?_)
  · obtain ⟨_, _, _, _, _, _, _, rfl, _⟩ := h
    rfl
  obtain ⟨p, d, k, kvs, kvs', s, n, rfl, hdk, hk, dk, rl, l1, l2, nm, n0, n1, q⟩ := h
  have hr_form := hr.mono (show 1 ≤ 7 by decide)
  have hr_said := hr.mono (show 7 ≤ 7 by decide)
  have hr_shown := hr.mono (show 2 ≤ 7 by decide)
  have hr_size := hr.mono (show 1 ≤ 7 by decide)
  have hu := hu_of hr
  have hu64 := hu64_of hr
  refine ⟨_, pss_cut (ps_set (i := 4) sc_row_done.nd rfl (Or.inl rfl) (pe_and (pe_cmpR op_ne (pv 2) pe_str (nomark _)) (pe_and (pe_cmpR op_lt (pe_callB call_len_str rfl T.z_len PySem.boot_len (pa_cons (pv 2) pa_nil)) pe_int (nomark _)) (pe_one (pe_callB (call_all rfl) rfl T.z_all b_all (pa_cons (pe_compC rfl (CompScope.gen (cl := []) [] [] [(".0", .local), ("_law_sign", .local)] rfl (by decide +kernel) (by decide +kernel) rfl rfl (by intro p hp; cases hp) rfl (by intro p hp h; simp only [List.mem_cons, List.not_mem_nil, or_false] at hp; rcases hp with rfl | rfl <;> first | rfl | (rcases h with h | h <;> cases h)) (by decide) (by decide +kernel) rfl (by intro p hp; cases hp)) (pi_str (pv 2)) (fun C s0 H0 fp pins => pe_cmpR op_in_str (pv 0) pe_str (by with_unfolding_all rfl))) pa_nil))))))
    (pss_cons (ps_if (pt_cmpR op_lt (pe_op op_mod (pv 3) pe_int) pe_int (nomark _)) (pss_cons (ps_set (i := 7) sc_row_done.nd rfl (Or.inl rfl) (pe_call G_form hr_form rfl m_form k_form b_form .nil pass0 (pa_cons (pv 3) pa_nil)))
    (pss_cons (ps_set (i := 6) sc_row_done.nd rfl (Or.inl rfl) (pe_call G_said hr_said rfl m_said k_said b_said .nil pass0 (pa_cons (pv 0) (pa_cons (pe_op op_add_str (pe_op op_add_str (pe_op op_add_str pe_str (pv 2)) pe_str) (pe_call G_shown hr_shown rfl m_shown k_shown b_shown .nil pass0 (pa_cons (pv 7) (pa_cons (pe_lrng rfl rfl T.z_list rfl T.z_range (pa_cons pe_int pa_nil)) pa_nil)))) pa_nil))))
    (pss_cons (ps_if (pt_val (pv 4) (fun _ => rfl)) (pss_cons (ps_dput hu (pv 1) (pv 2) (pv 7) rfl)
    (pss_one (ps_ret (pe_cmpR op_eq (pv 6) pe_str (nomark _))))) pss_nil)
    (pss_one (ps_ret (pe_cmpR (op_eqD hu64) (pv 6) (pe_tup (pa_cons pe_str (pa_cons pe_bl pa_nil))) (nomark _))))))) pss_nil)
    (pss_cons (ps_set (i := 5) sc_row_done.nd rfl (Or.inl rfl) (pe_ix ix_list (pe_lst (pa_cons pe_str (pa_cons pe_str (pa_cons pe_str pa_nil)))) (pe_op op_sub (pe_op op_mod (pv 3) pe_int) pe_int) (fun _ _ => rfl)))
    (pss_cons (ps_set (i := 6) sc_row_done.nd rfl (Or.inl rfl) (pe_call G_said hr_said rfl m_said k_said b_said .nil pass0 (pa_cons (pv 0) (pa_cons (pe_op op_add_str (pe_op op_add_str (pv 5) pe_str) (pv 2)) pa_nil))))
    (pss_cons (ps_if (pt_cmp (pc_dnotin hu (pv 2) (pv 1))) (pss_one (ps_ret (pe_cmpR (op_eqD hu64) (pv 6) (pe_tup (pa_cons pe_str (pa_cons pe_bl pa_nil))) (nomark _)))) pss_nil)
    (pss_cons (ps_set (i := 7) sc_row_done.nd rfl (Or.inl rfl) (pe_dget hu (pv 1) (pv 2) (fun _ _ => rfl)))
    (pss_cons (ps_if (pt_cmpR op_eq (pv 5) pe_str (nomark _)) (pss_cons (ps_expr (pe_dpop1 (pv 1) (pv 2) ⟨rfl, rfl, rfl, rfl⟩))
    (pss_one (ps_ret (pe_cmpR op_eq (pv 6) pe_str (nomark _))))) pss_nil)
    (pss_cons (ps_if (pt_cmpR op_eq (pv 5) pe_str (nomark _)) (pss_one (ps_ret (pe_cmpR op_eq (pv 6) (pe_call G_shown hr_shown rfl m_shown k_shown b_shown .nil pass0 (pa_cons (pv 7) (pa_cons (pe_lrng rfl rfl T.z_list rfl T.z_range (pa_cons pe_int pa_nil)) pa_nil))) (nomark _)))) pss_nil)
    (pss_one (ps_ret (pe_cmpR op_eq (pv 6) (pe_callTy call_str_int rfl T.z_str b_str (pa_cons (pe_call G_size hr_size rfl m_size k_size b_size .nil pass0 (pa_cons (pv 7) pa_nil)) pa_nil)) (nomark _))))))))))), ?_⟩
  have bg := big100
  obtain ⟨na, nl⟩ := id nm
  obtain ⟨dx, hp, hd⟩ := id hdk
  refine ⟨fun σ' H1 => σ' = [some (.ref p), some (.ref k), some (.str s), some (.int n), some (.bl (good s)), none, none, none] ∧ Same H H1, ?_, ?_⟩
  · refine ⟨_, rfl, rfl, _, rfl, ite2 (fun c => ?_) (fun c => ?_)⟩
    · have c1 : ¬ V.str s = V.str "" := fun z => by rw [decide_eq_true z] at c; cases c
      refine ⟨_, rfl, _, rfl, by omega, _, _, rfl, rfl, _, rfl, ite2 (fun c2 => ?_) (fun c2 => ?_)⟩
      · have c2' := decT c2
        refine ⟨_, rfl, s, rfl, nm_all na, ?_⟩
        refine comp_strF (by unfold sgn; rw [List.length_map]; show (L s).length < _; rw [len_L]; omega) gV ?_ ?_
        · intro i v H' Q' hv g k
          obtain ⟨c, hc, rfl⟩ := sgn_mem hv
          refine ⟨_, rfl, _, _, rfl, rfl, ?_⟩
          show Q' (.bl (gdC c)) H'
          rw [gV_one]
          exact k _ (Same.refl _)
        · intro l H' g h0 hl
          rw [sgn_good] at hl
          refine ⟨l, (L s).map gdC, rfl, hl, ?_, g⟩
          rw [all_gd, good_of c1 c2']
          rfl
      · refine ⟨?_, Same.refl _⟩
        rw [good_l (decF c2)]
        rfl
    · have c1 : V.str s = V.str "" := by
        by_cases z : V.str s = V.str ""
        · exact z
        · exact absurd (by rw [decide_eq_false z]; rfl) c
      refine ⟨?_, Same.refl _⟩
      rw [good_e c1]
      rfl
  rintro _ H1 ⟨rfl, g1⟩
  have no : ∀ (H' : Hp), Same H H' → Q (.bl true) H' := fun H' g => q H' kvs kvs' (fun b o _ _ e => g _ _ e) (g _ _ hd) (g _ _ hk) (rl.kept fun a fs c => c.same g) (Nat.le_succ _) (Nat.le_succ _)
  have eqn : ∀ (t2 : Addr) (H' : Hp), Same H H' → H' t2 = some (.tup [.str "name", .bl true]) → ∀ σ : St, σ[6]? = some (some (.ref t2)) →
      tOp rEqD (tVar 6) (tTup (tCons (tC (.str "name")) (tCons (tC (.bl true)) tNil))) σ H' Q := fun t2 H' g h2 σ hσ => by
    refine ⟨_, hσ, (by show 2 ≤ sizeLine; decide), fun p2 n2 => ?_⟩
    refine ⟨_, _, .tup (same_new n2 _ _ _ h2) (.cons .str (.cons .bl .nil)), .tup upd_same (.cons .str (.cons .bl .nil)), sh_nm, sh_nm, ?_⟩
    have z := no _ (g.trans (same_new n2 (.tup [V.str ("name" : Str), .bl true])))
    rw [← ev_nm] at z
    exact z
  refine ⟨_, rfl, _, _, rfl, rfl, (by show (0 : Int) < 5; decide), _, _, rfl, rfl, _, rfl, ite2 (fun c => ?_) (fun c => ?_)⟩
  · refine ⟨_, rfl, n, rfl, n0, n1, fun a H2 fs g2 cv => ?_⟩
    have g2' := g1.trans g2
    have e0 : ("curve " : Str).length = 6 := rfl
    have e1 : (" " : Str).length = 1 := rfl
    refine ⟨_, rfl, _, rfl, _, _, rfl, rfl, by omega, _, _, rfl, rfl, by rw [len_app]; omega, _, rfl, _, rfl, by decide, fun o no' => ?_⟩
    have g3 := g2'.trans (same_new no' (.lst ((List.range 6).map fun k : Nat => V.int k)))
    have cv3 := cv.same (same_new no' (.lst ((List.range 6).map fun k : Nat => V.int k)))
    refine ⟨a, o, fs, List.range 6, rfl, .inr cv3.1, SqL.of upd_same, cv.2.1, cv.2.2.up, by rw [List.length_range]; decide, fun k m => List.mem_range.mp m, fun H4 g4 => ?_⟩
    have g4' := g3.trans g4
    have cv4 := cv3.same g4
    have gz := gd_zt cv.2.1 cv.2.2
    have fl := fu_len gz
    rw [← zt_ter cv.2.1]
    refine ⟨_, _, rfl, rfl, by rw [len_app, len_app]; omega, p, d, kvs, s, _, rfl, hdk.same g4', .inl ⟨zt fs, rfl, l1, gz, nm, fun gs a' H5 kp ha hd5 => ?_, fun gs t2 H5 g5 ht => ?_⟩⟩
    · refine ⟨_, rfl, _, rfl, iteTE gs ?_⟩
      rw [vs_zt cv.2.1 cv.2.2] at ha
      have hk5 := kp k _ (Ne.symm dk) (g4' _ _ hk)
      refine ⟨_, rfl, _, rfl, _, rfl, k, _, rfl, DPut.k (k := Sum.inr s) hk5 (by omega), _, rfl, rfl, ?_⟩
      have cva : Cv H5 a fs := cv4.kp (g4' _ _ hd) kp
      have ca' : Cv H5 a' fs := ⟨ha, cv.2⟩
      have up : ∀ x ys, Cv H5 x ys → Cv (upd H5 k (.dK (putK kvs' (.inr s) (.ref a)))) x ys := fun x ys c => ⟨by rw [upd_ne (cv_ne c hk5)]; exact c.1, c.2⟩
      refine q _ (putK kvs (.inr s) (.ref a')) (putK kvs' (.inr s) (.ref a)) (fun b o hb hb' e => ?_) (by rw [upd_ne dk]; exact hd5) upd_same ((rl.kept fun x ys c => up _ _ ((c.same g4').kp (g4' _ _ hd) kp)).put (up _ _ ca') (up _ _ cva)) (length_putK _ _ _) (length_putK _ _ _)
      rw [upd_ne hb']
      exact kp _ _ hb (g4' _ _ e)
    · refine ⟨_, rfl, _, rfl, iteFE gs ?_⟩
      exact eqn t2 H5 (g4'.trans g5) ht _ rfl
  · obtain ⟨wd, h3, ew⟩ := at_w3 (decF c)
    have wl : wd.length = 4 := by rcases h3 with rfl | rfl | rfl <;> rfl
    have e1 : (" " : Str).length = 1 := rfl
    refine ⟨(by show 3 ≤ sizeLine; decide), fun p1 n1' => ⟨_, rfl, _, _, rfl, rfl, (by show (0 : Int) < 5; decide), _, _, rfl, rfl, p1, _, _, _, rfl, rfl, SqL.of upd_same, ew, ?_⟩⟩
    have g2 := g1.trans (same_new n1' (.lst [V.str "drop", .str "show", .str "size"]))
    refine ⟨_, rfl, _, rfl, _, _, rfl, rfl, by omega, _, rfl, _, _, rfl, rfl, by rw [len_app]; omega, p, d, kvs, s, _, rfl, hdk.same g2, .inr ⟨nm, wd, h3, rfl, fun en t2 H5 g5 ht => ?_, fun v ev => ?_⟩⟩
    · have g5' := g2.trans g5
      have en' : valV kvs' (Sum.inr s) = none := by
        rcases rl s with z | ⟨a, a', fs, z, _⟩
        · exact z.2
        · rw [en] at z; cases z
      have dg := DGet.k (k := Sum.inr s) (g5' _ _ hk)
      rw [en'] at dg
      refine ⟨_, rfl, _, rfl, k, none, rfl, dg, _, rfl, iteT ?_⟩
      exact eqn t2 H5 g5' ht _ rfl
    · obtain ⟨a, a', fs, z1, z2, c1, c2⟩ : ∃ (a a' : Addr) (fs : List Int), valV kvs (.inr s) = some (.ref a) ∧ valV kvs' (.inr s) = some (.ref a') ∧ Cv H a fs ∧ Cv H a' fs := by
        rcases rl s with z | z
        · rw [z.1] at ev; cases ev
        · exact z
      rw [z1] at ev
      cases ev
      have dg : ∀ {H' : Hp}, H' k = some (.dK kvs') → DGet H' k (V.str s) (some (.ref a')) := fun {H'} e => by
        have := DGet.k (k := Sum.inr s) e
        rw [z2] at this
        exact this
      refine ⟨a, fs, rfl, c1.same g2, fun z H5 kp hd5 => ?_, fun z H5 g5 => ?_, fun z H5 g5 => ?_⟩
      · subst z
        have hk5 := kp k _ (Ne.symm dk) (g2 _ _ hk)
        refine ⟨_, rfl, _, rfl, k, _, rfl, dg hk5, _, rfl, iteF ?_⟩
        refine ⟨_, rfl, _, rfl, k, _, rfl, dg hk5, ?_⟩
        refine ⟨_, rfl, rfl, _, rfl, iteT ?_⟩
        refine ⟨_, rfl, k, rfl, .inl ⟨_, .inl hk5⟩, _, rfl, kvs', Sum.inr s, _, hk5, rfl, z2, _, rfl, rfl, ?_⟩
        have up : ∀ x ys, Cv H5 x ys → Cv (upd H5 k (.dK (dropK kvs' (.inr s)))) x ys := fun x ys c => ⟨by rw [upd_ne (cv_ne c hk5)]; exact c.1, c.2⟩
        refine q _ (dropK kvs (.inr s)) (dropK kvs' (.inr s)) (fun b o hb hb' e => ?_) (by rw [upd_ne dk]; exact hd5) upd_same ((rl.kept fun x ys c => up _ _ ((c.same g2).kp (g2 _ _ hd) kp)).drop) (Nat.le_trans (dropK_le _ _) (Nat.le_succ _)) (Nat.le_trans (dropK_le _ _) (Nat.le_succ _))
        rw [upd_ne hb']
        exact kp _ _ hb (g2 _ _ e)
      · subst z
        have g5' := g2.trans g5
        have hk5 := g5' _ _ hk
        refine ⟨_, rfl, _, rfl, k, _, rfl, dg hk5, _, rfl, iteF ?_⟩
        refine ⟨_, rfl, _, rfl, k, _, rfl, dg hk5, ?_⟩
        refine ⟨_, rfl, rfl, _, rfl, iteF ?_⟩
        refine ⟨_, rfl, rfl, _, rfl, iteT ?_⟩
        refine ⟨_, rfl, _, rfl, _, rfl, by decide, fun o no' => ?_⟩
        have g6 := g5'.trans (same_new no' (.lst ((List.range 6).map fun k : Nat => V.int k)))
        refine ⟨a', o, fs, List.range 6, rfl, .inr (c2.same g6).1, SqL.of upd_same, c1.2.1, c1.2.2.up, by rw [List.length_range]; decide, fun k m => List.mem_range.mp m, fun H7 g7 => ⟨rfl, ?_⟩⟩
        rw [← zt_ter c1.2.1, decide_eq_true rfl]
        exact no _ (g6.trans g7)
      · subst z
        have g5' := g2.trans g5
        have hk5 := g5' _ _ hk
        refine ⟨_, rfl, _, rfl, k, _, rfl, dg hk5, _, rfl, iteF ?_⟩
        refine ⟨_, rfl, _, rfl, k, _, rfl, dg hk5, ?_⟩
        refine ⟨_, rfl, rfl, _, rfl, iteF ?_⟩
        refine ⟨_, rfl, rfl, _, rfl, iteF ?_⟩
        refine ⟨_, rfl, _, rfl, a', fs, rfl, c2.same g5', _, rfl, log_lt (szF_lt c1.2.1 c1.2.2), rfl, ?_⟩
        show Q (.bl (decide (V.str (nu (szF fs)) = V.str (nu (szF fs))))) H5
        rw [decide_eq_true rfl]
        exact no _ g5'
theorem ok_law {f : Addr} {fd : FuncData} (F : Fun K "law" "law" s_law f fd) (T : Txt K mg t) (H_names : Has P w K mg base CX0 1 "_law_names" ["_law_cell"] (spNms)) (H_cell_at : Has P w K mg base CX0 1 "_law_cell_at" ["_law_script", "_law_k"] (spCell K)) (H_Desk_init : HasM P w K mg base CX0 1 t.iDesk_init ["self"] (spInit t.cDesk)) (H_row_done : Has P w K mg base CX0 8 "_law_row_done" ["_law_desk", "_law_known", "_law_name_here", "_law_number"] (spRow t.cDesk)) (H_name : Has P w K mg base CX0 1 "_law_name" ["_law_number", "_law_names_here"] (spNme)) (H_said : Has P w K mg base CX0 7 "_law_said" ["_law_desk", "_law_row"] (spSaid t.cDesk)) : FnOk P w K mg base CX0 9 f fd ["_law_script"] (spLaw K) := by
  obtain ⟨f_names, d_names, G_names, b_names, k_names, m_names⟩ := H_names
  obtain ⟨f_cell_at, d_cell_at, G_cell_at, b_cell_at, k_cell_at, m_cell_at⟩ := H_cell_at
  obtain ⟨d_Desk_init, G_Desk_init, b_Desk_init⟩ := H_Desk_init
  obtain ⟨f_row_done, d_row_done, G_row_done, b_row_done, k_row_done, m_row_done⟩ := H_row_done
  obtain ⟨f_name, d_name, G_name, b_name, k_name, m_name⟩ := H_name
  obtain ⟨f_said, d_said, G_said, b_said, k_said, m_said⟩ := H_said
  refine F.ok sc_law (fun vs H Q E h => ?_) (fun cdv A outer s H vs Q E hr h => ?_)
  · obtain ⟨a, ns, rfl, _⟩ := h
    rfl
  obtain ⟨a, ns, rfl, hS, h63, hbits, q⟩ := h
  have hr_names := hr.mono (show 1 ≤ 8 by decide)
  have hr_cell_at := hr.mono (show 1 ≤ 8 by decide)
  have hr_Desk_init := hr.mono (show 1 ≤ 8 by decide)
  have hr_row_done := hr.mono (show 8 ≤ 8 by decide)
  have hr_name := hr.mono (show 1 ≤ 8 by decide)
  have hr_said := hr.mono (show 7 ≤ 8 by decide)
  have hu := hu_of hr
  have hu64 := hu64_of hr
  refine ⟨_, pss_cons (ps_set (i := 1) sc_law.nd rfl (Or.inl rfl) (pe_call G_names hr_names rfl m_names k_names b_names .nil pass0 (pa_cons (pe_call G_cell_at hr_cell_at rfl m_cell_at k_cell_at b_cell_at .nil pass0 (pa_cons (pv 0) (pa_cons pe_int pa_nil))) pa_nil)))
    (pss_cons (ps_set (i := 2) sc_law.nd rfl (Or.inl rfl) (pe_lst (pa_cons (pe_make0 T.mk_Desk G_Desk_init (hr.mono (show 2 ≤ 8 by decide)) rfl T.m_Desk b_Desk_init .nil pass0) (pa_cons (pe_make0 T.mk_Desk G_Desk_init (hr.mono (show 2 ≤ 8 by decide)) rfl T.m_Desk b_Desk_init .nil pass0) pa_nil))))
    (pss_cons (ps_set (i := 3) sc_law.nd rfl (Or.inl rfl) (pe_lst (pa_cons pe_dnewK (pa_cons pe_dnewK pa_nil))))
    (pss_cons (ps_for PassesOwn.never rfl (pi_list (pe_slice sl_list (pv 0) (po_some pe_int) (po_some pe_int))) (pg_name (i := 4) sc_law.nd rfl (Or.inl rfl)) (pss_cons (ps_set (i := 6) sc_law.nd rfl (Or.inl rfl) (pe_op op_fdiv (pe_op op_mod (pe_op op_mod (pe_op op_mulG (pv 4) pe_int) pe_int) pe_int) pe_int))
    (pss_cons (ps_set (i := 7) sc_law.nd rfl (Or.inl rfl) (pe_op op_mod (pe_op op_mulG (pv 4) pe_int) pe_int))
    (pss_one (ps_if (pt_not (pt_val (pe_call G_row_done hr_row_done rfl m_row_done k_row_done b_row_done .nil pass0 (pa_cons (pe_ix ix_list (pv 2) (pv 6) (fun _ _ => rfl)) (pa_cons (pe_ix ix_list (pv 3) (pv 6) (fun _ _ => rfl)) (pa_cons (pe_call G_name hr_name rfl m_name k_name b_name .nil pass0 (pa_cons (pv 4) (pa_cons (pv 1) pa_nil))) (pa_cons (pv 7) pa_nil))))) (fun _ => rfl))) (pss_one (ps_ret pe_bl)) pss_nil)))))
    (pss_cons (ps_for PassesOwn.never rfl (pi_list (pv 1)) (pg_name (i := 5) sc_law.nd rfl (Or.inl rfl)) (pss_one (ps_for PassesOwn.never rfl (pi_range1 rfl T.z_range (pa_cons pe_int pa_nil)) (pg_name (i := 8) sc_law.nd rfl (Or.inl rfl)) (pss_one (ps_if (pt_cmpR op_ne (pe_cmpR (op_eqD hu64) (pe_call G_said hr_said rfl m_said k_said b_said .nil pass0 (pa_cons (pe_ix ix_list (pv 2) (pv 8) (fun _ _ => rfl)) (pa_cons (pe_op op_add_str pe_str (pv 5)) pa_nil))) (pe_tup (pa_cons pe_str (pa_cons pe_bl pa_nil))) (nomark _)) (pe_cmp (pc_dnotin hu (pv 5) (pe_ix ix_list (pv 3) (pv 8) (fun _ _ => rfl)))) (nomark _)) (pss_one (ps_ret pe_bl)) pss_nil)))))
    (pss_one (ps_ret pe_bl)))))), ?_⟩
  have bg := big100
  refine ⟨_, rfl, a, ns, _, rfl, hS, by omega, _, rfl, fun pn H1 nms g1 hn h7 hnm => ?_⟩
  have hS1 := g1.seq hS
  refine fun x1 dx1 nx1 nd1 ne1 => ⟨x1, dx1, rfl, upd_same, fun d1 H2 nd hx hd kp => ⟨rfl, ?_⟩⟩
  have g2 : Same H1 H2 := fun b o e => kp b o (ne_of_none e nx1) (by rw [upd_ne (ne_of_none e nx1), upd_ne (ne_of_none e nd1)]; exact e)
  clear kp
  have fd1 : H1 d1 = none := by
    cases e : H1 d1 with
    | none => rfl
    | some o =>
      rw [upd_ne (ne_of_none e nx1), upd_ne (ne_of_none e nd1), e] at nd
      cases nd
  refine fun x2 dx2 nx2 nd2 ne2 => ⟨x2, dx2, rfl, upd_same, fun d2 H3 nd' hx' hd' kp => ⟨rfl, ?_⟩⟩
  have g3 : Same H2 H3 := fun b o e => kp b o (ne_of_none e nx2) (by rw [upd_ne (ne_of_none e nx2), upd_ne (ne_of_none e nd2)]; exact e)
  clear kp
  have d12 : d1 ≠ d2 := fun z => by
    rw [← z, upd_ne (ne_of_none hd nx2), upd_ne (ne_of_none hd nd2), hd] at nd'
    cases nd'
  refine ⟨(by show 2 ≤ sizeLine; decide), fun pd npd => ?_⟩
  have g4 := same_new npd (.lst [.ref x1, .ref x2])
  have hpd : (upd H3 pd (.lst [.ref x1, .ref x2])) pd = some (.lst [.ref x1, .ref x2]) := upd_same
  generalize upd H3 pd (.lst [.ref x1, .ref x2]) = H4 at *
  refine fun k1 nk1 => fun k2 nk2 => ⟨(by show 2 ≤ sizeLine; decide), fun pk npk => ?_⟩
  have g5 := same_new nk1 (.dK [])
  have hk1 : (upd H4 k1 (.dK [])) k1 = some (.dK []) := upd_same
  have hd1' := g4 _ _ (g3 _ _ hd)
  have hd2' := g4 _ _ hd'
  have n1 : d1 ≠ k1 := ne_of_none hd1' nk1
  have n5 : d2 ≠ k1 := ne_of_none hd2' nk1
  generalize upd H4 k1 (.dK []) = H5 at *
  have g6 := same_new nk2 (.dK [])
  have hk2 : (upd H5 k2 (.dK [])) k2 = some (.dK []) := upd_same
  have n4 : d1 ≠ k2 := ne_of_none (g5 _ _ hd1') nk2
  have n2 : d2 ≠ k2 := ne_of_none (g5 _ _ hd2') nk2
  have n6 : k1 ≠ k2 := ne_of_none hk1 nk2
  generalize upd H5 k2 (.dK []) = H6 at *
  have g7 := same_new npk (.lst [.ref k1, .ref k2])
  have hpk : (upd H6 pk (.lst [.ref k1, .ref k2])) pk = some (.lst [.ref k1, .ref k2]) := upd_same
  generalize upd H6 pk (.lst [.ref k1, .ref k2]) = H7 at *
  have g57 : Same H4 H7 := g5.trans (g6.trans g7)
  have D : Dsk t.cDesk H7 pn pd pk x1 x2 d1 d2 k1 k2 nms 0 := {
    hn := g57 _ _ (g4 _ _ (g3 _ _ (g2 _ _ hn))), hd := g57 _ _ hpd, hk := hpk,
    one := ⟨[], [], ⟨dx1, g57 _ _ (g4 _ _ (g3 _ _ hx)), g57 _ _ hd1'⟩, g7 _ _ (g6 _ _ hk1), Rl.nil _, Nat.le_refl _, Nat.le_refl _⟩,
    two := ⟨[], [], ⟨dx2, g57 _ _ (g4 _ _ hx'), g57 _ _ hd2'⟩, g7 _ _ hk2, Rl.nil _, Nat.le_refl _, Nat.le_refl _⟩,
    n1 := n1, n2 := n2, n3 := d12, n4 := n4, n5 := n5, n6 := n6 }
  have hS7 := (g2.trans (g3.trans (g4.trans g57))).seq hS1
  obtain ⟨cs, ecs, lcs⟩ := cut_ints ns (some 1) (some 31)
  refine ⟨_, rfl, _, rfl, _, rfl, a, _, rfl, hS7, fun ps nps => ?_⟩
  rw [ecs]
  have D8 := D.same (same_new nps (.lst (cs.map V.int)))
  have hps : (upd H7 ps (.lst (cs.map V.int))) ps = some (.lst (cs.map V.int)) := upd_same
  generalize upd H7 ps (.lst (cs.map V.int)) = H8 at *
  clear D hS7
  refine ⟨ps, rfl, ⟨_, SqL.of hps⟩, for_list (xs := cs.map V.int) (fun i σ H' => ∃ x4 x5 x6 x7 x8 : Option V, σ = [some (.ref a), some (.ref pn), some (.ref pd), some (.ref pk), x4, x5, x6, x7, x8] ∧ Dsk t.cDesk H' pn pd pk x1 x2 d1 d2 k1 k2 nms i ∧ H' ps = some (.lst (cs.map V.int))) ?_ ?_ ?_ ?_⟩
  · exact ⟨_, _, _, _, _, rfl, D8, hps⟩
  · rintro i σ H' hi ⟨x4, x5, x6, x7, x8, rfl, D', hp⟩
    exact SqL.of hp
  · rintro i x σ H' hx ⟨x4, x5, x6, x7, x8, rfl, D', hp⟩
    have hil : i < cs.length := by
      have := (List.getElem?_eq_some_iff.mp hx).1
      rwa [List.length_map] at this
    obtain ⟨c, rfl⟩ : ∃ c : Int, x = .int c := by
      obtain ⟨c, _, e⟩ := List.mem_map.mp (List.mem_of_getElem? hx)
      exact ⟨c, e.symm⟩
    refine ⟨_, rfl, _, _, rfl, rfl, mulS (by decide) (by decide), _, _, rfl, rfl, (by show (0 : Int) < 1000000007; decide), _, _, rfl, rfl, (by show (0 : Int) < 3; decide), _, _, rfl, rfl, ⟨by decide, by decide⟩, ?_⟩
    refine ⟨_, rfl, _, _, rfl, rfl, mulS (by decide) (by decide), _, _, rfl, rfl, (by show (0 : Int) < 1000000009; decide), ?_⟩
    obtain ⟨x, d, k, P, step⟩ := D'.pick (i := c * 49979687 % 1000000007 % 3 / 2) (by omega)
    obtain ⟨kv, kw, hdk, hkk, rl, l1, l2⟩ := id P.tw
    refine ⟨_, rfl, _, rfl, pd, _, _, _, rfl, rfl, SqL.of D'.hd, P.ax, _, rfl, _, rfl, pk, _, _, _, rfl, rfl, SqL.of D'.hk, P.ak, _, rfl, _, rfl, c, pn, nms, rfl, D'.hn, h7, hnm, fun s H2' g2' nms' => ⟨_, rfl, ?_⟩⟩
    refine ⟨x, d, k, kv, kw, s, _, rfl, hdk.same g2', g2' _ _ hkk, P.nd, rl.kept (fun a fs c => c.same g2'), by omega, by omega, nms', by omega, by omega, fun H3' kv2 kw2 kp' hd3 hk3 rl3 m1 m2 => ⟨_, rfl, iteF ?_⟩⟩
    have kq : ∀ b o, b ≠ d → b ≠ k → H' b = some o → H3' b = some o := fun b o hb hb' e => kp' b o hb hb' (g2' _ _ e)
    obtain ⟨_, _, hdd⟩ := id hdk
    exact ⟨_, _, _, _, _, rfl, step H3' kv2 kw2 kq hd3 hk3 rl3 (by omega) (by omega), kq _ _ (lst_ne hp hdd) (lst_ne hp hkk) hp⟩
  · rintro σ H' ⟨x4, x5, x6, x7, x8, rfl, D', hp⟩
    generalize hM : (cs.map V.int).length = M at D'
    refine ⟨_, rfl, pn, rfl, ⟨_, SqL.of D'.hn⟩, for_list (xs := nms.map V.str) (fun i σ H' => ∃ x5 x8 : Option V, σ = [some (.ref a), some (.ref pn), some (.ref pd), some (.ref pk), x4, x5, x6, x7, x8] ∧ Dsk t.cDesk H' pn pd pk x1 x2 d1 d2 k1 k2 nms M) ?_ ?_ ?_ ?_⟩
    · exact ⟨_, _, rfl, D'⟩
    · rintro i σ H2' hi ⟨x5, x8, rfl, E'⟩
      exact SqL.of E'.hn
    · rintro i x σ H2' hx ⟨x5, x8, rfl, E'⟩
      obtain ⟨s, hs, rfl⟩ : ∃ s ∈ nms, x = .str s := by
        obtain ⟨s, hs, e⟩ := List.mem_map.mp (List.mem_of_getElem? hx)
        exact ⟨s, hs, e.symm⟩
      have nm := hnm s hs
      have sl := nm.2
      refine ⟨_, rfl, by decide, by decide, for_range (lo := 0) (n := 2) (fun j σ H' => ∃ x8 : Option V, σ = [some (.ref a), some (.ref pn), some (.ref pd), some (.ref pk), x4, some (.str s), x6, x7, x8] ∧ Dsk t.cDesk H' pn pd pk x1 x2 d1 d2 k1 k2 nms M) ?_ ?_ ?_⟩
      · exact ⟨_, rfl, E'⟩
      · rintro j σ H3' hj ⟨x8, rfl, F'⟩
        obtain ⟨x, d, k, P, _⟩ := F'.pick (i := 0 + (j : Int)) (by omega)
        obtain ⟨kv, kw, hdk, hkk, rl, l1, l2⟩ := id P.tw
        have e5 : ("show " : Str).length = 5 := rfl
        refine ⟨_, rfl, _, rfl, pd, _, _, _, rfl, rfl, SqL.of F'.hd, P.ax, _, rfl, _, _, rfl, rfl, by omega, x, d, kv, s, _, rfl, hdk, .inr ⟨nm, "show", .inr (.inl rfl), sho_eq s, fun en t2 H5 g5 ht => ?_, fun v ev => ?_⟩⟩
        · refine ⟨(by show 2 ≤ sizeLine; decide), fun p2 n2 => ?_⟩
          have g6 := g5.trans (same_new n2 (.tup [V.str ("name" : Str), .bl true]))
          have F6 := F'.same g6
          have en' : valV kw (Sum.inr s) = none := by
            rcases rl s with z | ⟨b, b', fs, z, _⟩
            · exact z.2
            · rw [en] at z; cases z
          have dg := DGet.k (k := Sum.inr s) (g6 _ _ hkk)
          rw [en'] at dg
          refine ⟨_, _, .tup (same_new n2 _ _ _ ht) (.cons .str (.cons .bl .nil)), .tup upd_same (.cons .str (.cons .bl .nil)), sh_nm, sh_nm, _, rfl, _, rfl, _, rfl, pk, _, _, _, rfl, rfl, SqL.of F6.hk, P.ak, k, none, rfl, dg, rfl, _, rfl, ?_⟩
          refine iteFE (by rw [show PyData.eqv (PyData.tuple [PyData.str ("name" : Str), PyData.bool true]) (PyData.tuple [PyData.str ("name" : Str), PyData.bool true]) = true from ev_nm]; rfl) ?_
          exact ⟨_, rfl, F6⟩
        · obtain ⟨b, b', fs, z1, z2, c1, c2⟩ : ∃ (b b' : Addr) (fs : List Int), valV kv (.inr s) = some (.ref b) ∧ valV kw (.inr s) = some (.ref b') ∧ Cv H3' b fs ∧ Cv H3' b' fs := by
            rcases rl s with z | z
            · rw [z.1] at ev; cases ev
            · exact z
          rw [z1] at ev
          cases ev
          refine ⟨b, fs, rfl, c1, fun z => absurd z (by decide +kernel), fun _ H5 g5 => ?_, fun z => absurd z (by decide +kernel)⟩
          refine ⟨(by show 2 ≤ sizeLine; decide), fun p2 n2 => ?_⟩
          have g6 := g5.trans (same_new n2 (.tup [V.str ("name" : Str), .bl true]))
          have F6 := F'.same g6
          have dg := DGet.k (k := Sum.inr s) (g6 _ _ hkk)
          rw [z2] at dg
          have gz := gd_zt c1.2.1 c1.2.2
          refine ⟨_, _, .str, .tup upd_same (.cons .str (.cons .bl .nil)), sh_str (As.fu gz.let), sh_nm, _, rfl, _, rfl, _, rfl, pk, _, _, _, rfl, rfl, SqL.of F6.hk, P.ak, k, _, rfl, dg, rfl, _, rfl, ?_⟩
          refine iteFE (by rw [show PyData.eqv (.str (fu (zt fs))) (PyData.tuple [PyData.str ("name" : Str), PyData.bool true]) = false from ev_no _]; rfl) ?_
          exact ⟨_, rfl, F6⟩
      · rintro σ H3' ⟨x8, rfl, F'⟩
        exact ⟨_, _, rfl, F'⟩
    · rintro σ H2' ⟨x5, x8, rfl, E'⟩
      exact q _

end
theorem all_mk {l : PySem.W.OpenLaw} {w : World} {K : PySem.W.Frag} {h : Heap} {mg : Str → Option Value} {fa qce qc0 qc1 qc2 qc3 qc4 qc5 qc6 qc7 qc8 qc9 qc10 qc11 qc12 qc13 qc14 qcDesk qiDesk_init qiDesk_say qiDesk_keep qiDesk_kept qgLETTERS qgROWS : Addr} (X : K.In h) (G : h.Ns mainGlobals mg) (hfa : mg "law" = some (.ref fa))
    {qkFIGURES qkEND qkNOUGHTS qkSMALL : Tok}
    {f1 f2 f3 f4 f5 f6 f7 f8 f12 f13 f15 f16 f17 f18 f19 f20 f21 f22 f23 f24 f25 f26 : Addr} {od1 an1 od2 an2 od3 an3 od4 an4 od5 an5 od6 an6 od7 an7 od8 an8 od9 an9 od10 an10 od11 an11 od12 an12 od13 an13 od14 an14 od15 an15 od16 an16 od17 an17 od18 an18 od19 an19 od20 an20 od21 an21 od22 an22 od23 an23 od24 an24 od25 an25 od26 an26 : Option Addr} {sl1 sl2 sl3 sl4 sl5 sl6 sl7 sl8 sl9 sl10 sl11 sl12 sl13 sl14 sl15 sl16 sl17 sl18 sl19 sl20 sl21 sl22 sl23 sl24 sl25 sl26 : Array (Option Value)} {oc1 kV1 dc1 pm1 cd1 ct1 oc2 kV2 dc2 pm2 cd2 ct2 oc3 kV3 dc3 pm3 cd3 ct3 oc4 kV4 dc4 pm4 cd4 ct4 oc5 kV5 dc5 pm5 cd5 ct5 oc6 kV6 dc6 pm6 cd6 ct6 oc7 kV7 dc7 pm7 cd7 ct7 oc8 kV8 dc8 pm8 cd8 ct8 oc9 kV9 dc9 pm9 cd9 ct9 oc10 kV10 dc10 pm10 cd10 ct10 oc11 kV11 dc11 pm11 cd11 ct11 oc12 kV12 dc12 pm12 cd12 ct12 oc13 kV13 dc13 pm13 cd13 ct13 oc14 kV14 dc14 pm14 cd14 ct14 oc15 kV15 dc15 pm15 cd15 ct15 oc16 kV16 dc16 pm16 cd16 ct16 oc17 kV17 dc17 pm17 cd17 ct17 oc18 kV18 dc18 pm18 cd18 ct18 oc19 kV19 dc19 pm19 cd19 ct19 oc20 kV20 dc20 pm20 cd20 ct20 oc21 kV21 dc21 pm21 cd21 ct21 oc22 kV22 dc22 pm22 cd22 ct22 oc23 kV23 dc23 pm23 cd23 ct23 oc24 kV24 dc24 pm24 cd24 ct24 oc25 kV25 dc25 pm25 cd25 ct25 oc26 kV26 dc26 pm26 cd26 ct26 : Value}
    (a1 : PySem.W.nsIn K mainGlobals "show_term" = some (some (.ref f1))) (l1 : K.lookup f1 = some ⟨oc1, od1, .func (PySem.W.fnOf "show_term" "show_term" (defArgs s_show_term) (defBody s_show_term) (defScope s_show_term) .none kV1 dc1 pm1 an1 cd1 ct1), sl1⟩) (g1 : PySem.W.codeIn K cd1 "show_term" = true) (k1 : PySem.W.keepIn K (.ref f1) = true)
    (a2 : PySem.W.nsIn K mainGlobals "show_sum" = some (some (.ref f2))) (l2 : K.lookup f2 = some ⟨oc2, od2, .func (PySem.W.fnOf "show_sum" "show_sum" (defArgs s_show_sum) (defBody s_show_sum) (defScope s_show_sum) .none kV2 dc2 pm2 an2 cd2 ct2), sl2⟩) (g2 : PySem.W.codeIn K cd2 "show_sum" = true) (k2 : PySem.W.keepIn K (.ref f2) = true)
    (a3 : PySem.W.nsIn K mainGlobals "are_figures" = some (some (.ref f3))) (l3 : K.lookup f3 = some ⟨oc3, od3, .func (PySem.W.fnOf "are_figures" "are_figures" (defArgs s_are_figures) (defBody s_are_figures) (defScope s_are_figures) .none kV3 dc3 pm3 an3 cd3 ct3), sl3⟩) (g3 : PySem.W.codeIn K cd3 "are_figures" = true) (k3 : PySem.W.keepIn K (.ref f3) = true)
    (a4 : PySem.W.nsIn K mainGlobals "read_size" = some (some (.ref f4))) (l4 : K.lookup f4 = some ⟨oc4, od4, .func (PySem.W.fnOf "read_size" "read_size" (defArgs s_read_size) (defBody s_read_size) (defScope s_read_size) .none kV4 dc4 pm4 an4 cd4 ct4), sl4⟩) (g4 : PySem.W.codeIn K cd4 "read_size" = true) (k4 : PySem.W.keepIn K (.ref f4) = true)
    (a5 : PySem.W.nsIn K mainGlobals "read_coefficient" = some (some (.ref f5))) (l5 : K.lookup f5 = some ⟨oc5, od5, .func (PySem.W.fnOf "read_coefficient" "read_coefficient" (defArgs s_read_coefficient) (defBody s_read_coefficient) (defScope s_read_coefficient) .none kV5 dc5 pm5 an5 cd5 ct5), sl5⟩) (g5 : PySem.W.codeIn K cd5 "read_coefficient" = true) (k5 : PySem.W.keepIn K (.ref f5) = true)
    (a6 : PySem.W.nsIn K mainGlobals "terms_of" = some (some (.ref f6))) (l6 : K.lookup f6 = some ⟨oc6, od6, .func (PySem.W.fnOf "terms_of" "terms_of" (defArgs s_terms_of) (defBody s_terms_of) (defScope s_terms_of) .none kV6 dc6 pm6 an6 cd6 ct6), sl6⟩) (g6 : PySem.W.codeIn K cd6 "terms_of" = true) (k6 : PySem.W.keepIn K (.ref f6) = true)
    (a7 : PySem.W.nsIn K mainGlobals "read_sum" = some (some (.ref f7))) (l7 : K.lookup f7 = some ⟨oc7, od7, .func (PySem.W.fnOf "read_sum" "read_sum" (defArgs s_read_sum) (defBody s_read_sum) (defScope s_read_sum) .none kV7 dc7 pm7 an7 cd7 ct7), sl7⟩) (g7 : PySem.W.codeIn K cd7 "read_sum" = true) (k7 : PySem.W.keepIn K (.ref f7) = true)
    (a8 : PySem.W.nsIn K mainGlobals "size_of" = some (some (.ref f8))) (l8 : K.lookup f8 = some ⟨oc8, od8, .func (PySem.W.fnOf "size_of" "size_of" (defArgs s_size_of) (defBody s_size_of) (defScope s_size_of) .none kV8 dc8 pm8 an8 cd8 ct8), sl8⟩) (g8 : PySem.W.codeIn K cd8 "size_of" = true) (k8 : PySem.W.keepIn K (.ref f8) = true)
    {ocC9 : Value} {odC9 : Option Addr} {slC9 : Array (Option Value)} {nmC9 qnC9 : Str} {bsC9 mrC9 suC9 : List Value} {nsC9 : Addr} {hdC9 abC9 dlC9 : Bool} {snC9 : List Str} {coC9 : Option Bool}
    (o9 : K.lookup qcDesk = some ⟨ocC9, odC9, .cls ⟨nmC9, bsC9, mrC9, nsC9, qnC9, hdC9, snC9, suC9, abC9, coC9, dlC9⟩, slC9⟩)
    (a9 : PySem.W.nsIn K nsC9 "__init__" = some (some (.ref qiDesk_init))) (l9 : K.lookup qiDesk_init = some ⟨oc9, od9, .func (PySem.W.fnOf "__init__" "Desk.__init__" (defArgs s_Desk_init) (defBody s_Desk_init) (defScope s_Desk_init) .none kV9 dc9 pm9 an9 cd9 ct9), sl9⟩) (g9 : PySem.W.codeIn K cd9 "Desk.__init__" = true) (k9 : PySem.W.keepIn K (.ref qiDesk_init) = true)
    {ocC10 : Value} {odC10 : Option Addr} {slC10 : Array (Option Value)} {nmC10 qnC10 : Str} {bsC10 mrC10 suC10 : List Value} {nsC10 : Addr} {hdC10 abC10 dlC10 : Bool} {snC10 : List Str} {coC10 : Option Bool}
    (o10 : K.lookup qcDesk = some ⟨ocC10, odC10, .cls ⟨nmC10, bsC10, mrC10, nsC10, qnC10, hdC10, snC10, suC10, abC10, coC10, dlC10⟩, slC10⟩)
    (a10 : PySem.W.nsIn K nsC10 "kept" = some (some (.ref qiDesk_kept))) (l10 : K.lookup qiDesk_kept = some ⟨oc10, od10, .func (PySem.W.fnOf "kept" "Desk.kept" (defArgs s_Desk_kept) (defBody s_Desk_kept) (defScope s_Desk_kept) .none kV10 dc10 pm10 an10 cd10 ct10), sl10⟩) (g10 : PySem.W.codeIn K cd10 "Desk.kept" = true) (k10 : PySem.W.keepIn K (.ref qiDesk_kept) = true)
    {ocC11 : Value} {odC11 : Option Addr} {slC11 : Array (Option Value)} {nmC11 qnC11 : Str} {bsC11 mrC11 suC11 : List Value} {nsC11 : Addr} {hdC11 abC11 dlC11 : Bool} {snC11 : List Str} {coC11 : Option Bool}
    (o11 : K.lookup qcDesk = some ⟨ocC11, odC11, .cls ⟨nmC11, bsC11, mrC11, nsC11, qnC11, hdC11, snC11, suC11, abC11, coC11, dlC11⟩, slC11⟩)
    (a11 : PySem.W.nsIn K nsC11 "keep" = some (some (.ref qiDesk_keep))) (l11 : K.lookup qiDesk_keep = some ⟨oc11, od11, .func (PySem.W.fnOf "keep" "Desk.keep" (defArgs s_Desk_keep) (defBody s_Desk_keep) (defScope s_Desk_keep) .none kV11 dc11 pm11 an11 cd11 ct11), sl11⟩) (g11 : PySem.W.codeIn K cd11 "Desk.keep" = true) (k11 : PySem.W.keepIn K (.ref qiDesk_keep) = true)
    (a12 : PySem.W.nsIn K mainGlobals "names_of_row" = some (some (.ref f12))) (l12 : K.lookup f12 = some ⟨oc12, od12, .func (PySem.W.fnOf "names_of_row" "names_of_row" (defArgs s_names_of_row) (defBody s_names_of_row) (defScope s_names_of_row) .none kV12 dc12 pm12 an12 cd12 ct12), sl12⟩) (g12 : PySem.W.codeIn K cd12 "names_of_row" = true) (k12 : PySem.W.keepIn K (.ref f12) = true)
    (a13 : PySem.W.nsIn K mainGlobals "answer_to" = some (some (.ref f13))) (l13 : K.lookup f13 = some ⟨oc13, od13, .func (PySem.W.fnOf "answer_to" "answer_to" (defArgs s_answer_to) (defBody s_answer_to) (defScope s_answer_to) .none kV13 dc13 pm13 an13 cd13 ct13), sl13⟩) (g13 : PySem.W.codeIn K cd13 "answer_to" = true) (k13 : PySem.W.keepIn K (.ref f13) = true)
    {ocC14 : Value} {odC14 : Option Addr} {slC14 : Array (Option Value)} {nmC14 qnC14 : Str} {bsC14 mrC14 suC14 : List Value} {nsC14 : Addr} {hdC14 abC14 dlC14 : Bool} {snC14 : List Str} {coC14 : Option Bool}
    (o14 : K.lookup qcDesk = some ⟨ocC14, odC14, .cls ⟨nmC14, bsC14, mrC14, nsC14, qnC14, hdC14, snC14, suC14, abC14, coC14, dlC14⟩, slC14⟩)
    (a14 : PySem.W.nsIn K nsC14 "say" = some (some (.ref qiDesk_say))) (l14 : K.lookup qiDesk_say = some ⟨oc14, od14, .func (PySem.W.fnOf "say" "Desk.say" (defArgs s_Desk_say) (defBody s_Desk_say) (defScope s_Desk_say) .none kV14 dc14 pm14 an14 cd14 ct14), sl14⟩) (g14 : PySem.W.codeIn K cd14 "Desk.say" = true) (k14 : PySem.W.keepIn K (.ref qiDesk_say) = true)
    (a15 : PySem.W.nsIn K mainGlobals "_law_cell_at" = some (some (.ref f15))) (l15 : K.lookup f15 = some ⟨oc15, od15, .func (PySem.W.fnOf "_law_cell_at" "_law_cell_at" (defArgs s_cell_at) (defBody s_cell_at) (defScope s_cell_at) .none kV15 dc15 pm15 an15 cd15 ct15), sl15⟩) (g15 : PySem.W.codeIn K cd15 "_law_cell_at" = true) (k15 : PySem.W.keepIn K (.ref f15) = true)
    (a16 : PySem.W.nsIn K mainGlobals "_law_letters" = some (some (.ref f16))) (l16 : K.lookup f16 = some ⟨oc16, od16, .func (PySem.W.fnOf "_law_letters" "_law_letters" (defArgs s_letters) (defBody s_letters) (defScope s_letters) .none kV16 dc16 pm16 an16 cd16 ct16), sl16⟩) (g16 : PySem.W.codeIn K cd16 "_law_letters" = true) (k16 : PySem.W.keepIn K (.ref f16) = true)
    (a17 : PySem.W.nsIn K mainGlobals "_law_term" = some (some (.ref f17))) (l17 : K.lookup f17 = some ⟨oc17, od17, .func (PySem.W.fnOf "_law_term" "_law_term" (defArgs s_term) (defBody s_term) (defScope s_term) .none kV17 dc17 pm17 an17 cd17 ct17), sl17⟩) (g17 : PySem.W.codeIn K cd17 "_law_term" = true) (k17 : PySem.W.keepIn K (.ref f17) = true)
    (a18 : PySem.W.nsIn K mainGlobals "_law_shown" = some (some (.ref f18))) (l18 : K.lookup f18 = some ⟨oc18, od18, .func (PySem.W.fnOf "_law_shown" "_law_shown" (defArgs s_shown) (defBody s_shown) (defScope s_shown) .none kV18 dc18 pm18 an18 cd18 ct18), sl18⟩) (g18 : PySem.W.codeIn K cd18 "_law_shown" = true) (k18 : PySem.W.keepIn K (.ref f18) = true)
    (a19 : PySem.W.nsIn K mainGlobals "_law_alone" = some (some (.ref f19))) (l19 : K.lookup f19 = some ⟨oc19, od19, .func (PySem.W.fnOf "_law_alone" "_law_alone" (defArgs s_alone) (defBody s_alone) (defScope s_alone) .none kV19 dc19 pm19 an19 cd19 ct19), sl19⟩) (g19 : PySem.W.codeIn K cd19 "_law_alone" = true) (k19 : PySem.W.keepIn K (.ref f19) = true)
    (a20 : PySem.W.nsIn K mainGlobals "_law_names" = some (some (.ref f20))) (l20 : K.lookup f20 = some ⟨oc20, od20, .func (PySem.W.fnOf "_law_names" "_law_names" (defArgs s_names) (defBody s_names) (defScope s_names) .none kV20 dc20 pm20 an20 cd20 ct20), sl20⟩) (g20 : PySem.W.codeIn K cd20 "_law_names" = true) (k20 : PySem.W.keepIn K (.ref f20) = true)
    (a21 : PySem.W.nsIn K mainGlobals "_law_name" = some (some (.ref f21))) (l21 : K.lookup f21 = some ⟨oc21, od21, .func (PySem.W.fnOf "_law_name" "_law_name" (defArgs s_name) (defBody s_name) (defScope s_name) .none kV21 dc21 pm21 an21 cd21 ct21), sl21⟩) (g21 : PySem.W.codeIn K cd21 "_law_name" = true) (k21 : PySem.W.keepIn K (.ref f21) = true)
    (a22 : PySem.W.nsIn K mainGlobals "_law_size" = some (some (.ref f22))) (l22 : K.lookup f22 = some ⟨oc22, od22, .func (PySem.W.fnOf "_law_size" "_law_size" (defArgs s_size) (defBody s_size) (defScope s_size) .none kV22 dc22 pm22 an22 cd22 ct22), sl22⟩) (g22 : PySem.W.codeIn K cd22 "_law_size" = true) (k22 : PySem.W.keepIn K (.ref f22) = true)
    (a23 : PySem.W.nsIn K mainGlobals "_law_said" = some (some (.ref f23))) (l23 : K.lookup f23 = some ⟨oc23, od23, .func (PySem.W.fnOf "_law_said" "_law_said" (defArgs s_said) (defBody s_said) (defScope s_said) .none kV23 dc23 pm23 an23 cd23 ct23), sl23⟩) (g23 : PySem.W.codeIn K cd23 "_law_said" = true) (k23 : PySem.W.keepIn K (.ref f23) = true)
    (a24 : PySem.W.nsIn K mainGlobals "_law_form" = some (some (.ref f24))) (l24 : K.lookup f24 = some ⟨oc24, od24, .func (PySem.W.fnOf "_law_form" "_law_form" (defArgs s_form) (defBody s_form) (defScope s_form) .none kV24 dc24 pm24 an24 cd24 ct24), sl24⟩) (g24 : PySem.W.codeIn K cd24 "_law_form" = true) (k24 : PySem.W.keepIn K (.ref f24) = true)
    (a25 : PySem.W.nsIn K mainGlobals "_law_row_done" = some (some (.ref f25))) (l25 : K.lookup f25 = some ⟨oc25, od25, .func (PySem.W.fnOf "_law_row_done" "_law_row_done" (defArgs s_row_done) (defBody s_row_done) (defScope s_row_done) .none kV25 dc25 pm25 an25 cd25 ct25), sl25⟩) (g25 : PySem.W.codeIn K cd25 "_law_row_done" = true) (k25 : PySem.W.keepIn K (.ref f25) = true)
    (a26 : PySem.W.nsIn K mainGlobals "law" = some (some (.ref f26))) (l26 : K.lookup f26 = some ⟨oc26, od26, .func (PySem.W.fnOf "law" "law" (defArgs s_law) (defBody s_law) (defScope s_law) .none kV26 dc26 pm26 an26 cd26 ct26), sl26⟩) (g26 : PySem.W.codeIn K cd26 "law" = true) (k26 : PySem.W.keepIn K (.ref f26) = true)
    (xm_CurveError : PySem.W.nsIn K mainGlobals "CurveError" = some (some (.ref qce)))
    (xm_NoNumber : PySem.W.nsIn K mainGlobals "NoNumber" = some (some (.ref qc0)))
    (xm_NoBack : PySem.W.nsIn K mainGlobals "NoBack" = some (some (.ref qc1)))
    (xm_NoJoin : PySem.W.nsIn K mainGlobals "NoJoin" = some (some (.ref qc2)))
    (xm_NoSign : PySem.W.nsIn K mainGlobals "NoSign" = some (some (.ref qc3)))
    (xm_NotPlain : PySem.W.nsIn K mainGlobals "NotPlain" = some (some (.ref qc4)))
    (xm_NoPlace : PySem.W.nsIn K mainGlobals "NoPlace" = some (some (.ref qc5)))
    (xm_BadPlace : PySem.W.nsIn K mainGlobals "BadPlace" = some (some (.ref qc6)))
    (xm_NoVertex : PySem.W.nsIn K mainGlobals "NoVertex" = some (some (.ref qc7)))
    (xm_Flat : PySem.W.nsIn K mainGlobals "Flat" = some (some (.ref qc8)))
    (xm_OffCurve : PySem.W.nsIn K mainGlobals "OffCurve" = some (some (.ref qc9)))
    (xm_NoPair : PySem.W.nsIn K mainGlobals "NoPair" = some (some (.ref qc10)))
    (xm_NoLine : PySem.W.nsIn K mainGlobals "NoLine" = some (some (.ref qc11)))
    (xm_NoText : PySem.W.nsIn K mainGlobals "NoText" = some (some (.ref qc12)))
    (xm_NoRow : PySem.W.nsIn K mainGlobals "NoRow" = some (some (.ref qc13)))
    (xm_NoName : PySem.W.nsIn K mainGlobals "NoName" = some (some (.ref qc14)))
    (xi_ce : PySem.W.kitOne K (.ref qc14) (.ref qce) = some true)
    (xi_0 : PySem.W.kitOne K (.ref qc14) (.ref qc0) = some false)
    (xi_1 : PySem.W.kitOne K (.ref qc14) (.ref qc1) = some false)
    (xi_2 : PySem.W.kitOne K (.ref qc14) (.ref qc2) = some false)
    (xi_3 : PySem.W.kitOne K (.ref qc14) (.ref qc3) = some false)
    (xi_4 : PySem.W.kitOne K (.ref qc14) (.ref qc4) = some false)
    (xi_5 : PySem.W.kitOne K (.ref qc14) (.ref qc5) = some false)
    (xi_6 : PySem.W.kitOne K (.ref qc14) (.ref qc6) = some false)
    (xi_7 : PySem.W.kitOne K (.ref qc14) (.ref qc7) = some false)
    (xi_8 : PySem.W.kitOne K (.ref qc14) (.ref qc8) = some false)
    (xi_9 : PySem.W.kitOne K (.ref qc14) (.ref qc9) = some false)
    (xi_10 : PySem.W.kitOne K (.ref qc14) (.ref qc10) = some false)
    (xi_11 : PySem.W.kitOne K (.ref qc14) (.ref qc11) = some false)
    (xi_12 : PySem.W.kitOne K (.ref qc14) (.ref qc12) = some false)
    (xi_13 : PySem.W.kitOne K (.ref qc14) (.ref qc13) = some false)
    (xi_14 : PySem.W.kitOne K (.ref qc14) (.ref qc14) = some true)
    (xi_ve : PySem.W.kitOne K (.ref qc14) (.type "ValueError") = some true)
    (xe0 : (PySem.W.clsIn K qc14).isSome = true)
    (xe1 : PySem.W.findIn K (.ref qc14) "__getattribute__" = some (some (.builtin "BaseException.__getattribute__")))
    (xe2 : PySem.W.findIn K (.ref qc14) "__getattr__" = some none)
    (xe3 : PySem.W.findIn K (.ref qc14) "__class__" = some (some (.builtin "object.__class__")))
    (xe4 : PySem.W.specialIn K (.builtin "object.__class__") "__get__" = some (some (.builtin "getset_descriptor.__get__")))
    (xe5 : PySem.W.takesIn K (.builtin "object.__class__") = some true)
    (xe6 : PySem.W.mroIn K qc14 (.type "object") = some true)
    (xe7 : PySem.W.mroIn K qc14 (.type "BaseException") = some true)
    (xx_NoName : PySem.W.excIn K qc14 bmVE "ValueError.__new__" = true)
    (xm_Desk : PySem.W.nsIn K mainGlobals "Desk" = some (some (.ref qcDesk)))
    (xcl1_Desk : PySem.W.plainGet K qcDesk Str.empty = true)
    (xcl2_Desk : PySem.W.hasDictIn K qcDesk = true)
    (xcl3_Desk : PySem.W.plainOver K qcDesk = true)
    (xcl4_Desk : PySem.W.findIn K (.ref qcDesk) "__setattr__" = some (some (.builtin "object.__setattr__")))
    (xmk1_Desk : PySem.W.makesIn K qcDesk = true)
    (xmk2_Desk : PySem.W.keepIn K (.ref qcDesk) = true)
    (xna_curves : PySem.W.findIn K (.ref qcDesk) "curves" = some none)
    (xmt1_Desk_init : PySem.W.findIn K (.ref qcDesk) "__init__" = some (some (.ref qiDesk_init)))
    (xmt2_Desk_init : PySem.W.isFn K (.ref qiDesk_init) = true)
    (xmt3_Desk_init : PySem.W.keepIn K (.ref qiDesk_init) = true)
    (xmt1_Desk_say : PySem.W.findIn K (.ref qcDesk) "say" = some (some (.ref qiDesk_say)))
    (xmt2_Desk_say : PySem.W.isFn K (.ref qiDesk_say) = true)
    (xmt3_Desk_say : PySem.W.keepIn K (.ref qiDesk_say) = true)
    (xmt1_Desk_keep : PySem.W.findIn K (.ref qcDesk) "keep" = some (some (.ref qiDesk_keep)))
    (xmt2_Desk_keep : PySem.W.isFn K (.ref qiDesk_keep) = true)
    (xmt3_Desk_keep : PySem.W.keepIn K (.ref qiDesk_keep) = true)
    (xmt1_Desk_kept : PySem.W.findIn K (.ref qcDesk) "kept" = some (some (.ref qiDesk_kept)))
    (xmt2_Desk_kept : PySem.W.isFn K (.ref qiDesk_kept) = true)
    (xmt3_Desk_kept : PySem.W.keepIn K (.ref qiDesk_kept) = true)
    (xm_FIGURES : PySem.W.nsIn K mainGlobals "FIGURES" = some (some (.str "0123456789" qkFIGURES)))
    (xm_LETTERS : PySem.W.nsIn K mainGlobals "LETTERS" = some (some (.ref qgLETTERS)))
    {odgLETTERS : Option Addr} {ngLETTERS : Nat} {slgLETTERS : Array (Option Value)} {tkgLETTERS_0 tkgLETTERS_1 tkgLETTERS_2 tkgLETTERS_3 tkgLETTERS_4 tkgLETTERS_5 : Tok}
    (xk_LETTERS : K.lookup qgLETTERS = some ⟨.type "tuple", odgLETTERS, .seq #[.str "xx" tkgLETTERS_0, .str "yy" tkgLETTERS_1, .str "zz" tkgLETTERS_2, .str "yz" tkgLETTERS_3, .str "xz" tkgLETTERS_4, .str "xy" tkgLETTERS_5] ngLETTERS, slgLETTERS⟩)
    (xm_END : PySem.W.nsIn K mainGlobals "END" = some (some (.str " = 0" qkEND)))
    (xm_NOUGHTS : PySem.W.nsIn K mainGlobals "NOUGHTS" = some (some (.str "0 = 0" qkNOUGHTS)))
    (xm_SMALL : PySem.W.nsIn K mainGlobals "SMALL" = some (some (.str "abcdefghijklmnopqrstuvwxyz" qkSMALL)))
    (xm_ROWS : PySem.W.nsIn K mainGlobals "ROWS" = some (some (.ref qgROWS)))
    (xk_ROWS : PyProof.Rows.KTD.tabLook (PyProof.Rows.KTD.datLooks fun b => List.lookup b K) (fun b => List.lookup b K) qgROWS tabROWS = true)
    (xi_ib : PySem.W.kitOne K (.type "int") (.type "bool") = some false)
    (xz_isinstance : PySem.W.nsIn K mainGlobals "isinstance" = some none)
    (xz_int : PySem.W.nsIn K mainGlobals "int" = some none)
    (xz_bool : PySem.W.nsIn K mainGlobals "bool" = some none)
    (xz_len : PySem.W.nsIn K mainGlobals "len" = some none)
    (xz_range : PySem.W.nsIn K mainGlobals "range" = some none)
    (xz_tuple : PySem.W.nsIn K mainGlobals "tuple" = some none)
    (xz_all : PySem.W.nsIn K mainGlobals "all" = some none)
    (xz_abs : PySem.W.nsIn K mainGlobals "abs" = some none)
    (xz_zip : PySem.W.nsIn K mainGlobals "zip" = some none)
    (xz_str : PySem.W.nsIn K mainGlobals "str" = some none)
    (xz_list : PySem.W.nsIn K mainGlobals "list" = some none)
    (xz_ValueError : PySem.W.nsIn K mainGlobals "ValueError" = some none)
    : ∃ fd : FuncData, (∀ (s : Shared) (v : Value), BindsTo s fd ⟨[v], []⟩ [("_law_script", v)]) ∧ ∀ base : Heap, K.In base → base.Ns mainGlobals mg → FnOk l.prog w K mg base CX0 9 fa fd ["_law_script"] (spLaw K) := by
  have e := hfa.symm.trans (PySem.W.mg_of X G a26)
  cases e
  have T : Txt K mg ⟨qce, qc0, qc1, qc2, qc3, qc4, qc5, qc6, qc7, qc8, qc9, qc10, qc11, qc12, qc13, qc14, qcDesk, qiDesk_init, qiDesk_say, qiDesk_keep, qiDesk_kept, qgLETTERS, qgROWS, qkFIGURES, qkEND, qkNOUGHTS, qkSMALL⟩ := ⟨PySem.W.mg_of X G xm_CurveError, PySem.W.mg_of X G xm_NoNumber, PySem.W.mg_of X G xm_NoBack, PySem.W.mg_of X G xm_NoJoin, PySem.W.mg_of X G xm_NoSign, PySem.W.mg_of X G xm_NotPlain, PySem.W.mg_of X G xm_NoPlace, PySem.W.mg_of X G xm_BadPlace, PySem.W.mg_of X G xm_NoVertex, PySem.W.mg_of X G xm_Flat, PySem.W.mg_of X G xm_OffCurve, PySem.W.mg_of X G xm_NoPair, PySem.W.mg_of X G xm_NoLine, PySem.W.mg_of X G xm_NoText, PySem.W.mg_of X G xm_NoRow, PySem.W.mg_of X G xm_NoName, xi_ce, xi_0, xi_1, xi_2, xi_3, xi_4, xi_5, xi_6, xi_7, xi_8, xi_9, xi_10, xi_11, xi_12, xi_13, xi_14, xi_ve, xe0, xe1, xe2, xe3, xe4, xe5, xe6, xe7, xx_NoName, PySem.W.mg_of X G xm_Desk, xcl1_Desk, xcl2_Desk, xcl3_Desk, xcl4_Desk, xmk1_Desk, xmk2_Desk, xna_curves, xmt1_Desk_init, xmt2_Desk_init, xmt3_Desk_init, xmt1_Desk_say, xmt2_Desk_say, xmt3_Desk_say, xmt1_Desk_keep, xmt2_Desk_keep, xmt3_Desk_keep, xmt1_Desk_kept, xmt2_Desk_kept, xmt3_Desk_kept, PySem.W.mg_of X G xm_FIGURES, PySem.W.mg_of X G xm_LETTERS, TupK.mk xk_LETTERS (by show 6 ≤ sizeLine; decide) (.cons ⟨_, rfl⟩ (.cons ⟨_, rfl⟩ (.cons ⟨_, rfl⟩ (.cons ⟨_, rfl⟩ (.cons ⟨_, rfl⟩ (.cons ⟨_, rfl⟩ .nil)))))), PySem.W.mg_of X G xm_END, PySem.W.mg_of X G xm_NOUGHTS, PySem.W.mg_of X G xm_SMALL, PySem.W.mg_of X G xm_ROWS, xk_ROWS, xi_ib, PySem.W.mg_none_of X G xz_isinstance, PySem.W.mg_none_of X G xz_int, PySem.W.mg_none_of X G xz_bool, PySem.W.mg_none_of X G xz_len, PySem.W.mg_none_of X G xz_range, PySem.W.mg_none_of X G xz_tuple, PySem.W.mg_none_of X G xz_all, PySem.W.mg_none_of X G xz_abs, PySem.W.mg_none_of X G xz_zip, PySem.W.mg_none_of X G xz_str, PySem.W.mg_none_of X G xz_list, PySem.W.mg_none_of X G xz_ValueError⟩
  have F1 := fun_mk (st := s_show_term) l1 g1 k1
  have b1 := F1.binds (ps := ["coefficient", "letters"]) fun _ _ _ _ _ _ => byL2 fun _ _ => rfl
  have F2 := fun_mk (st := s_show_sum) l2 g2 k2
  have b2 := F2.binds (ps := ["Q"]) fun _ _ _ _ _ _ => byL1 fun _ => rfl
  have F3 := fun_mk (st := s_are_figures) l3 g3 k3
  have b3 := F3.binds (ps := ["word", "most"]) fun _ _ _ _ _ _ => byL2 fun _ _ => rfl
  have F4 := fun_mk (st := s_read_size) l4 g4 k4
  have b4 := F4.binds (ps := ["words"]) fun _ _ _ _ _ _ => byL1 fun _ => rfl
  have F5 := fun_mk (st := s_read_coefficient) l5 g5 k5
  have b5 := F5.binds (ps := ["words"]) fun _ _ _ _ _ _ => byL1 fun _ => rfl
  have F6 := fun_mk (st := s_terms_of) l6 g6 k6
  have b6 := F6.binds (ps := ["shown"]) fun _ _ _ _ _ _ => byL1 fun _ => rfl
  have F7 := fun_mk (st := s_read_sum) l7 g7 k7
  have b7 := F7.binds (ps := ["text"]) fun _ _ _ _ _ _ => byL1 fun _ => rfl
  have F8 := fun_mk (st := s_size_of) l8 g8 k8
  have b8 := F8.binds (ps := ["Q"]) fun _ _ _ _ _ _ => byL1 fun _ => rfl
  have F9 := fun_mk (st := s_Desk_init) l9 g9 k9
  have b9 := F9.binds (ps := ["self"]) fun _ _ _ _ _ _ => byL1 fun _ => rfl
  have F10 := fun_mk (st := s_Desk_kept) l10 g10 k10
  have b10 := F10.binds (ps := ["self", "name"]) fun _ _ _ _ _ _ => byL2 fun _ _ => rfl
  have F11 := fun_mk (st := s_Desk_keep) l11 g11 k11
  have b11 := F11.binds (ps := ["self", "name", "text"]) fun _ _ _ _ _ _ => byL3 fun _ _ _ => rfl
  have F12 := fun_mk (st := s_names_of_row) l12 g12 k12
  have b12 := F12.binds (ps := ["words"]) fun _ _ _ _ _ _ => byL1 fun _ => rfl
  have F13 := fun_mk (st := s_answer_to) l13 g13 k13
  have b13 := F13.binds (ps := ["word", "totals", "numbers"]) fun _ _ _ _ _ _ => byL3 fun _ _ _ => rfl
  have F14 := fun_mk (st := s_Desk_say) l14 g14 k14
  have b14 := F14.binds (ps := ["self", "row"]) fun _ _ _ _ _ _ => byL2 fun _ _ => rfl
  have F15 := fun_mk (st := s_cell_at) l15 g15 k15
  have b15 := F15.binds (ps := ["_law_script", "_law_k"]) fun _ _ _ _ _ _ => byL2 fun _ _ => rfl
  have F16 := fun_mk (st := s_letters) l16 g16 k16
  have b16 := F16.binds (ps := []) fun _ _ _ _ _ _ => byL0 rfl
  have F17 := fun_mk (st := s_term) l17 g17 k17
  have b17 := F17.binds (ps := ["_law_number", "_law_letters_here"]) fun _ _ _ _ _ _ => byL2 fun _ _ => rfl
  have F18 := fun_mk (st := s_shown) l18 g18 k18
  have b18 := F18.binds (ps := ["_law_form_here", "_law_order"]) fun _ _ _ _ _ _ => byL2 fun _ _ => rfl
  have F19 := fun_mk (st := s_alone) l19 g19 k19
  have b19 := F19.binds (ps := ["_law_e"]) fun _ _ _ _ _ _ => byL1 fun _ => rfl
  have F20 := fun_mk (st := s_names) l20 g20 k20
  have b20 := F20.binds (ps := ["_law_cell"]) fun _ _ _ _ _ _ => byL1 fun _ => rfl
  have F21 := fun_mk (st := s_name) l21 g21 k21
  have b21 := F21.binds (ps := ["_law_number", "_law_names_here"]) fun _ _ _ _ _ _ => byL2 fun _ _ => rfl
  have F22 := fun_mk (st := s_size) l22 g22 k22
  have b22 := F22.binds (ps := ["_law_form_here"]) fun _ _ _ _ _ _ => byL1 fun _ => rfl
  have F23 := fun_mk (st := s_said) l23 g23 k23
  have b23 := F23.binds (ps := ["_law_desk", "_law_row"]) fun _ _ _ _ _ _ => byL2 fun _ _ => rfl
  have F24 := fun_mk (st := s_form) l24 g24 k24
  have b24 := F24.binds (ps := ["_law_number"]) fun _ _ _ _ _ _ => byL1 fun _ => rfl
  have F25 := fun_mk (st := s_row_done) l25 g25 k25
  have b25 := F25.binds (ps := ["_law_desk", "_law_known", "_law_name_here", "_law_number"]) fun _ _ _ _ _ _ => byL4 fun _ _ _ _ => rfl
  have F26 := fun_mk (st := s_law) l26 g26 k26
  refine ⟨PySem.W.fnOf "law" "law" (defArgs s_law) (defBody s_law) (defScope s_law) .none kV26 dc26 pm26 an26 cd26 ct26, fun s v => .of_eq rfl, fun base _ _ => ?_⟩
  have H_show_term : Has l.prog w K mg base CX0 1 "show_term" ["coefficient", "letters"] (spTerm) := ⟨f1, _, ok_show_term F1 T , b1, k1, PySem.W.mg_of X G a1⟩
  have H_show_sum : Has l.prog w K mg base CX0 2 "show_sum" ["Q"] (spShow) := ⟨f2, _, ok_show_sum F2 T H_show_term, b2, k2, PySem.W.mg_of X G a2⟩
  have H_are_figures : Has l.prog w K mg base CX0 1 "are_figures" ["word", "most"] (spFig) := ⟨f3, _, ok_are_figures F3 T , b3, k3, PySem.W.mg_of X G a3⟩
  have H_read_size : Has l.prog w K mg base CX0 2 "read_size" ["words"] (spSize K) := ⟨f4, _, ok_read_size F4 T H_are_figures, b4, k4, PySem.W.mg_of X G a4⟩
  have H_read_coefficient : Has l.prog w K mg base CX0 3 "read_coefficient" ["words"] (spCoef K) := ⟨f5, _, ok_read_coefficient F5 T H_read_size, b5, k5, PySem.W.mg_of X G a5⟩
  have H_terms_of : Has l.prog w K mg base CX0 1 "terms_of" ["shown"] (spTerms) := ⟨f6, _, ok_terms_of F6 T , b6, k6, PySem.W.mg_of X G a6⟩
  have H_read_sum : Has l.prog w K mg base CX0 4 "read_sum" ["text"] (spRead) := ⟨f7, _, ok_read_sum F7 T H_terms_of H_read_coefficient, b7, k7, PySem.W.mg_of X G a7⟩
  have H_size_of : Has l.prog w K mg base CX0 1 "size_of" ["Q"] (spSz) := ⟨f8, _, ok_size_of F8 T , b8, k8, PySem.W.mg_of X G a8⟩
  have H_Desk_init : HasM l.prog w K mg base CX0 1 qiDesk_init ["self"] (spInit qcDesk) := ⟨_, ok_Desk_init F9 T , b9⟩
  have H_Desk_kept : HasM l.prog w K mg base (XF l.prog w) 1 qiDesk_kept ["self", "name"] (spKept qcDesk qc14) := ⟨_, ok_Desk_kept F10 T , b10⟩
  have H_Desk_keep : HasM l.prog w K mg base (XF l.prog w) 5 qiDesk_keep ["self", "name", "text"] (spKeep qcDesk qc14) := ⟨_, ok_Desk_keep F11 T H_read_sum, b11⟩
  have H_names_of_row : Has l.prog w K mg base CX0 1 "names_of_row" ["words"] (spRowN K) := ⟨f12, _, ok_names_of_row F12 T , b12, k12, PySem.W.mg_of X G a12⟩
  have H_answer_to : Has l.prog w K mg base CX0 3 "answer_to" ["word", "totals", "numbers"] (spAns K) := ⟨f13, _, ok_answer_to F13 T H_show_sum H_size_of, b13, k13, PySem.W.mg_of X G a13⟩
  have H_Desk_say : HasM l.prog w K mg base (XF l.prog w) 6 qiDesk_say ["self", "row"] (spSay qcDesk qc14) := ⟨_, ok_Desk_say F14 T H_Desk_keep H_Desk_kept H_names_of_row H_answer_to, b14⟩
  have H_cell_at : Has l.prog w K mg base CX0 1 "_law_cell_at" ["_law_script", "_law_k"] (spCell K) := ⟨f15, _, ok_cell_at F15 T , b15, k15, PySem.W.mg_of X G a15⟩
  have H_letters : Has l.prog w K mg base CX0 1 "_law_letters" [] (spLetters) := ⟨f16, _, ok_letters F16 T , b16, k16, PySem.W.mg_of X G a16⟩
  have H_term : Has l.prog w K mg base CX0 1 "_law_term" ["_law_number", "_law_letters_here"] (spTm) := ⟨f17, _, ok_term F17 T , b17, k17, PySem.W.mg_of X G a17⟩
  have H_shown : Has l.prog w K mg base CX0 2 "_law_shown" ["_law_form_here", "_law_order"] (spShown K) := ⟨f18, _, ok_shown F18 T H_term H_letters, b18, k18, PySem.W.mg_of X G a18⟩
  have H_alone : HasQ l.prog w K mg base 1 "_law_alone" ["_law_e"] (spAlone qc14) := ⟨f19, _, ok_alone F19 T , b19, k19, PySem.W.mg_of X G a19⟩
  have H_names : Has l.prog w K mg base CX0 1 "_law_names" ["_law_cell"] (spNms) := ⟨f20, _, ok_names F20 T , b20, k20, PySem.W.mg_of X G a20⟩
  have H_name : Has l.prog w K mg base CX0 1 "_law_name" ["_law_number", "_law_names_here"] (spNme) := ⟨f21, _, ok_name F21 T , b21, k21, PySem.W.mg_of X G a21⟩
  have H_size : Has l.prog w K mg base CX0 1 "_law_size" ["_law_form_here"] (spLsz) := ⟨f22, _, ok_size F22 T , b22, k22, PySem.W.mg_of X G a22⟩
  have H_said : Has l.prog w K mg base CX0 7 "_law_said" ["_law_desk", "_law_row"] (spSaid qcDesk) := ⟨f23, _, ok_said F23 T H_Desk_say H_alone, b23, k23, PySem.W.mg_of X G a23⟩
  have H_form : Has l.prog w K mg base CX0 1 "_law_form" ["_law_number"] (spForm) := ⟨f24, _, ok_form F24 T , b24, k24, PySem.W.mg_of X G a24⟩
  have H_row_done : Has l.prog w K mg base CX0 8 "_law_row_done" ["_law_desk", "_law_known", "_law_name_here", "_law_number"] (spRow qcDesk) := ⟨f25, _, ok_row_done F25 T H_form H_said H_shown H_size, b25, k25, PySem.W.mg_of X G a25⟩
  exact ok_law F26 T H_names H_cell_at H_Desk_init H_row_done H_name H_said
theorem walk {l : PySem.W.OpenLaw} {q : Program} {loose : List Str} {XP : (Str → Option Value) → Heap → Prop} {YP : World → Heap → Prop} {d : DefRec} {K : Params → PySem.W.Frag} (hn : l.most = some 63) (hdf : d.params.defaults = [])
    (hY : ∀ (w : World) (h : Heap), YP w h → (K w.params).In h)
    (F : ∀ (w : World) (mg : Str → Option Value) (fa : Addr) (h : Heap), (K w.params).In h → h.Ns mainGlobals mg → mg d.name = some (.ref fa) →
      ∃ fd : FuncData, (∀ (s : Shared) (u : Value), BindsTo s fd ⟨[u], []⟩ [("_law_script", u)]) ∧ ∀ base : Heap, (K w.params).In base → base.Ns mainGlobals mg → FnOk l.prog w (K w.params) mg base CX0 9 fa fd ["_law_script"] (spLaw (K w.params))) :
    PySem.W.WalkO q loose XP YP l.row.toRowW d [] (fun f vs => PySem.call f vs) :=
  L2.walk_b (n := 63) (k := 9) (x := "_law_script") (CX := fun _ => CX0) (sp := fun w => spLaw (K w.params)) hn (by decide) hdf ⟨rfl, by decide, by decide⟩ hY F (fun _ _ a ns hl hb hS => ⟨a, ns, rfl, hS, hl, hb, fun _ => rfl⟩) fun _ _ _ _ _ z => z
end K63
def PySem.W.Fast.tw6299050887934952755 : Unit := ()
def PySem.W.Fast.tw13031154832064413210 : Unit := ()
def PySem.W.Fast.tw9551774419950651346 : Unit := ()
def PySem.W.Fast.tw16542618040039886067 : Unit := ()
def PySem.W.Fast.tw4072367842388411856 : Unit := ()
def PySem.W.Fast.tw13840696737987697082 : Unit := ()
def PySem.W.Fast.tw318531645567238270 : Unit := ()
def PySem.W.Fast.tw17178305379103477951 : Unit := ()
def PySem.W.Fast.tw8454941191903075837 : Unit := ()
def PySem.W.Fast.tw9974042111354335605 : Unit := ()
def PySem.W.Fast.tw7410151045352793330 : Unit := ()
def PySem.W.Fast.tw13933552029580709564 : Unit := ()
def PySem.W.Fast.tw5364201098480556574 : Unit := ()
def PySem.W.Fast.tw15061915335710775524 : Unit := ()
def PySem.W.Fast.tw5920538184498068407 : Unit := ()
def PySem.W.Fast.tw9422960701772517575 : Unit := ()
def PySem.W.Fast.tw295028639166652107 : Unit := ()
def PySem.W.Fast.tw7047050334451087652 : Unit := ()
def PySem.W.Fast.tw3335145203039662087 : Unit := ()
def PySem.W.Fast.tw8351897649734202095 : Unit := ()
def PySem.W.Fast.tw6899129665280894576 : Unit := ()
def PySem.W.Fast.tw10980780537745960885 : Unit := ()
def PySem.W.Fast.tw3191984724898140525 : Unit := ()
def PySem.W.Fast.tw6583362013802243946 : Unit := ()
def PySem.W.Fast.tw15521352550666212767 : Unit := ()
def PySem.W.Fast.tw153678030517218561 : Unit := ()
def PySem.W.Fast.tw14865995958835471277 : Unit := ()
def PySem.W.Fast.tw7069555932844017639 : Unit := ()
def PySem.W.Fast.tw8644074759911082977 : Unit := ()
def PySem.W.Fast.tw9812042310402551440 : Unit := ()
def PySem.W.Fast.tw6657456994214635137 : Unit := ()
def PySem.W.Fast.tw9575591328721227256 : Unit := ()
def PySem.W.Fast.tw7199840985045910583 : Unit := ()
def PySem.W.Fast.tw7792029617293633274 : Unit := ()
def PySem.W.Fast.tw2527254698311646122 : Unit := ()
def PySem.W.Fast.tw17676468947286612599 : Unit := ()
def PySem.W.Fast.tw4482162332190452800 : Unit := ()
def PySem.W.Fast.tw7948561318003385813 : Unit := ()
def PySem.W.Fast.tw5440362652207005920 : Unit := ()
def PySem.W.Fast.tw11801736250391647555 : Unit := ()
def PySem.W.Fast.tw14721976809879111489 : Unit := ()
def PySem.W.Fast.tw15467465776577998695 : Unit := ()
def PySem.W.Fast.tw3734738655320477248 : Unit := ()
def PySem.W.Fast.tw5827155392016917370 : Unit := ()
def PySem.W.Fast.tw16849650647992763461 : Unit := ()
def PySem.W.Fast.tw9467806356646835459 : Unit := ()
def PySem.W.Fast.tw14960194547786487889 : Unit := ()
def PySem.W.Fast.tw13964168062862367654 : Unit := ()
def PySem.W.Fast.tw16799946040936127604 : Unit := ()
def PySem.W.Fast.tw17861943267849073269 : Unit := ()
def PySem.W.Fast.tw15334860829886845482 : Unit := ()
def PySem.W.Fast.tw2235565045118199838 : Unit := ()
def PySem.W.Fast.tw15665377327141988530 : Unit := ()
def PySem.W.Fast.tw5002671705679188532 : Unit := ()
def PySem.W.Fast.tw8316900177642300044 : Unit := ()
def PySem.W.Fast.tw12906221412840089834 : Unit := ()
def PySem.W.Fast.tw4919276393510734364 : Unit := ()
def PySem.W.Fast.tw5365144020202744848 : Unit := ()
open PySem PySem.W PyProof.Rows
set_option maxRecDepth 100000 in
set_option maxHeartbeats 0 in
theorem PySem.Challenge.cw_conicplaces_k63_curves_by_names_holds : PySem.Challenge.rw_conicplaces_k63_curves_by_names.Holds := by
  w_on; o_law; k_head; (case hw => w_witness2)
  k_fill
  refine K63.walk (l := PySem.Challenge.rw_conicplaces_k63_curves_by_names) rfl rfl (fun w h Y => by first | exact PySem.W.kIn_of Y | exact PySem.W.km_in_of Y) ?F
  case F =>
    intro w mg fa h KX G hmg
    refine' K63.all_mk KX G hmg ?a1 ?l1 ?g1 ?k1 ?a2 ?l2 ?g2 ?k2 ?a3 ?l3 ?g3 ?k3 ?a4 ?l4 ?g4 ?k4 ?a5 ?l5 ?g5 ?k5 ?a6 ?l6 ?g6 ?k6 ?a7 ?l7 ?g7 ?k7 ?a8 ?l8 ?g8 ?k8 ?o9 ?a9 ?l9 ?g9 ?k9 ?o10 ?a10 ?l10 ?g10 ?k10 ?o11 ?a11 ?l11 ?g11 ?k11 ?a12 ?l12 ?g12 ?k12 ?a13 ?l13 ?g13 ?k13 ?o14 ?a14 ?l14 ?g14 ?k14 ?a15 ?l15 ?g15 ?k15 ?a16 ?l16 ?g16 ?k16 ?a17 ?l17 ?g17 ?k17 ?a18 ?l18 ?g18 ?k18 ?a19 ?l19 ?g19 ?k19 ?a20 ?l20 ?g20 ?k20 ?a21 ?l21 ?g21 ?k21 ?a22 ?l22 ?g22 ?k22 ?a23 ?l23 ?g23 ?k23 ?a24 ?l24 ?g24 ?k24 ?a25 ?l25 ?g25 ?k25 ?a26 ?l26 ?g26 ?k26 ?xm_CurveError ?xm_NoNumber ?xm_NoBack ?xm_NoJoin ?xm_NoSign ?xm_NotPlain ?xm_NoPlace ?xm_BadPlace ?xm_NoVertex ?xm_Flat ?xm_OffCurve ?xm_NoPair ?xm_NoLine ?xm_NoText ?xm_NoRow ?xm_NoName ?xi_ce ?xi_0 ?xi_1 ?xi_2 ?xi_3 ?xi_4 ?xi_5 ?xi_6 ?xi_7 ?xi_8 ?xi_9 ?xi_10 ?xi_11 ?xi_12 ?xi_13 ?xi_14 ?xi_ve ?xe0 ?xe1 ?xe2 ?xe3 ?xe4 ?xe5 ?xe6 ?xe7 ?xx_NoName ?xm_Desk ?xcl1_Desk ?xcl2_Desk ?xcl3_Desk ?xcl4_Desk ?xmk1_Desk ?xmk2_Desk ?xna_curves ?xmt1_Desk_init ?xmt2_Desk_init ?xmt3_Desk_init ?xmt1_Desk_say ?xmt2_Desk_say ?xmt3_Desk_say ?xmt1_Desk_keep ?xmt2_Desk_keep ?xmt3_Desk_keep ?xmt1_Desk_kept ?xmt2_Desk_kept ?xmt3_Desk_kept ?xm_FIGURES ?xm_LETTERS ?xk_LETTERS ?xm_END ?xm_NOUGHTS ?xm_SMALL ?xm_ROWS ?xk_ROWS ?xi_ib ?xz_isinstance ?xz_int ?xz_bool ?xz_len ?xz_range ?xz_tuple ?xz_all ?xz_abs ?xz_zip ?xz_str ?xz_list ?xz_ValueError
    (case a1 => k_is)
    (case l1 => k_is)
    (case g1 => k_is)
    (case k1 => k_is)
    (case a2 => k_is)
    (case l2 => k_is)
    (case g2 => k_is)
    (case k2 => k_is)
    (case a3 => k_is)
    (case l3 => k_is)
    (case g3 => k_is)
    (case k3 => k_is)
    (case a4 => k_is)
    (case l4 => k_is)
    (case g4 => k_is)
    (case k4 => k_is)
    (case a5 => k_is)
    (case l5 => k_is)
    (case g5 => k_is)
    (case k5 => k_is)
    (case a6 => k_is)
    (case l6 => k_is)
    (case g6 => k_is)
    (case k6 => k_is)
    (case a7 => k_is)
    (case l7 => k_is)
    (case g7 => k_is)
    (case k7 => k_is)
    (case a8 => k_is)
    (case l8 => k_is)
    (case g8 => k_is)
    (case k8 => k_is)
    (case a12 => k_is)
    (case l12 => k_is)
    (case g12 => k_is)
    (case k12 => k_is)
    (case a13 => k_is)
    (case l13 => k_is)
    (case g13 => k_is)
    (case k13 => k_is)
    (case a15 => k_is)
    (case l15 => k_is)
    (case g15 => k_is)
    (case k15 => k_is)
    (case a16 => k_is)
    (case l16 => k_is)
    (case g16 => k_is)
    (case k16 => k_is)
    (case a17 => k_is)
    (case l17 => k_is)
    (case g17 => k_is)
    (case k17 => k_is)
    (case a18 => k_is)
    (case l18 => k_is)
    (case g18 => k_is)
    (case k18 => k_is)
    (case a19 => k_is)
    (case l19 => k_is)
    (case g19 => k_is)
    (case k19 => k_is)
    (case a20 => k_is)
    (case l20 => k_is)
    (case g20 => k_is)
    (case k20 => k_is)
    (case a21 => k_is)
    (case l21 => k_is)
    (case g21 => k_is)
    (case k21 => k_is)
    (case a22 => k_is)
    (case l22 => k_is)
    (case g22 => k_is)
    (case k22 => k_is)
    (case a23 => k_is)
    (case l23 => k_is)
    (case g23 => k_is)
    (case k23 => k_is)
    (case a24 => k_is)
    (case l24 => k_is)
    (case g24 => k_is)
    (case k24 => k_is)
    (case a25 => k_is)
    (case l25 => k_is)
    (case g25 => k_is)
    (case k25 => k_is)
    (case a26 => k_is)
    (case l26 => k_is)
    (case g26 => k_is)
    (case k26 => k_is)
    (case xm_CurveError => k_is)
    (case xm_NoNumber => k_is)
    (case xm_NoBack => k_is)
    (case xm_NoJoin => k_is)
    (case xm_NoSign => k_is)
    (case xm_NotPlain => k_is)
    (case xm_NoPlace => k_is)
    (case xm_BadPlace => k_is)
    (case xm_NoVertex => k_is)
    (case xm_Flat => k_is)
    (case xm_OffCurve => k_is)
    (case xm_NoPair => k_is)
    (case xm_NoLine => k_is)
    (case xm_NoText => k_is)
    (case xm_NoRow => k_is)
    (case xm_NoName => k_is)
    (case xm_Desk => k_is)
    (case xm_FIGURES => k_is)
    (case xm_LETTERS => k_is)
    (case xm_END => k_is)
    (case xm_NOUGHTS => k_is)
    (case xm_SMALL => k_is)
    (case xm_ROWS => k_is)
    (case o9 => k_is)
    (case a9 => k_is)
    (case l9 => k_is)
    (case g9 => k_is)
    (case k9 => k_is)
    (case o10 => k_is)
    (case a10 => k_is)
    (case l10 => k_is)
    (case g10 => k_is)
    (case k10 => k_is)
    (case o11 => k_is)
    (case a11 => k_is)
    (case l11 => k_is)
    (case g11 => k_is)
    (case k11 => k_is)
    (case o14 => k_is)
    (case a14 => k_is)
    (case l14 => k_is)
    (case g14 => k_is)
    (case k14 => k_is)
    (case xi_ce => kernel_rfl)
    (case xi_0 => kernel_rfl)
    (case xi_1 => kernel_rfl)
    (case xi_2 => kernel_rfl)
    (case xi_3 => kernel_rfl)
    (case xi_4 => kernel_rfl)
    (case xi_5 => kernel_rfl)
    (case xi_6 => kernel_rfl)
    (case xi_7 => kernel_rfl)
    (case xi_8 => kernel_rfl)
    (case xi_9 => kernel_rfl)
    (case xi_10 => kernel_rfl)
    (case xi_11 => kernel_rfl)
    (case xi_12 => kernel_rfl)
    (case xi_13 => kernel_rfl)
    (case xi_14 => kernel_rfl)
    (case xi_ve => kernel_rfl)
    (case xe0 => kernel_rfl)
    (case xe1 => kernel_rfl)
    (case xe2 => kernel_rfl)
    (case xe3 => kernel_rfl)
    (case xe4 => kernel_rfl)
    (case xe5 => kernel_rfl)
    (case xe6 => kernel_rfl)
    (case xe7 => kernel_rfl)
    (case xx_NoName => kernel_rfl)
    (case xcl1_Desk => kernel_rfl)
    (case xcl2_Desk => kernel_rfl)
    (case xcl3_Desk => kernel_rfl)
    (case xcl4_Desk => kernel_rfl)
    (case xmk1_Desk => kernel_rfl)
    (case xmk2_Desk => kernel_rfl)
    (case xna_curves => kernel_rfl)
    (case xmt1_Desk_init => kernel_rfl)
    (case xmt2_Desk_init => kernel_rfl)
    (case xmt3_Desk_init => kernel_rfl)
    (case xmt1_Desk_say => kernel_rfl)
    (case xmt2_Desk_say => kernel_rfl)
    (case xmt3_Desk_say => kernel_rfl)
    (case xmt1_Desk_keep => kernel_rfl)
    (case xmt2_Desk_keep => kernel_rfl)
    (case xmt3_Desk_keep => kernel_rfl)
    (case xmt1_Desk_kept => kernel_rfl)
    (case xmt2_Desk_kept => kernel_rfl)
    (case xmt3_Desk_kept => kernel_rfl)
    (case xk_LETTERS => k_is)
    (case xk_ROWS => kernel_rfl)
    (case xi_ib => kernel_rfl)
    (case xz_isinstance => k_is)
    (case xz_int => k_is)
    (case xz_bool => k_is)
    (case xz_len => k_is)
    (case xz_range => k_is)
    (case xz_tuple => k_is)
    (case xz_all => k_is)
    (case xz_abs => k_is)
    (case xz_zip => k_is)
    (case xz_str => k_is)
    (case xz_list => k_is)
    (case xz_ValueError => k_is)
