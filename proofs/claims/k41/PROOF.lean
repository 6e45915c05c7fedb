import PyProof.Rows.All
import Wide.All
import OpenK.AllK
import Wide.FinOn
import Lean
import PyProof.EqAt
import PyProof.EqKinds
import PyProof.TupleCall
import PyProof.CompFree
import PyProof.ConsumeWalk
import PyProof.CompMap
import KE.IntBitsLaws
import KE.KDictSum
import PyProof.Rows.EqDataRows
import PyProof.Rows.SortWalk
import KE.KLcPair
import PyProof.Cells
import PyProof.SumAny
import PyProof.ZipIter
import PyProof.EnumIter
import PyProof.Rows.ZipGen
import PyProof.Rows.FactsT2
import PyProof.WalkInts
import PyProof.SeqI3
import KE.KEqSeq
import PyProof.Rows.Range3
import PyProof.Rows.ChunkLeaf
import PyProof.InstStoreFacts
import PyProof.ExcClass3
import PyProof.ExcInit
import PyProof.Rows.InDataRows
import PySem.Challenge.RW_conicplaces_k41_places_of_curves
set_option Elab.async false
set_option linter.all false
set_option maxRecDepth 100000
set_option maxHeartbeats 4000000
local macro_rules
 | `(tactic|omega)=>`(tactic|lia)
def aaa:=@PySem.wpAny_bind
def aab:=@PySem.Heap.get?_push_of_some
def aac:=@Option.some.inj
def aad:=@PySem.wpAny_pure
def aae:=@PySem.Heap.lt_size
def aaf:=@List.mem_cons
def aag:=@Nat.le_trans
def aah:=@Int.dvd_trans
def aai:=@Nat.le_refl
def aaj:=@Bool.false_ne_true
def aak:=@Nat.lt_of_lt_of_le
def aal:=@Nat.ne_of_lt
def aam:=@List.mem_append_right
def aan:=@Int.pow_succ
def aao:=@Int.mul_comm
def aap:=@PySem.Heap.get?_push_size
def aaq:=@Int.mul_assoc
def aar:=@if_neg
def aas:=@List.length_map
def aat:=@List.getElem?_eq_getElem
def aau:=@List.size_toArray
def aav:=@PySem.wpAny_mono
def aaw:=@Int.dvd_mul_left
def aax:=@PySem.Heap.size_push
def aay:=@Int.mul_ne_zero
def aaz:=@if_pos
def aaA:=@List.getD_eq_getElem?_getD
def aaB:=@List.getElem?_map
def aaC:=@Int.natAbs_mul
def aaD:=@Array.getElem?_eq_getElem
def aaE:=@Int.emod_eq_emod_iff_emod_sub_eq_zero
def aaF:=@List.not_mem_nil
def aaG:=@PySem.wpAny_field
def aaH:=@Int.dvd_of_emod_eq_zero
def aaI:=@Int.mul_zero
def aaJ:=@PySem.wpAny_callSpecial?_slot
def aaK:=@Int.mul_le_mul_of_nonneg_left
def aaL:=@List.mem_cons_of_mem
def aaM:=@Nat.lt_succ_of_lt
def aaN:=@Int.one_mul
def aaO:=@Int.pow_zero
def aaP:=@Int.eq_of_mul_eq_mul_left
def aaQ:=@Classical.byContradiction
def aaR:=@List.mem_cons_self
def aaS:=@List.map_append
def aaT:=@List.length_append
def aaU:=@Array.length_toList
def aaV:=@List.mem_of_getElem?
def aaW:=@PySem.wpAny_holding
def aaX:=@PySem.Heap.SameBut.update
def aaY:=@List.mem_singleton
def aaZ:=@PySem.PassesOwn.never
def aa0:=@PySem.Obj.data_mapFields
def aa1:=@PySem.wpAny_newObj_type
def aa2:=@congrArg
def aa3:=@PySem.wpAny_call_entry
def aa4:=@PySem.Heap.get?_update_self
def aa5:=@decide_eq_false
def aa6:=@Int.natAbs_dvd_natAbs
def aa7:=@Int.dvd_mul_right
def aa8:=@List.length_cons
def aa9:=@List.mem_append
def aba:=@Int.emod_nonneg
def abb:=@List.mem_map
def abc:=@PySem.Heap.get?_update_other
def abd:=@Nat.zero_le
def abe:=@Nat.coprime_iff_gcd_eq_one
def abf:=@PySem.lookup_relabel_local
def abg:=@Int.emod_eq_zero_of_dvd
def abh:=@PySem.wpAny_seqItems
def abi:=@List.append_nil
def abj:=@Int.mul_le_mul_of_nonneg_right
def abk:=@Nat.le_succ
def abl:=@Int.mul_one
def abm:=@List.getElem?_eq_some_iff
def abn:=@Int.toNat_natCast
def abo:=@Nat.lt_irrefl
def abp:=@PySem.wpAny_standAt
def abq:=@PySem.mem_of_lookup
def abr:=@decide_eq_true
def abt:=@PySem.W.mg_none_of
def abu:=@Int.dvd_neg
def abv:=@Nat.lt_of_le_of_lt
def abw:=@Int.lt_or_gt_of_ne
def abx:=@Int.le_of_lt
def aby:=@Int.mul_le_mul
def abz:=@List.take_length
def abA:=@PySem.wpAny_setField_rec
def abB:=@PySem.wpAny_setField
def abC:=@Nat.pow_succ
def abD:=@Int.mul_fdiv_cancel_left
def abE:=@Int.mul_emod
def abF:=@PySem.wpAny_attempt
def abG:=@PySem.Obj.isFreed_of_fields
def abH:=@PySem.Heap.get?_push_at
def abI:=@PySem.F.plainAttrs_list
def abJ:=@Int.emod_lt_of_pos
def abK:=@Int.dvd_of_mul_dvd_mul_left
def abL:=@Bool.false_eq_true
def abM:=@List.any_eq_true
def abN:=@or_false
def abO:=@Int.mul_neg_of_pos_of_neg
def abP:=@PySem.F.slot_tuple_iterator_next
def abQ:=@List.mem_filter
def abR:=@Int.natCast_mul
def abS:=@Option.isSome_iff_exists
def abT:=@List.pairwise_cons
def abU:=@List.length_take
def abV:=@Nat.pow_le_pow_right
def abW:=@PySem.wpAny_pyIter_tuple
def abX:=@Nat.ne_of_gt
def abY:=@Nat.mul_le_mul
def abZ:=@Nat.add_le_add
def ab0:=@List.mem_range
def ab1:=@beq_iff_eq
def ab2:=@List.mem_range'_1
def ab3:=@Int.emod_eq_of_lt
def ab4:=@Int.pow_add
def ab5:=@Int.mul_eq_zero
def ab6:=@Array.getElem?_eq_some_iff
def ab7:=@List.filter_cons
def ab8:=@Bool.and_eq_true
def ab9:=@Nat.le_of_dvd
def aca:=@List.take_succ
def acb:=@PySem.wpAny_rule
def acd:=@List.nodup_cons
def ace:=@Int.mul_dvd_mul
def acf:=@List.Nodup.length_le_of_subset
def acg:=@Nat.mul_le_mul_left
def ach:=@List.getElem_of_mem
def aci:=@PySem.codeAny_call_builtin
def acj:=@PySem.Around.under_plainId
def ack:=@PySem.wpAny_setState_of
def acm:=@PySem.wpAny_pyIter_list
def acn:=@PySem.codeAny_builtin
def aco:=@PySem.F.slot_zip_next
def acp:=@List.all_eq_true
def acq:=@Int.mul_nonneg
def acr:=@Int.fmod_nonneg_of_pos
def acs:=@PySem.wpAny_isInstance
def acu:=@PySem.wpAny_askSetting
def acv:=@PyProof.Rows.callWith_type1
def acw:=@Int.one_dvd
def acx:=@Int.dvd_refl
def acy:=@Bool.eq_iff_iff
def acz:=@Array.getD_eq_getD_getElem?
def acA:=@PySem.wpAny_call
def acB:=@of_decide_eq_true
def acC:=@Nat.le_succ_of_le
def acD:=@List.take_add_one
def acE:=@List.length_range
def acF:=@Int.lt_trichotomy
def acG:=@Nat.mul_le_mul_right
def acH:=@PySem.wpAny_passesOwn
def acI:=@PySem.codeAny_mono
def acJ:=@PySem.W.kia_one
def acK:=@Int.mul_pos_of_neg_of_neg
def acL:=@Int.mul_neg_of_neg_of_pos
def acM:=@List.getElem_mem
def acN:=@PySem.wpAny_truthy_bool
def acO:=@PySem.Obj.cls_mapFields
def acP:=@List.replicate_succ
def acQ:=@Int.neg_mul
def acR:=@Int.mul_pos
def acS:=@Int.dvd_add
def acT:=@PySem.F.type_list_append
def acU:=@PySem.F.slot_list_append
def acV:=@Nat.mod_lt
def acW:=@PySem.Heap.get?_none_of_le
def acX:=@Nat.le_mul_of_pos_right
def acY:=@List.zip_cons_cons
def acZ:=@List.filter_append
def ac0:=@List.cons.inj
def ac1:=@PySem.wpAny_setEntries_of
def ac2:=@PySem.wpAny_comprehension_free
def ac3:=@List.zip_nil_left
def ac4:=@PySem.W.looks_findIn
def ac5:=@PySem.wpAny_execs_nil
def ac6:=@PySem.wpAny_Call_Name_kw
def ac7:=@PySem.intBits_le_64
def ac8:=@Nat.gcd_comm
def ac9:=@Int.emod_add_mul_ediv
def ada:=@Nat.lt_succ_self
def adb:=@List.mem_flatMap
def ade:=@PySem.codeAny_compStart_list
def adf:=@List.mem_append_left
def adg:=@PySem.wpAny_loadPart_at
def adh:=@PySem.wpAny_assign_Name
def adi:=@PySem.IntMulOk.of_right
def adj:=@Int.le_of_dvd
def adk:=@PySem.isSubtype_stop
def adl:=@PySem.exec_Assign_Name_used
def adm:=@List.filterMap_cons
def adn:=@Int.mul_fdiv_cancel
def ado:=@Bool.or_eq_true
def adp:=@List.getElem?_append_right
def adq:=@if_false
def ads:=@PySem.wpAny_updateSeq_pair
def adt:=@Nat.mul_comm
def adu:=@Nat.le_of_lt
def adv:=@Nat.eq_zero_or_pos
def adw:=@Int.lt_or_le
def adx:=@PySem.wpAny_onRaise
def ady:=@PySem.eval_ListComp
def adz:=@PySem.F.args_tuple_iterator_next_1
def adA:=@List.mem_of_find?_eq_some
def adB:=@List.forIn_nil
def adC:=@PySem.F.type_list_extend
def adD:=@PySem.F.slot_list_extend
def adE:=@PySem.F.entry_tuple_iterator_next
def adF:=@List.pairwise_map
def adG:=@List.flatten_cons
def adH:=@List.append_assoc
def adI:=@Bool.eq_false_iff
def adJ:=@Nat.one_mul
def adK:=@Nat.mul_mod
def adL:=@Nat.mul_assoc
def adM:=@Nat.mul_add
def adN:=@List.map_cons
def adO:=@Int.le_refl
def adP:=@Int.dvd_sub
def adQ:=@beq_self_eq_true
def adR:=@PySem.slot_listiter_next
def adS:=@PySem.Code.quiet_builtin
def adT:=@List.zipIdx_cons
def adU:=@List.getElem_map
def adV:=@List.ext_getElem
def adW:=@Nat.le_mul_of_pos_left
def adX:=@Nat.dvd_of_mod_eq_zero
def adY:=@List.take_of_length_le
def adZ:=@List.getElem?_set_self
def ad0:=@PySem.F.args_zip_next_1
def ad1:=@List.zipIdx_nil
def ad2:=@List.of_mem_zip
def ad3:=@List.length_filter_le
def ad4:=@List.forIn_cons
def ad5:=@Int.pow_ne_zero
def ad6:=@PySem.wpAny_of_eq
def ad7:=@PySem.plainId_quiet
def ad8:=@List.getElem?_set_ne
def ad9:=@Int.emod_emod_of_dvd
def aea:=@PySem.wpAny_pyIter_zip
def aeb:=@PySem.wpAny_execs_cons
def aec:=@PySem.W.ke_shaped_ints
def aed:=@PySem.F.entry_zip_next
def aee:=@Int.dvd_natAbs
def aef:=@if_true
def aeg:=@PySem.wpAny_pyNext_list_item
def aeh:=@Int.toNat_of_nonneg
def aei:=@of_decide_eq_false
def aej:=@decide_eq_true_iff
def aek:=@Int.fmod_lt_of_pos
def ael:=@Bool.not_true
def aem:=@PySem.wpAny_newFunctionEnv
def aen:=@Int.gcd_dvd_right
def aeo:=@PySem.wpAny_loadPart
def aep:=@PySem.wpAny_fieldsOf
def aeq:=@PyProof.Rows.F.plain_set_update_loop
def aer:=@Nat.add_comm
def aes:=@Int.fmod_def
def aet:=@Int.add_zero
def aeu:=@PySem.W.mg_of
def aev:=@PySem.Heap.get?_update_ne
def aew:=@Nat.mod_eq_of_lt
def aex:=@List.lookup_cons
def aey:=@List.length_drop
def aez:=@List.cons_append
def aeA:=@Int.gcd_dvd_left
def aeB:=@Nat.pow_pos
def aeC:=@Nat.mul_one
def aeD:=@Nat.mod_mod
def aeE:=@List.range_succ
def aeF:=@Int.pow_mul
def aeG:=@Int.neg_mul_neg
def aeH:=@Int.natCast_pow
def aeI:=@Int.mul_neg
def aeJ:=@Int.dvd_coe_gcd
def aeK:=@PySem.wpAny_Call_ofName
def aeL:=@PySem.fits_of_scanBound
def aeM:=@PySem.boot_len
def aeN:=@PySem.Heap.SameBut.refl
def aeO:=@List.prod_cons
def aeP:=@List.nodup_nil
def aeQ:=@Bool.and_false
def aeR:=@PySem.wpAny_typeOf
def aeS:=@PySem.W.cellsFrom_some
def aeT:=@Int.emod_emod
def aeU:=@Int.add_assoc
def aeV:=@PySem.wpAny_specialOf
def aeW:=@PySem.wpAny_letGo
def aeX:=@PySem.wpAny_ite_split
def aeY:=@PySem.codeAny_of_tree
def aeZ:=@Nat.lt_trans
def ae0:=@Nat.lt_or_ge
def ae1:=@List.map_nil
def ae2:=@List.map_map
def ae3:=@Int.zero_mul
def ae4:=@Int.zero_dvd
def ae5:=@Int.ne_of_lt
def ae6:=@PyProof.Rows.assignInOrder_cons
namespace L2
open PySem PySem.Spec PyProof.Rows
def Still (A:Around)(h:Heap):Prop:=A.handled=none\/∃ (e:Addr) (o:Obj) (vs:Array Value),A.handled=some (.ref e)/\h.get? e=some o/\o.data=.fields vs/\vs[2]?=some .none
theorem Still.mono {A:Around}{h h':Heap}(S:Still A h)(k:∀ e o,A.handled=some (.ref e)->h.get? e=some o->h'.get? e=some o):Still A h':=by
 rcases S with z|⟨e,o,vs,hh,he,r⟩
 ·exact .inl z
 ·exact .inr ⟨e,o,vs,hh,k e o hh he,r⟩
theorem Still.in1 {A:Around}{h:Heap}(S:Still A h):Still A.in1 h:=S
theorem rG:plainId "proto.unchain"=true:=by decide +kernel
theorem rH:entryFor table "proto.unchain"=some Builtin.«proto.unchain»:=entryFor_of_tree (by kernel_rfl)
section
variable {P:Program}{w:World}{A:Around}{E:Value->Shared->Prop}{s:Shared}
theorem pE {α:Type}{x:Addr}{ox:Obj}{vx:Array Value}{Q:α->Shared->Prop}(S:Still A s.heap)(hx:s.heap.get? x=some ox)(hd:ox.data=.fields vx)(sz:2<vx.size)(nx:A.handled≠some (.ref x))
  (q:∀ h' o',Heap.SameBut x s.heap h'->h'.get? x=some o'->o'.cls=ox.cls->E (.ref x) { s with heap:=h' }):wpAny (model P w) A (raiseNew (.ref x):Sem α) Q E s:=by
 simp only[raiseNew]
 refine aaa (wpAny_handled ?_)
 rcases S with hn|⟨e,o,vs,hh,he,W6,h2⟩
 ·rw[hn]
  exact aaa (aad (wpAny_throw (q s.heap ox (aeN _ _) hx rfl)))
 ·rw[hh] at nx ⊢
  have ne:e≠x:=fun z=>nx (by rw[z])
  have nb:(Value.ref e != Value.ref x)=true:=by
   simp[ne]
  simp only[nb,aef]
  refine aaa (aaW (wpAny_runValue (acn rH ?_)))
  rw[acj rG _]
  show wpAny _ _ (field (.ref e) 2 >>= _) _ _ s
  refine aaa (aaG he W6 (x:=.none) h2 ?_)
  simp only[adQ,aef]
  refine aad ?_
  show wpAny _ _ (updateField x 2 (.ref e) >>= _) _ _ s
  refine aaa ?_
  unfold updateField
  refine aaa (wpAny_load hx ?_)
  rw[hd]
  simp only[sz,aef]
  refine wpAny_update hx (wpAny_throw (q _ _ (aaX ..) (aa4 _ hx (abG (aa0 hd _))) (acO ..)))
theorem Still.CF {A:Around}{h:Heap}(S:Still A h){x:Addr}(hx:h.objs.size<=x):A.handled≠some (.ref x):=by
 rcases S with z|⟨e,o,vs,hh,he,_⟩
 ·rw[z]
  intro c
  cases c
 ·rw[hh]
  intro c
  cases c
  exact Nat.not_lt.mpr hx (aae he)
theorem fR {α:Type}{Q:α->Shared->Prop}(S:Still A s.heap)(q:∀ h' e,(∀ b o,s.heap.get? b=some o->h'.get? b=some o)->(∃ o,h'.get? e=some o/\o.cls=.type "StopIteration")->E (.ref e) { s with heap:=h' }) :
  wpAny (model P w) A (newExc (.type "StopIteration") ([]:List Value) >>= fun e=>(raiseNew e:Sem α)) Q E s:=by
 refine aaa ?_
 simp only[newExc,newTuple]
 refine aaa (aa1 ?_ (by size_fits));refine aaa (m:=firstArgMember _ _) (ad6 (a:=Value.none) (by first|rfl|(simp only[firstArgMember];rfl)) ?_)
 refine aa1 ?_ (by size_fits)
 have up:∀ (a b:Obj) c o,s.heap.get? c=some o->((s.heap.push a).push b).get? c=some o:=fun a b c o e=>aab _ (aab _ e)
 refine pE (S.mono fun e o _ h=>up _ _ e o h) (aap _ rfl) rfl (by simp<;>omega) (S.CF (by simp only[aax];exact abk _)) fun h' o' sb ho hc=>?_
 refine q h' _ (fun b o e=>?_) ⟨o',ho,hc⟩
 have lt:=aae e
 rw[sb.2 b (fun z=>by rw[z] at lt;simp only[aax] at lt;exact Nat.not_lt.mpr (abk _) lt)]
 exact up _ _ b o e
theorem jx {it l:Addr}{i:Nat}{items:Array Value}{Q:Option Value->Shared->Prop}(S:Still A s.heap)(ni:A.handled≠some (.ref it))(hit:s.heap.IsListIter it l i)(hl:s.heap.IsList l items)(hx:items[i]?=none)
  (q:∀ h',Heap.ExtBut it s.heap h'->Q none { s with heap:=h' }):wpAny (model P w) A (pyNext (.ref it)) Q E s:=by
 obtain⟨o,ho,hc,hd⟩:=id hit
 obtain⟨ol,M9,_,nl,Na⟩:=hl
 unfold pyNext
 refine aaa (abF (aaJ (name:=Str.ofString "__next__") hit.typeIs adR (aa3 adR hit.typeIs entry_listiter_next ?_ (args_listiter_next _))))
 show wpAny _ _ (field (.ref it) 0 >>= _) _ _ s
 refine aaa (aaG ho hd (x:=.ref l) rfl ?_)
 show wpAny _ _ (if (Value.ref l==Value.none)=true then _ else _) _ _ s
 rw[aar (show ¬ ((Value.ref l==Value.none)=true) from aaj)]
 show wpAny _ _ (field (.ref it) 1 >>= _) _ _ s
 refine aaa (aaG ho hd (x:=.int i 0) rfl (aaa (abh M9 Na ?_)))
 simp only[abn,hx]
 refine aaa (acb (aaa (abB ho hd (by simp) ?_)))
 refine fR (A:=A.in1) (S.in1.mono fun e o' hh h=>?_) fun h' e k he=>?_
 ·exact (aaX ..).extBut _ _ (fun z=>ni (by rw[<- z];exact hh)) h
 ·obtain⟨oe,e1,e2⟩:=he
  refine aaa (acs (T:="StopIteration") (b:=true) ⟨oe,e1,e2⟩ adk ?_)
  exact aad (q _ fun b o' nb h=>k _ _ ((aaX ..).extBut _ _ nb h))
theorem jo {it l:Addr}{i:Nat}{items:Array Value}{Q:Option Value->Shared->Prop}(S:Still A s.heap)(ni:A.handled≠some (.ref it))(hit:s.heap.IsTupleIter it l i)(hl:s.heap.IsTuple l items)(hx:items[i]?=none)
  (q:∀ h',Heap.ExtBut it s.heap h'->Q none { s with heap:=h' }):wpAny (model P w) A (pyNext (.ref it)) Q E s:=by
 obtain⟨o,ho,hc,hd⟩:=id hit
 obtain⟨ol,M9,_,nl,Na⟩:=hl
 unfold pyNext
 refine aaa (abF (aaJ (name:=Str.ofString "__next__") hit.typeIs abP (aa3 abP hit.typeIs adE ?_ (adz _))))
 show wpAny _ _ (field (.ref it) 0 >>= _) _ _ s
 refine aaa (aaG ho hd (x:=.ref l) rfl ?_)
 show wpAny _ _ (if (Value.ref l==Value.none)=true then _ else _) _ _ s
 rw[aar (show ¬ ((Value.ref l==Value.none)=true) from aaj)]
 show wpAny _ _ (field (.ref it) 1 >>= _) _ _ s
 refine aaa (aaG ho hd (x:=.int i 0) rfl (aaa (abh M9 Na ?_)))
 simp only[abn,hx]
 refine aaa (acb (aaa (abB ho hd (by simp) ?_)))
 refine fR (A:=A.in1) (S.in1.mono fun e o' hh h=>?_) fun h' e k he=>?_
 ·exact (aaX ..).extBut _ _ (fun z=>ni (by rw[<- z];exact hh)) h
 ·obtain⟨oe,e1,e2⟩:=he
  refine aaa (acs (T:="StopIteration") (b:=true) ⟨oe,e1,e2⟩ adk ?_)
  exact aad (q _ fun b o' nb h=>k _ _ ((aaX ..).extBut _ _ nb h))
theorem oj {it:Addr}{x left step:Int}{Q:Option Value->Shared->Prop}(S:Still A s.heap)(hit:IsRangeIter s.heap it x left step)(NN:left<=0)
  (q:∀ h',Heap.ExtBut it s.heap h'->Q none { s with heap:=h' }):wpAny (model P w) A (pyNext (.ref it)) Q E s:=by
 have hT:s.TypeIs (.ref it) "range_iterator":=⟨_,hit,rfl⟩
 unfold pyNext
 refine aaa (abF (aaJ (name:=Str.ofString "__next__") hT F.slot_range_iterator_next (aa3 F.slot_range_iterator_next hT F.entry_range_iterator_next ?_ (F.args_range_iterator_next_1 _))))
 show wpAny _ _ (field (.ref it) 0 >>= _) _ _ s
 refine aaa (aaG hit rfl (x:=rawInt x) rfl ?_)
 show wpAny _ _ (field (.ref it) 1 >>= _) _ _ s
 refine aaa (aaG hit rfl (x:=rawInt left) rfl ?_)
 show wpAny _ _ (field (.ref it) 2 >>= _) _ _ s
 refine aaa (aaG hit rfl (x:=rawInt step) rfl ?_)
 show wpAny _ _ (if left<=0 then _ else _) _ _ s
 rw[aaz NN]
 refine aaa (acb ?_)
 refine aaa ?_
 refine fR (A:=A.in1) S.in1 fun h' e k he=>?_
 obtain⟨oe,e1,e2⟩:=he
 refine aaa (acs (T:="StopIteration") (b:=true) ⟨oe,e1,e2⟩ adk ?_)
 exact aad (q _ fun b o' _ h=>k _ _ h)
theorem oq {j a:Addr}{i:Nat}{us:Array Value}{Q:Value->Shared->Prop}(S:Still A s.heap)(nj:A.handled≠some (.ref j))(g0:s.heap.IsTupleIter j a i)(g1:s.heap.IsTuple a us)(ex:us[i]?=none)
  (q:∀ h' e,Heap.ExtBut j s.heap h'->(∃ o,h'.get? e=some o/\o.cls=.type "StopIteration")->E (.ref e) { s with heap:=h' }):wpAny (model P w) A (Builtin.SmallTypes.nextOf (.ref j)) Q E s:=by
 obtain⟨o1,k1,k2,k3⟩:=id g0
 obtain⟨o2,k4,_,n2,k5⟩:=g1
 unfold Builtin.SmallTypes.nextOf
 refine aaa (aaJ (name:=Str.ofString "__next__") g0.typeIs abP (aa3 abP g0.typeIs adE ?_ (adz _)))
 show wpAny _ _ (field (.ref j) 0 >>= _) _ _ s
 refine aaa (aaG k1 k3 (x:=.ref a) rfl ?_)
 show wpAny _ _ (if (Value.ref a==Value.none)=true then _ else _) _ _ s
 rw[aar (show ¬ ((Value.ref a==Value.none)=true) from aaj)]
 show wpAny _ _ (field (.ref j) 1 >>= _) _ _ s
 refine aaa (aaG k1 k3 (x:=.int i 0) rfl (aaa (abh k4 k5 ?_)))
 simp only[abn,ex]
 refine aaa (acb (aaa (abB k1 k3 (by simp) ?_)))
 refine fR (A:=A.in1) (S.in1.mono fun e o' hh h=>?_) fun h' e k he=>?_
 ·exact (aaX ..).extBut _ _ (fun z=>nj (by rw[<- z];exact hh)) h
 ·exact q h' e (fun b o' nb h=>k _ _ ((aaX ..).extBut _ _ nb h)) he
theorem ou {j a:Addr}{i:Nat}{us:Array Value}{Q:Value->Shared->Prop}(S:Still A s.heap)(nj:A.handled≠some (.ref j))(g0:s.heap.IsListIter j a i)(g1:s.heap.IsList a us)(ex:us[i]?=none)
  (q:∀ h' e,Heap.ExtBut j s.heap h'->(∃ o,h'.get? e=some o/\o.cls=.type "StopIteration")->E (.ref e) { s with heap:=h' }):wpAny (model P w) A (Builtin.SmallTypes.nextOf (.ref j)) Q E s:=by
 obtain⟨o1,k1,k2,k3⟩:=id g0
 obtain⟨o2,k4,_,n2,k5⟩:=g1
 unfold Builtin.SmallTypes.nextOf
 refine aaa (aaJ (name:=Str.ofString "__next__") g0.typeIs adR (aa3 adR g0.typeIs entry_listiter_next ?_ (args_listiter_next _)))
 show wpAny _ _ (field (.ref j) 0 >>= _) _ _ s
 refine aaa (aaG k1 k3 (x:=.ref a) rfl ?_)
 show wpAny _ _ (if (Value.ref a==Value.none)=true then _ else _) _ _ s
 rw[aar (show ¬ ((Value.ref a==Value.none)=true) from aaj)]
 show wpAny _ _ (field (.ref j) 1 >>= _) _ _ s
 refine aaa (aaG k1 k3 (x:=.int i 0) rfl (aaa (abh k4 k5 ?_)))
 simp only[abn,ex]
 refine aaa (acb (aaa (abB k1 k3 (by simp) ?_)))
 refine fR (A:=A.in1) (S.in1.mono fun e o' hh h=>?_) fun h' e k he=>?_
 ·exact (aaX ..).extBut _ _ (fun z=>nj (by rw[<- z];exact hh)) h
 ·exact q h' e (fun b o' nb h=>k _ _ ((aaX ..).extBut _ _ nb h)) he
theorem gH {t:Addr}{items:Array Value}{Q:List Value->Shared->Prop}(S:Still A s.heap)(ht:IsTup s.heap t items)
  (q:∀ h',Heap.ExtBut s.heap.objs.size s.heap h'->Q items.toList { s with heap:=h' }):wpAny (model P w) A (unpackItems (.ref t) items.size none) Q E s:=by
 have eJ:t≠s.heap.objs.size:=by obtain⟨o,ho,_⟩:=ht;exact aal (aae ho)
 unfold unpackItems
 refine aaa ?_
 unfold notIterableAtAll
 refine aaa (aeV ht.typeIs slot_tuple_iter.lookup (aad ?_))
 simp only[abL,adq]
 refine aaa (aaW (iter_tuple ht ?_))
 refine aaa (aaW (draw_tuple eJ items.size 0 _ _ ⟨_,aap _ rfl,rfl,rfl⟩ (ht.push _) (by omega) fun h₁ Kf CG=>?_))
 rw[show List.take items.size (List.drop 0 items.toList)=items.toList from by rw[List.drop_zero];exact adY (by simp),aar (by simp)]
 have NO:IsTup h₁ t items:=(ht.push _).extBut CG.extBut eJ
 have nn:=S.CF (aai _)
 have S1:Still A h₁:=S.mono fun e o hh he=>CG.extBut _ _ (fun z=>nn (by rw[<- z];exact hh)) (aab _ he)
 refine aaa (aaW (jo S1 nn Kf (show h₁.IsTuple t items from NO) (by simp) fun h₂ NP=>?_))
 simp only[Option.isSome_none,abL,adq]
 exact aad (q h₂ fun b o hb e=>NP b o hb (CG.extBut b o hb (aab _ e)))
theorem kN {env:Env}{elts:List Expr}{x1}{pos:Pos}{t:Addr}{items:Array Value}{Q:Unit->Shared->Prop}(S:Still A s.heap)(ht:IsTup s.heap t items)
  (hn:(assignEach elts env).length=items.size) (NQ:(assignEach elts env).findIdx? (·.1)=none)
  (h:∀ h',Heap.ExtBut s.heap.objs.size s.heap h'->wpAny (model P w) A (assignInOrder ((assignEach elts env).map (·.2)) items.toList) Q E { s with heap:=h' }) :
  wpAny (model P w) A (assign (.Tuple elts x1 pos) env (.ref t)) Q E s:=by
 rw[assign_Tuple]
 refine aaa (abp ?_)
 unfold unpack
 rw[hn,NQ]
 exact aaa (aaW (gH S ht h))
end
theorem mr {P:Program}{w:World}{A:Around}{e:Addr}{o:Obj}{vs:Array Value}(hh:A.handled=some (.ref e))(hd:o.data=.fields vs)(h2:vs[2]?=some .none)(I ax:Addr)(rJ:ax≠I)(nI:e≠I)(items:Array Value) :
  Walks P w A I [I,ax,e] [I] items.size (fun i v=>items[i]?=some v) (fun i h=>h.IsListIter I ax i/\h.IsList ax items/\h.get? e=some o) where
 sub:=fun b hb=>by simp at hb;simp[hb]
 frame:=fun _ _ _ st hk=>⟨st.1.at fun o e=>hk I (by simp) o e,st.2.1.at fun o e=>hk ax (by simp) o e,hk e (by simp) _ st.2.2⟩
 item:=fun i s Q E hi st q=>by
  refine aeg st.1 st.2.1 (x:=items[i]) (by simp[hi]) fun h' R8 fF=>?_
  exact q _ h' s.toks (by simp[hi]) ⟨R8,st.2.1.extBut fF.extBut rJ,fF.extBut _ _ nI st.2.2⟩ fun b o hb e=>fF.extBut b o (fun h=>hb (by simp[h])) e
 done:=fun s Q E st q=>jx (.inr ⟨e,o,vs,hh,st.2.2,hd,h2⟩) (by rw[hh];intro c;cases c;exact nI rfl) st.1 st.2.1 (by simp) fun h' Kg=>q h' s.toks fun b o hb e=>Kg b o (fun h=>hb (by simp[h])) e
 self:=fun _ _ _ _ st q=>wpAny_pyIter_listiter st.1 q
theorem jy {P:Program}{w:World}{A:Around}{h0:Heap}(S:Still A h0)(I ax:Addr)(rJ:ax≠I)(nI:A.handled≠some (.ref I))(items:Array Value) :
  ∃ (fp:List Addr) (st:Nat->Heap->Prop),Walks P w A I fp [I] items.size (fun i v=>items[i]?=some v) st/\(∀ h,h.IsListIter I ax 0->h.IsList ax items->(∀ b o,h0.get? b=some o->h.get? b=some o)->st 0 h) /\
   ∀ b∈fp,b=I\/b=ax\/∃ o,h0.get? b=some o:=by
 rcases S with z|⟨e,o,vs,hh,he,hd,h2⟩
 ·exact⟨_,_,Walks.list z I ax rJ items,fun h a b _=>⟨a,b⟩,fun b hb=>by
   have:b=I\/b=ax:=by simpa using hb
   rcases this with r|r
   ·exact .inl r
   ·exact .inr (.inl r)⟩
 ·refine⟨_,_,mr hh hd h2 I ax rJ (fun z=>nI (by rw[hh,z])) items,fun h a b k=>⟨a,b,k _ _ he⟩,fun b hb=>?_⟩
  have:b=I\/b=ax\/b=e:=by simpa using hb
  rcases this with r|r|r
  ·exact .inl r
  ·exact .inr (.inl r)
  ·exact .inr (.inr ⟨o,by rw[r];exact he⟩)
theorem mv {P:Program}{w:World}{A:Around}{E:Value->Shared->Prop}{s:Shared}{it:Addr}{a c:Int}{n i:Nat}{Q:Option Value->Shared->Prop}(hi:i<n)(st:IsRangeIter s.heap it (a+(i:Nat)*c) ((n:Int)-(i:Nat)) c)
  (q:∀ v h' tk,(∃ t,v=.int (a+(i:Nat)*c) t)->IsRangeIter h' it (a+((i+1:Nat):Int)*c) ((n:Int)-((i+1:Nat):Int)) c->(∀ b o,b∉[it]->s.heap.get? b=some o->h'.get? b=some o)->Q (some v) { s with heap:=h',toks:=tk }) :
  wpAny (model P w) A (pyNext (.ref it)) Q E s:=by
 refine wpAny_pyNext_range_item st (by omega) fun h1 W7 s1=>?_
 refine q _ h1 _ ⟨_,rfl⟩ ?_ fun b o nb x=>s1.extBut b o (fun z=>nb (by simp[z])) x
 have e1:a+((i+1:Nat):Int)*c=a+(i:Int)*c+c:=by push_cast;rw[Int.add_mul,aaN,aeU]
 have e2:(n:Int)-((i+1:Nat):Int)=(n:Int)-(i:Int)-1:=by push_cast;omega
 rw[e1,e2]
 exact W7
abbrev Key:=Sum Int Str
def Jk:Key->Value->Bool
 | .inl k,v=>Value.isInt k v
 | .inr x,v=>Value.isStrOf x v
def R9 (w:World):Key->Int
 | .inl k=>hashInt k
 | .inr x=>hashStr w x
theorem bW:∀ {k:Key}{v:Value},Jk k v=true->(∃ i t,k=Sum.inl i/\v=Value.int i t)\/(∃ x t,k=Sum.inr x/\v=Value.str x t)
 | .inl i,v,h=>by
  obtain⟨t,e⟩:=Value.isInt_shape (k:=i) (v:=v) h
  exact .inl ⟨i,t,rfl,e⟩
 | .inr x,v,h=>by
  obtain⟨t,e⟩:=Value.isStrOf_shape (x:=x) (v:=v) h
  exact .inr ⟨x,t,rfl,e⟩
theorem Kh (a b:Int):decide ((Sum.inl a:Key)=Sum.inl b)=(a==b):=by
 by_cases e:a=b
 ·subst e;simp
 ·have h:¬ (Sum.inl a:Key)=Sum.inl b:=fun q=>e (Sum.inl.inj q)
  rw[aa5 h]
  exact (beq_eq_false_iff_ne.mpr e).symm
theorem Ki (a b:Str):decide ((Sum.inr a:Key)=Sum.inr b)=decide (a=b):=by
 by_cases e:a=b
 ·subst e;simp
 ·have h:¬ (Sum.inr a:Key)=Sum.inr b:=fun q=>e (Sum.inr.inj q)
  rw[aa5 h,aa5 e]
theorem Kj (a:Int)(b:Str):decide ((Sum.inl a:Key)=Sum.inr b)=false:=aa5 (fun q=>nomatch q)
theorem Kk (a:Str)(b:Int):decide ((Sum.inr a:Key)=Sum.inl b)=false:=aa5 (fun q=>nomatch q)
def zB (prog:Program)(w:World):PySem.KeyKind prog w Key where
 is:=Jk
 hash:=R9 w
 inj:=fun v a b ha hb=>by
  rcases bW ha with ⟨i,t,rfl,rfl⟩|⟨x,t,rfl,rfl⟩
  ·rcases bW hb with ⟨j,u,rfl,e⟩|⟨y,u,rfl,e⟩
   ·injection e with e1 _;rw[e1]
   ·exact nomatch e
  ·rcases bW hb with ⟨j,u,rfl,e⟩|⟨y,u,rfl,e⟩
   ·exact nomatch e
   ·injection e with e1 _;rw[e1]
 byValue:=fun k v h=>by
  rcases bW h with ⟨i,t,rfl,rfl⟩|⟨x,t,rfl,rfl⟩<;>rfl
 pyHash:=fun hv h=>by
  rcases bW hv with ⟨i,t,rfl,rfl⟩|⟨x,t,rfl,rfl⟩
  ·exact wpAny_pyHash_int h
  ·exact wpAny_pyHash_str h
 eqBool:=fun hu hv h=>by
  rcases bW hu with ⟨i,t,rfl,rfl⟩|⟨x,t,rfl,rfl⟩
  ·rcases bW hv with ⟨j,u,rfl,rfl⟩|⟨y,u,rfl,rfl⟩
   ·rw[Kh] at h;exact wpAny_eqBool_int h
   ·rw[Kj] at h;exact SeqAt.EqAt.int_str i t y u _ _ _ _ h
  ·rcases bW hv with ⟨j,u,rfl,rfl⟩|⟨y,u,rfl,rfl⟩
   ·rw[Kk] at h;exact SeqAt.EqAt.str_int x t j u _ _ _ _ h
   ·rw[Ki] at h;exact wpAny_eqBool_str h
 «strs»:=fun k x t v h=>by
  rcases bW h with ⟨i,u,rfl,e⟩|⟨y,u,rfl,e⟩
  ·exact nomatch e
  ·injection e with e1 _
   subst e1
   cases v<;>rfl
inductive V where
 | eI|bl (b:Bool)|int (i:Int)|str (x:Str)|Cy (b:Array UInt8)|Kl (b:UInt64)|ref (a:Addr)|ty (n:String)
 deriving DecidableEq
def RelV:V->Value->Prop
 | .eI,u=>u=Value.none
 | .bl b,u=>u=Value.bool b
 | .int i,u=>∃ t,u=Value.int i t
 | .str x,u=>∃ t,u=Value.str x t
 | .Cy b,u=>∃ t,u=Value.bytes b t
 | .Kl b,u=>∃ t,u=Value.float b t
 | .ref a,u=>u=Value.ref a
 | .ty n,u=>u=Value.type n
abbrev Vals:List V->List Value->Prop:=Paired RelV
theorem Vals.length {xs:List V}{us:List Value}(r:Vals xs us):xs.length=us.length:=Paired.length r
theorem Vals.get:∀ {xs:List V}{us:List Value}{i:Nat}{x:V},Vals xs us->xs[i]?=some x->∃ u,us[i]?=some u/\RelV x u
 | _,_,_,_,.nil,e=>by simp at e
 | _,_,0,_,.cons r _,e=>by simp at e;subst e;exact⟨_,rfl,r⟩
 | _,_,i+1,x,.cons _ t,e=>by
  obtain⟨u,h1,h2⟩:=Vals.get (i:=i) (x:=x) t (by simpa using e)
  exact⟨u,by simpa using h1,h2⟩
theorem Vals.set {x:V}{u:Value}(r:RelV x u):∀ {xs:List V}{us:List Value} (i:Nat),Vals xs us->Vals (xs.set i x) (us.set i u)
 | _,_,_,.nil=>.nil
 | _,_,0,.cons _ t=>.cons r t
 | _,_,i+1,.cons q t=>.cons q (Vals.set r i t)
theorem Vals.append:∀ {xs ys:List V}{us ws:List Value},Vals xs us->Vals ys ws->Vals (xs++ys) (us++ws)
 | _,_,_,_,.nil,s=>s
 | _,_,_,_,.cons r t,s=>.cons r (Vals.append t s)
theorem Vals.take:∀ {xs:List V}{us:List Value} (n:Nat),Vals xs us->Vals (xs.take n) (us.take n)
 | _,_,0,_=>.nil
 | _,_,_+1,.nil=>.nil
 | _,_,n+1,.cons r t=>.cons r (Vals.take n t)
theorem Vals.drop:∀ {xs:List V}{us:List Value} (n:Nat),Vals xs us->Vals (xs.drop n) (us.drop n)
 | _,_,0,r=>r
 | _,_,_+1,.nil=>.nil
 | _,_,n+1,.cons _ t=>Vals.drop n t
theorem Vals.none_of:∀ {xs:List V}{us:List Value}{i:Nat},Vals xs us->xs[i]?=none->us[i]?=none:=fun {xs us i} r e=>by
 have h1:=r.length
 have h2:xs.length<=i:=List.getElem?_eq_none_iff.mp e
 exact List.getElem?_eq_none_iff.mpr (by omega)
def xJ:Option V->Option Value->Prop
 | some v,some u=>RelV v u
 | none,none=>True
 | _,_=>False
def KV {κ:Type}:List (κ × V)->List (κ × Value)->Prop:=Paired fun (p:κ × V) (q:κ × Value)=>p.1=q.1/\RelV p.2 q.2
def kV:Key->V
 | .inl i=>.int i
 | .inr x=>.str x
inductive HO where
 /-- a list -/
 | lst (xs:List V)
 /-- a tuple (never changes) -/
 | tup (xs:List V)
 /-- a dict NR keys are ints and texts;one NR keys are tuples of ints and texts (tD empty one is both) -/
 | dK (mq:List (Key × V))|dT (mq:List (List Key × V))
 /-- a set of ints: aK members,aK size -/
 | set (S:Int->Bool) (n:Nat)
 /-- an instance of tD class at C,aK dict at dx,aK attributes -/
 | ins (C dx:Addr) (fs:List (Str × V))
 /-- tD dict of tD instance at x -/
 | own (x:Addr)
 /-- tD dict of an exception -/
 | xd (fs:List (Str × V))
 /-- a bound method,f of x -/
 | met (f x:Addr)
 /-- a range object lo,lo+1,.. below hi -/
 | Ru (lo hi:Int)
 /-- a NS W8 is known to tD object (tD CH;a dict while a loop walks it): read,never written while it is so -/
 | mw (o:Obj) (u:HO)
 /-- a code NT table -/
 | Jl (ps:Array Value)
 /-- any other NS,by Sa is true of aK one object (a def of Vw own: W9 a S n:=HO.ext fun h=>..) -/
 | ext (φ:Heap->Prop)
abbrev Hp:=Addr->Option HO
def upd (H:Hp)(a:Addr)(o:HO):Hp:=fun b=>if b=a then some o else H b
theorem ag {H:Hp}{a:Addr}{o:HO}:upd H a o a=some o:=by unfold upd;rw[aaz rfl]
theorem aH {H:Hp}{a b:Addr}{o:HO}(h:b≠a):upd H a o b=H b:=by unfold upd;rw[aar h]
theorem aN {H:Hp}{a b:Addr}{o:HO}(h:H a=some o)(h':H b=none):a≠b:=by
 intro e;subst e;rw[h] at h';cases h'
section
variable (P:Program)(w:World)
def bJ (H:Hp)(h:Heap)(a:Addr):HO->Prop
 | .lst xs=>xs.length<=sizeLine/\∃ (aK:List Value) (n:Nat),Vals xs aK/\h.get? a=some { cls:=.type "list",data:=.seq aK.toArray n }
 | .tup xs=>xs.length<=sizeLine/\∃ aK:List Value,Vals xs aK/\IsTup h a aK.toArray
 | .dK mq=>mq.length<=sizeLine/\(a==sysModules)=false/\∃ vs,KV mq vs/\h.DictOf (zB P w) a vs
 | .dT mq=>mq.length<=sizeLine/\(a==sysModules)=false/\∃ xs:List (List Key × Addr × Value),
   Paired (fun (p:List Key × V) (q:List Key × Addr × Value)=>p.1=q.1/\H q.2.1=some (.tup (p.1.map kV))/\RelV p.2 q.2.2) mq xs /\
   ∃ o es ep,h.get? a=some o/\o.ExactDict/\o.data=.dict es ep/\es.toList=xs.map (entryOfKey (tupleKind (zB P w)))/\(xs.map (·.1)).Nodup
 | .set S n=>h.SetOf (intKind P w) a S n
 | .ins C dx fs=>H dx=some (.own a)/\fs.length<=1000/\dx≠a/\h.get? a=some (W.instObj C dx) /\
   ∃ mA,h.Ns1 dx mA/\(∀ f,xJ (fs.lookup f) (mA f))/\PySem.Within mA (fs.map (·.1))
 | .own _=>∃ o,h.get? a=some o
 | .xd fs=>∃ mA,h.Ns1 a mA/\∀ f,xJ (fs.lookup f) (mA f)
 | .Ru lo hi=>∃ t u v,h.get? a=some { cls:=.type "range",data:=.fields #[.int lo t,.int hi u,.int 1 v] }
 | .mw o u=>h.get? a=some o/\bJ H h a u
 | .Jl ps=>h.get? a=some { cls:=.none,data:=.fields ps }
 | .met f x=>h.get? a=some (W.methodObj (.ref f) (.ref x))
 | .ext φ=>φ h/\(∃ o,h.get? a=some o)/\∀ h1 h2:Heap,φ h1->(∀ o,h1.get? a=some o->h2.get? a=some o)->φ h2
def kD (H:Hp)(h:Heap):Prop:=∀ a o,H a=some o->bJ P w H h a o
end
section
variable {P:Program}{w:World}{H H':Hp}{h h':Heap}{a:Addr}{o:HO}
theorem bJ.lt (x:bJ P w H h a o):a<h.objs.size:=by
 cases o with
 | lst xs=>obtain⟨_,_,_,_,e⟩:=x;exact aae e
 | tup xs=>obtain⟨_,_,_,p⟩:=x;exact p.lt
 | dK mq=>obtain⟨_,_,_,_,o,_,_,e,_⟩:=x;exact aae e
 | dT mq=>obtain⟨_,_,_,_,o,_,_,e,_⟩:=x;exact aae e
 | set S n=>obtain⟨o,_,_,_,e,_⟩:=x;exact aae e
 | ins C dx fs=>obtain⟨_,_,_,e,_⟩:=x;exact aae e
 | own y=>obtain⟨_,e⟩:=x;exact aae e
 | xd fs=>obtain⟨_,⟨_,_,_,e,_⟩,_⟩:=x;exact aae e
 | Ru lo hi=>obtain⟨_,_,_,e⟩:=x;exact aae e
 | mw ob u=>obtain⟨e,_⟩:=x;exact aae e
 | Jl ps=>exact aae (show h.get? a=some _ from x)
 | met f y=>exact aae (show h.get? a=some _ from x)
 | ext φ=>obtain⟨_,⟨_,e⟩,_⟩:=x;exact aae e
theorem Paired.NU {α β:Type}{F G:α->β->Prop}:∀ {l₁:List α}{l₂:List β},Paired F l₁ l₂->(∀ a b,F a b->G a b)->Paired G l₁ l₂
 | _,_,.nil,_=>.nil
 | _,_,.cons r t,f=>.cons (f _ _ r) (Paired.NU t f)
theorem bJ.rK (x:bJ P w H h a o)(k:∀ b u,(b=a\/H b=some (.own a))->h.get? b=some u->h'.get? b=some u)
  (ho:∀ b,H b=some (.own a)->H' b=some (.own a)) (ht:∀ b xs,H b=some (.tup xs)->H' b=some (.tup xs)):bJ P w H' h' a o:=by
 induction o with
 | lst xs=>obtain⟨z,aK,n,r,e⟩:=x;exact⟨z,aK,n,r,k _ _ (.inl rfl) e⟩
 | tup xs=>obtain⟨z,aK,r,ob,e,c⟩:=x;exact⟨z,aK,r,ob,k _ _ (.inl rfl) e,c⟩
 | dK mq=>obtain⟨z,y,vs,r,ob,es,ep,e,c⟩:=x;exact⟨z,y,vs,r,ob,es,ep,k _ _ (.inl rfl) e,c⟩
 | dT mq=>
  obtain⟨z,y,xs,r,ob,es,ep,e,c⟩:=x
  exact⟨z,y,xs,Paired.NU r fun p q z=>⟨z.1,ht _ _ z.2.1,z.2.2⟩,ob,es,ep,k _ _ (.inl rfl) e,c⟩
 | set S n=>obtain⟨ob,es,ep,t,e,c⟩:=x;exact⟨ob,es,ep,t,k _ _ (.inl rfl) e,c⟩
 | ins C dx fs=>
  obtain⟨d,z,ne,e,mA,⟨od,es,ep,e2,c⟩,r⟩:=x
  exact⟨ho _ d,z,ne,k _ _ (.inl rfl) e,mA,⟨od,es,ep,k _ _ (.inr d) e2,c⟩,r⟩
 | own y=>obtain⟨ob,e⟩:=x;exact⟨ob,k _ _ (.inl rfl) e⟩
 | xd fs=>obtain⟨mA,⟨od,es,ep,e,c⟩,r⟩:=x;exact⟨mA,⟨od,es,ep,k _ _ (.inl rfl) e,c⟩,r⟩
 | Ru lo hi=>obtain⟨t,u,v,e⟩:=x;exact⟨t,u,v,k _ _ (.inl rfl) e⟩
 | mw ob u ih=>obtain⟨e,q⟩:=x;exact⟨k _ _ (.inl rfl) e,ih q⟩
 | Jl ps=>
  have e:h.get? a=some { cls:=.none,data:=.fields ps }:=x
  show h'.get? a=some { cls:=.none,data:=.fields ps }
  exact k a _ (.inl rfl) e
 | met f y=>
  have e:h.get? a=some (W.methodObj (.ref f) (.ref y)):=x
  show h'.get? a=some (W.methodObj (.ref f) (.ref y))
  exact k a _ (.inl rfl) e
 | ext φ=>obtain⟨p,⟨o,e⟩,st⟩:=x;exact⟨st _ _ p fun o q=>k _ _ (.inl rfl) q,⟨o,k _ _ (.inl rfl) e⟩,st⟩
theorem kD.lt (x:kD P w H h)(e:H a=some o):a<h.objs.size:=(x a o e).lt
theorem kD.fresh (x:kD P w H h)(e:h.objs.size<=a):H a=none:=by
 cases q:H a with
 | none=>rfl
 | some u=>exact absurd (aak (x.lt q) e) (abo _)
theorem kD.kept (x:kD P w H h)(k:∀ b u,h.get? b=some u->h'.get? b=some u):kD P w H h':=fun a o e=>
 (x a o e).rK (fun b u _ q=>k b u q) (fun _ q=>q) fun _ _ q=>q
theorem kD.laid (x:kD P w H h)(k:∀ b u,h.get? b=some u->h'.get? b=some u)(hp:h.objs.size<=a)(new:bJ P w (upd H a o) h' a o):kD P w (upd H a o) h':=fun b u e=>by
 have hn:=x.fresh hp
 by_cases hb:b=a
 ·subst hb;rw[ag] at e;cases e;exact new
 ·rw[aH hb] at e
  exact (x b u e).rK (fun c v _ q=>k c v q) (fun c q=>by rw[aH (aN q hn)];exact q) fun c xs q=>by rw[aH (aN q hn)];exact q
end
def Rd (H:Hp)(a:Addr)(u:HO):Prop:=H a=some u\/∃ o,H a=some (.mw o u)
theorem Rd.ok {P:Program}{w:World}{H:Hp}{h:Heap}{a:Addr}{u:HO}(r:Rd H a u)(x:kD P w H h):bJ P w H h a u:=by
 rcases r with r|⟨o,r⟩
 ·exact x a u r
 ·obtain⟨_,q⟩:=x a _ r
  exact q
def Rv:Option HO->Prop
 | some (.lst _)=>True
 | some (.dK _)=>True
 | some (.dT _)=>True
 | some (.set _ _)=>True
 | some (.ins _ _ _)=>True
 | some (.ext _)=>True
 | _=>False
section
variable {P:Program}{w:World}{H:Hp}{h h':Heap}{x e:Addr}{o':HO}
theorem kD.write (ok:kD P w H h)(mu:Rv (H x))(he:e=x\/H e=some (.own x))(k:∀ b u,b≠e->h.get? b=some u->h'.get? b=some u)(Nb:∃ u,h'.get? e=some u)
  (new:bJ P w (upd H x o') h' x o'):kD P w (upd H x o') h':=fun b u q=>by
 have NV:∀ c y,H c=some (.own y)->c≠x:=fun c y r z=>by subst z;rw[r] at mu;exact mu
 have Sb:∀ c xs,H c=some (.tup xs)->c≠x:=fun c xs r z=>by subst z;rw[r] at mu;exact mu
 by_cases hb:b=x
 ·subst hb;rw[ag] at q;cases q;exact new
 ·rw[aH hb] at q
  by_cases Km:b=e
  ·have q':H b=some (.own x):=by
    rcases he with z|z
    ·exact absurd (Km.trans z) hb
    ·rw[Km];exact z
   rw[q] at q';cases q'
   obtain⟨v,hv⟩:=Nb
   exact⟨v,by rw[Km];exact hv⟩
  ·refine (ok b u q).rK (fun c v hc r=>k c v ?_ r) (fun c r=>by rw[aH (NV c b r)];exact r) fun c xs r=>by rw[aH (Sb c xs r)];exact r
   rcases hc with rfl|hc
   ·exact Km
   ·rintro rfl
    rcases he with z|z
    ·exact NV c b hc z
    ·rw[hc] at z;cases z;exact hb rfl
end
structure Un (fs ex:List Addr)(H H':Hp)(h h':Heap):Prop where
 keep:∀ b o,h.get? b=some o->H b=none->b∉fs->b∉ex->h'.get? b=some o
 slot:∀ b o,h.get? b=some o->H b=none->b∈fs->b∉ex->∃ sl,h'.get? b=some { o with slots:=sl }
 free:∀ b o,h.get? b=some o->H b=none->b∉ex->H' b=none
 there:∀ b o,h.get? b=some o->b∉ex->∃ o',h'.get? b=some o'
 iq:∀ b xs,H b=some (.tup xs)->H' b=some (.tup xs)
 gC:∀ b o u,H b=some (.mw o u)->H' b=some (.mw o u)
 ir:∀ b ps,H b=some (.Jl ps)->∃ more,H' b=some (.Jl (ps++more))
section
variable {fs Nc ex Kn:List Addr}{H H1 H2:Hp}{h h1 h2 h':Heap}{a x e:Addr}{o:HO}
theorem Un.any (u:Un fs ex H H1 h h1){b:Addr}{ob:Obj}(q:h.get? b=some ob)(n:H b=none)(hx:b∉ex):∃ sl,h1.get? b=some { ob with slots:=sl }:=by
 by_cases hb:b∈fs
 ·exact u.slot b ob q n hb hx
 ·exact⟨ob.slots,u.keep b ob q n hb hx⟩
theorem Un.kept (k:∀ b u,h.get? b=some u->h'.get? b=some u):Un fs ex H H h h':=
 ⟨fun b ob q _ _ _=>k b ob q,fun b ob q _ _ _=>⟨ob.slots,k b ob q⟩,fun _ _ _ n _=>n,fun b ob q _=>⟨ob,k b ob q⟩,fun _ _ q=>q,fun _ _ _ q=>q,fun _ ps q=>⟨#[],by rw[q];simp⟩⟩
theorem Un.refl:Un fs ex H H h h:=Un.kept fun _ _ q=>q
theorem Un.laid (k:∀ b u,h.get? b=some u->h'.get? b=some u)(hp:h.objs.size<=a)(hn:H a=none):Un fs ex H (upd H a o) h h' where
 keep:=fun b u q _ _ _=>k b u q
 slot:=fun b u q _ _ _=>⟨u.slots,k b u q⟩
 free:=fun b u q n _=>by rw[aH (aal (aak (aae q) hp))];exact n
 there:=fun b u q _=>⟨u,k b u q⟩
 iq:=fun b xs q=>by rw[aH (aN q hn)];exact q
 gC:=fun b u xs q=>by rw[aH (aN q hn)];exact q
 ir:=fun b ps q=>⟨#[],by rw[aH (aN q hn),q];simp⟩
theorem Un.write (mu:Rv (H x))(he:e=x\/H e=some (.own x))(k:∀ b u,b≠e->h.get? b=some u->h'.get? b=some u)(Nb:∃ u,h'.get? e=some u):Un fs ex H (upd H x o) h h':=by
 have hx:∀ b,H b=none->b≠x:=fun b n z=>by subst z;rw[n] at mu;exact mu
 have hb:∀ b,H b=none->b≠e:=fun b n z=>by
  subst z
  rcases he with r|r
  ·exact hx b n r
  ·rw[n] at r;cases r
 have hm:∀ b u,H b=some u->¬ Rv (some u)->b≠x:=fun b u q nm z=>by subst z;rw[q] at mu;exact nm mu
 refine⟨fun b u q n _ _=>k b u (hb b n) q,fun b u q n _ _=>⟨u.slots,k b u (hb b n) q⟩,fun b u q n _=>by rw[aH (hx b n)];exact n,fun b u q _=>?_,
  fun b xs q=>by rw[aH (hm b _ q fun z=>z)];exact q,fun b u xs q=>by rw[aH (hm b _ q fun z=>z)];exact q,fun b ps q=>⟨#[],by rw[aH (hm b _ q fun z=>z),q];simp⟩⟩
 by_cases Km:b=e
 ·subst Km;exact Nb
 ·exact⟨u,k b u Km q⟩
end
def Rw (h:Heap)(H:Hp):List Addr:=(List.range h.objs.size).filter fun a=>(H a).isSome
def tE (h:Heap)(H:Hp):Heap:=W.hideAll h (Rw h H)
theorem A6 (h:Heap)(H:Hp):(tE h H).objs.size=h.objs.size:=W.hideAll_size _ _
theorem CI {h:Heap}{H:Hp}{b:Addr}{o:Obj}(e:h.get? b=some o)(n:H b=none):(tE h H).get? b=some o:=
 W.hideAll_get _ e fun hm=>by
  have q:(H b).isSome=true:=(abQ.mp hm).2
  rw[n] at q;simp at q
theorem GR {h:Heap}{H:Hp}{b:Addr}{o:Obj}(e:(tE h H).get? b=some o):h.get? b=some o/\H b=none:=by
 have e':h.get? b=some o:=W.of_hideAll (Rw h H) e
 refine⟨e',?_⟩
 cases q:H b with
 | none=>rfl
 | some x=>
  have hm:b∈Rw h H:=abQ.mpr ⟨ab0.mpr (aae e'),by simp[q]⟩
  have z:(tE h H).get? b=none:=W.hideAll_none (Rw h H) hm
  rw[z] at e;cases e
structure Mod (K:W.Frag)(mg:Str->Option Value)(base:Heap):Prop where
 Ko:K.In base
 glob:base.Ns mainGlobals mg
 blt:∃ mb,base.Ns builtinsNs mb/\∀ x:Str,x≠"__name__"->mb x=bootBuiltins x
 nolimit:base.NoLimit
structure Cx where
 prog:Program
 w:World
 K:W.Frag
 mg:Str->Option Value
 base:Heap
 A:Around
 N:List Str
 s₀:Shared
 H₀:Hp
 env:Env
 outer:List Env
 stack:List Env
 ex:List Addr
 fn:Str->Bool
 calm:Bool
 bq:Bool
 fz:List (Addr × Obj × HO)
 pn:List (Addr × Obj)
 xe:Value->Shared->Prop
def gI (l:List Env):List Addr:=l.filterMap (·.frame)
abbrev Cx.fs (X:Cx):List Addr:=gI X.outer
def Kp (sc:Scope)(x:Str):Prop:=sc.names.lookup x=some .local\/sc.names.lookup x=some .cell\/sc.names.lookup x=some .free
def Loc (sc:Scope)(x:Str):Prop:=sc.names.lookup x=some .local\/sc.names.lookup x=some .cell
def Look (env:Env)(h:Heap)(m:Str->Option Value)(x:Str)(u:Value):Prop:=
 (env.kindOf x=some .local/\m x=some u)\/((env.kindOf x=some .cell\/env.kindOf x=some .free)/\∃ c,env.cells.lookup x=some c/\h.IsCell c (some u))
structure Cx.Ok (X:Cx):Prop where
 mod:Mod X.K X.mg X.base
 kind:X.env.scope.kind=.function
 glob:X.env.globals=mainGlobals
 blt:X.env.builtins=builtinsNs
 above:X.s₀.heap.objs.size<=X.env.locals
 inj:∀ x y c,X.env.cells.lookup x=some c->X.env.cells.lookup y=some c->x=y
 has:∀ x,(X.env.kindOf x=some .cell\/X.env.kindOf x=some .free)->∃ c,X.env.cells.lookup x=some c
 Cz:∀ x c,X.fn x=true->X.env.cells.lookup x=some c->X.s₀.heap.objs.size<=c
 hd:X.calm=true->X.A.handled=none
 hs:X.bq=true->X.A.handled=none\/∃ e o u vs,X.A.handled=some (.ref e)/\(e,o,u)∈X.fz/\o.data=.fields vs/\vs[2]?=some .none
 frames:X.A.frames=some X.stack
 xK:X.stack=X.outer\/(X.stack=X.env::X.outer/\X.env.frame=some X.env.locals)
 GS:∀ b∈X.ex,b≠X.env.locals/\∀ x c,X.env.cells.lookup x=some c->c≠b
 bs:∀ b o,X.base.get? b=some o->X.s₀.heap.get? b=some o/\X.H₀ b=none
 pF:X.base.objs.size<=X.s₀.heap.objs.size
 kO:∀ b o,X.base.get? b=some o->b∉X.ex
 pG:∀ b∈X.ex,b∉X.fs
 iu:X.s₀.heap.FunFrames X.base X.outer
 r9:∀ b∈X.fs,X.H₀ b=none
structure Inv (X:Cx)(pins:List (Addr × Obj))(σ:List (Option V))(H:Hp)(s:Shared):Prop where
 ok:X.Ok
 vC:∀ p∈X.fz,H p.1=some (.mw p.2.1 p.2.2)
 os:s.os=X.s₀.os
 bare:AllBare s.gens
 base:Un X.fs X.ex X.H₀ H X.s₀.heap s.heap
 loc:∃ m,s.heap.Ns X.env.locals m/\∀ (i:Nat) (x:Str) (v:V),X.N[i]?=some x->σ[i]?=some (some v)->Kp X.env.scope x->∃ u,RelV v u/\Look X.env s.heap m x u
 cell:∀ x c,X.env.cells.lookup x=some c->∃ v,s.heap.IsCell c v
 free:H X.env.locals=none
 dY:∀ x c,X.env.cells.lookup x=some c->H c=none
 pin:∀ p∈X.pn++pins,s.heap.get? p.1=some p.2/\H p.1=none/\p.1≠X.env.locals/\p.1∉X.fs/\∀ v,p.2.data≠.cell v
 bE:kD X.prog X.w H s.heap
 len:σ.length=X.N.length
section
variable {X:Cx}{pins:List (Addr × Obj)}{σ:List (Option V)}{H H':Hp}{s:Shared}{h':Heap}
theorem Cx.Ok.Sd (ok:X.Ok){b:Addr}{o:Obj}(e:X.base.get? b=some o):b∉X.fs:=fun hb=>by
 have:=(ok.iu.mem hb).1
 rw[e] at this;cases this
theorem Inv.bs (I:Inv X pins σ H s):∀ b o,X.base.get? b=some o->s.heap.get? b=some o/\H b=none:=fun b o e=>
 ⟨I.base.keep b o (I.ok.bs b o e).1 (I.ok.bs b o e).2 (I.ok.Sd e) (I.ok.kO b o e),I.base.free b o (I.ok.bs b o e).1 (I.ok.bs b o e).2 (I.ok.kO b o e)⟩
theorem Inv.bk (I:Inv X pins σ H s):∀ b o,X.base.get? b=some o->s.heap.get? b=some o:=fun b o e=>(I.bs b o e).1
theorem Inv.mod (I:Inv X pins σ H s):Mod X.K X.mg X.base:=I.ok.mod
theorem Inv.kA (I:Inv X pins σ H s):X.K.In s.heap:=I.ok.mod.Ko.keeps I.bk
theorem Inv.lt (I:Inv X pins σ H s):X.env.locals<s.heap.objs.size:=let ⟨_,hn,_⟩:=I.loc;hn.lt
theorem Inv.sz (I:Inv X pins σ H s):X.s₀.heap.objs.size<=s.heap.objs.size:=aag I.ok.above (adu I.lt)
theorem Inv.Se (I:Inv X pins σ H s){a:Addr}(h:s.heap.objs.size<=a):a∉X.fs:=fun hb=>by
 obtain⟨_,o,ho,_⟩:=I.ok.iu.mem hb
 exact absurd (aak (aae ho) (aag I.sz h)) (abo _)
theorem Inv.CJ (I:Inv X pins σ H s):∀ x c,X.env.cells.lookup x=some c->c≠X.env.locals:=fun x c e z=>by
 obtain⟨v,o,ho,hd⟩:=I.cell x c e
 obtain⟨m,⟨o',es,ep,xC,Nf,_⟩,_⟩:=I.loc
 rw[z,xC] at ho;cases ho;rw[Nf] at hd;cases hd
theorem Inv.iu (I:Inv X pins σ H s):s.heap.FunFrames X.base X.outer:=by
 have all:∀ (l:List Env),(∀ b∈gI l,b∈X.fs)->X.s₀.heap.FunFrames X.base l->s.heap.FunFrames X.base l:=by
  intro l
  induction l with
  | nil=>intro _ _;trivial
  | cons env r ih=>
   intro hs hl
   obtain⟨hk,⟨L,o,hf,hn,ho,hd⟩,hr⟩:=hl
   have hL:L∈X.fs:=hs L (by unfold gI;rw[adm,hf];exact aaR)
   obtain⟨sl,e⟩:=I.base.slot L o ho (I.ok.r9 L hL) hL fun z=>I.ok.pG L z hL
   exact⟨hk,⟨L,_,hf,hn,e,hd⟩,ih (fun b hb=>hs b (by unfold gI;rw[adm,hf];exact aaL _ hb)) hr⟩
 exact all X.outer (fun _ hb=>hb) I.ok.iu
theorem Inv.stack (I:Inv X pins σ H s):s.heap.FunFrames X.base X.stack:=by
 rcases I.ok.xK with e|⟨e,hf⟩
 ·rw[e];exact I.iu
 ·rw[e]
  obtain⟨m,hn,_⟩:=I.loc
  refine .cons (by rw[I.ok.kind];decide) hf hn ?_ I.iu
  exact acW (aag I.ok.pF I.ok.above)
theorem Inv.dJ (I:Inv X pins σ H s):∀ b∈gI X.stack,b∈X.env.locals::X.fs:=fun b hb=>by
 rcases I.ok.xK with e|⟨e,hf⟩
 ·rw[e] at hb;exact aaL _ hb
 ·rw[e] at hb
  unfold gI at hb
  rw[adm,hf] at hb
  exact hb
theorem Inv.kf (I:Inv X pins σ H s):∀ b∈gI X.stack,H b=none:=fun b hb=>by
 rcases aaf.mp (I.dJ b hb) with e|hb
 ·rw[e];exact I.free
 ·obtain⟨_,o,ho,_⟩:=I.ok.iu.mem hb
  exact I.base.free b o ho (I.ok.r9 b hb) fun z=>I.ok.pG b z hb
theorem Inv.step {g':Array GenState}{t':Nat}{d':Drawn}{ch:List Addr}(I:Inv X pins σ H s)
  (GD:∀ b∈ch,(b∈X.ex\/X.s₀.heap.objs.size<=b)/\b≠X.env.locals/\(∀ x c,X.env.cells.lookup x=some c->c≠b)/\∀ p∈X.pn++pins,p.1≠b)
  (keep:∀ b o,b≠X.env.locals->b∉X.fs->b∉ch->s.heap.get? b=some o->H b=none->h'.get? b=some o)
  (slot:∀ b o,b≠X.env.locals->b∈X.fs->b∉ch->s.heap.get? b=some o->H b=none->∃ sl,h'.get? b=some { o with slots:=sl }) (free:∀ b o,b∉ch->s.heap.get? b=some o->H b=none->H' b=none)
  (there:∀ b o,b∉ch->s.heap.get? b=some o->∃ o',h'.get? b=some o')
  (iq:∀ b xs,H b=some (.tup xs)->H' b=some (.tup xs)) (gC:∀ b o u,H b=some (.mw o u)->H' b=some (.mw o u)) (ir:∀ b ps,H b=some (.Jl ps)->∃ more,H' b=some (.Jl (ps++more)))
  (ns:∀ m,s.heap.Ns X.env.locals m->h'.Ns X.env.locals m) (bE:kD X.prog X.w H' h') (hg:AllBare g') :
  Inv X pins σ H' { s with heap:=h',gens:=g',drawn:=d',toks:=t' }:=by
 have Vx:∀ b o,X.s₀.heap.get? b=some o->b≠X.env.locals:=fun b o e=>aal (aak (aae e) I.ok.above)
 have Rx:∀ b o,X.s₀.heap.get? b=some o->b∉X.ex->b∉ch:=fun b o e hx hb=>by
  rcases (GD b hb).1 with z|z
  ·exact hx z
  ·exact absurd (aak (aae e) z) (abo _)
 have cellK:∀ x c,X.env.cells.lookup x=some c->∀ v,s.heap.IsCell c v->h'.IsCell c v:=fun x c e v ⟨o,ho,hd⟩=>by
  have NW:c∉ch:=fun z=>(GD c z).2.2.1 x c e rfl
  by_cases hc:c∈X.fs
  ·obtain⟨sl,q⟩:=slot c o (I.CJ x c e) hc NW ho (I.dY x c e)
   exact⟨_,q,hd⟩
  ·exact⟨o,keep c o (I.CJ x c e) hc NW ho (I.dY x c e),hd⟩
 refine⟨I.ok,fun p hp=>gC _ _ _ (I.vC p hp),I.os,hg,⟨fun b o e n hb hx=>?_,fun b o e n hb hx=>?_,fun b o e n hx=>?_,fun b o e hx=>?_,fun b xs e=>iq b xs (I.base.iq b xs e),fun b o xs e=>gC b o xs (I.base.gC b o xs e),fun b ps e=>?_⟩,?_,fun x c e=>?_,?_,fun x c e=>?_,fun p hp=>?_,bE,I.len⟩
 ·exact keep b o (Vx b o e) hb (Rx b o e hx) (I.base.keep b o e n hb hx) (I.base.free b o e n hx)
 ·obtain⟨sl,e1⟩:=I.base.slot b o e n hb hx
  obtain⟨vH,e2⟩:=slot b _ (Vx b o e) hb (Rx b o e hx) e1 (I.base.free b o e n hx)
  exact⟨vH,e2⟩
 ·obtain⟨o',e1⟩:=I.base.there b o e hx
  exact free b o' (Rx b o e hx) e1 (I.base.free b o e n hx)
 ·obtain⟨o',e1⟩:=I.base.there b o e hx
  exact there b o' (Rx b o e hx) e1
 ·obtain⟨m1,e1⟩:=I.base.ir b ps e
  obtain⟨m2,e2⟩:=ir b _ e1
  exact⟨m1++m2,by rw[e2,Array.append_assoc]⟩
 ·obtain⟨m,hn,hl⟩:=I.loc
  refine⟨m,ns m hn,fun i x v e1 e2 e3=>?_⟩
  obtain⟨u,r,l⟩:=hl i x v e1 e2 e3
  refine⟨u,r,?_⟩
  rcases l with l|⟨k,c,e,z⟩
  ·exact .inl l
  ·exact .inr ⟨k,c,e,cellK x c e _ z⟩
 ·obtain⟨v,z⟩:=I.cell x c e
  exact⟨v,cellK x c e v z⟩
 ·obtain⟨m,⟨o,_,_,ho,_⟩,_⟩:=I.loc
  exact free _ o (fun z=>(GD _ z).2.1 rfl) ho I.free
 ·obtain⟨v,o,ho,hd⟩:=I.cell x c e
  exact free c o (fun z=>(GD c z).2.2.1 x c e rfl) ho (I.dY x c e)
 ·obtain⟨e,n,ne,nf,d⟩:=I.pin p hp
  have NW:p.1∉ch:=fun z=>(GD p.1 z).2.2.2 p hp rfl
  exact⟨keep p.1 p.2 ne nf NW e n,free p.1 p.2 NW e n,ne,nf,d⟩
theorem Inv.un {t':Nat}(I:Inv X pins σ H s)(u:Un X.fs [] H H' s.heap h')(bE:kD X.prog X.w H' h'):Inv X pins σ H' { s with heap:=h',toks:=t' }:=by
 obtain⟨m,⟨o,es,ep,ho,r⟩,_⟩:=id I.loc
 obtain⟨sl,hL⟩:=u.any ho I.free (by simp)
 exact I.step (g':=s.gens) (d':=s.drawn) (ch:=[]) (fun _ z=>nomatch z) (fun b o _ hb _ e n=>u.keep b o e n hb (by simp)) (fun b o _ hb _ e n=>u.slot b o e n hb (by simp)) (fun b o _ e n=>u.free b o e n (by simp)) (fun b o _ e=>u.there b o e (by simp)) u.iq u.gC u.ir (fun m' hm=>by
  obtain⟨o',A7,Sg,xC,r'⟩:=hm
  rw[ho] at xC;cases xC
  exact⟨_,A7,Sg,hL,r'⟩) bE I.bare
theorem Inv.call {g':Array GenState}{t':Nat}{d':Drawn}{ch:List Addr}(I:Inv X pins σ H s)(u:Un (gI X.stack) ch H H' s.heap h')(bE:kD X.prog X.w H' h')(hg:AllBare g')
  (GD:∀ b∈ch,(b∈X.ex\/X.s₀.heap.objs.size<=b)/\b≠X.env.locals/\(∀ x c,X.env.cells.lookup x=some c->c≠b)/\∀ p∈X.pn++pins,p.1≠b) :
  Inv X pins σ H' { s with heap:=h',gens:=g',drawn:=d',toks:=t' }:=by
 obtain⟨m,⟨o,es,ep,ho,r⟩,_⟩:=id I.loc
 obtain⟨sl,hL⟩:=u.any ho I.free fun z=>(GD _ z).2.1 rfl
 exact I.step (ch:=ch) GD (fun b o hL hb hc e n=>u.keep b o e n (fun z=>(aaf.mp (I.dJ b z)).elim hL hb) hc) (fun b o _ _ hc e n=>u.any e n hc) (fun b o hc e n=>u.free b o e n hc) (fun b o hc e=>u.there b o e hc) u.iq u.gC u.ir (fun m' hm=>by
  obtain⟨o',A7,Sg,xC,r'⟩:=hm
  rw[ho] at xC;cases xC
  exact⟨_,A7,Sg,hL,r'⟩) bE hg
theorem Inv.turned {t':Nat}{it:Addr}(I:Inv X pins σ H s)(k:∀ b o,b≠it->s.heap.get? b=some o->h'.get? b=some o)(hn:H it=none)(hL:it≠X.env.locals)
  (h1:it∈X.ex\/X.s₀.heap.objs.size<=it) (h2:∀ x c,X.env.cells.lookup x=some c->c≠it) (h3:∀ p∈X.pn++pins,p.1≠it):Inv X pins σ H { s with heap:=h',toks:=t' }:=by
 have Vy:∀ b u,H b=some u->b≠it:=fun b u e z=>by rw[z,hn] at e;cases e
 refine I.step (g':=s.gens) (d':=s.drawn) (ch:=[it]) (fun b hb=>?_) (fun b o _ _ hc e _=>k b o (fun z=>hc (by simp[z])) e) (fun b o _ _ hc e _=>⟨o.slots,k b o (fun z=>hc (by simp[z])) e⟩) (fun _ _ _ _ n=>n)
  (fun b o hc e=>⟨o,k b o (fun z=>hc (by simp[z])) e⟩) (fun _ _ e=>e) (fun _ _ _ e=>e) (fun b ps e=>⟨#[],by rw[e];simp⟩) (fun m hm=>?_) (fun b u e=>?_) I.bare
 ·have e:b=it:=by simpa using hb
  subst e
  exact⟨h1,hL,h2,h3⟩
 ·obtain⟨o,es,ep,ho,r⟩:=hm
  exact⟨o,es,ep,k _ o (Ne.symm hL) ho,r⟩
 ·refine (I.bE b u e).rK (fun c v hc q=>k c v ?_ q) (fun _ q=>q) fun _ _ q=>q
  rcases hc with z|z
  ·rw[z];exact Vy b u e
  ·exact Vy c _ z
theorem Inv.CA (I:Inv X pins σ H s)(hc:X.bq=true):Still X.A s.heap:=by
 rcases I.ok.hs hc with z|⟨e,o,u,vs,hh,hm,r⟩
 ·exact .inl z
 ·exact .inr ⟨e,o,vs,hh,(I.bE e _ (I.vC _ hm)).1,r⟩
theorem Inv.Jm (I:Inv X pins σ H s)(hc:X.bq=true){b:Addr}(n:H b=none):X.A.handled≠some (.ref b):=by
 rcases I.ok.hs hc with z|⟨e,o,u,vs,hh,hm,r⟩
 ·rw[z];intro c;cases c
 ·rw[hh];intro c;cases c
  have y:=I.vC _ hm
  have y':H b=some (.mw o u):=y
  rw[n] at y';cases y'
theorem Inv.tok (I:Inv X pins σ H s)(t:Nat):Inv X pins σ H { s with toks:=t }:=I.un (h':=s.heap) (t':=t) Un.refl I.bE
theorem Inv.kept {t':Nat}(I:Inv X pins σ H s)(k:∀ b u,s.heap.get? b=some u->h'.get? b=some u):Inv X pins σ H { s with heap:=h',toks:=t' }:=I.un (Un.kept k) (I.bE.kept k)
theorem Inv.laid {a:Addr}{o:HO}{t':Nat}(I:Inv X pins σ H s)(k:∀ b u,s.heap.get? b=some u->h'.get? b=some u)(hp:s.heap.objs.size<=a)(new:bJ X.prog X.w (upd H a o) h' a o) :
  Inv X pins σ (upd H a o) { s with heap:=h',toks:=t' }:=I.un (Un.laid k hp (I.bE.fresh hp)) (I.bE.laid k hp new)
theorem Inv.write {x e:Addr}{o:HO}{t':Nat}(I:Inv X pins σ H s)(mu:Rv (H x))(he:e=x\/H e=some (.own x))(k:∀ b u,b≠e->s.heap.get? b=some u->h'.get? b=some u)(Nb:∃ u,h'.get? e=some u)
  (new:bJ X.prog X.w (upd H x o) h' x o):Inv X pins σ (upd H x o) { s with heap:=h',toks:=t' }:=I.un (Un.write mu he k Nb) (I.bE.write mu he k Nb new)
theorem Inv.zC {Jn:List (Addr × Obj)}(I:Inv X pins σ H s)(h:∀ p∈Jn,s.heap.get? p.1=some p.2/\H p.1=none/\p.1≠X.env.locals/\p.1∉X.fs/\∀ v,p.2.data≠.cell v):Inv X Jn σ H s:=
 ⟨I.ok,I.vC,I.os,I.bare,I.base,I.loc,I.cell,I.free,I.dY,fun p hp=>(aa9.mp hp).elim (fun z=>I.pin p (adf _ z)) (h p),I.bE,I.len⟩
theorem lM {N:List Str}(hN:N.Nodup){i j:Nat}{x:Str}(a:N[i]?=some x)(b:N[j]?=some x):i=j:=by
 obtain⟨h1,e1⟩:=abm.mp a
 obtain⟨h2,e2⟩:=abm.mp b
 exact (List.getElem_inj hN).mp (e1.trans e2.symm)
theorem iw {M:Model}{A:Around}{E:Value->Shared->Prop}{i:Nat}{x:Str}{v:V}{u:Value}{Q:Unit->Shared->Prop}(I:Inv X pins σ H s)(hN:X.N.Nodup)(hi:X.N[i]?=some x)(hx:Loc X.env.scope x)(r:RelV v u)
  (h:∀ s',Inv X pins (σ.set i (some v)) H s'->(∃ a,Heap.SameBut a s.heap s'.heap/\(a=X.env.locals\/X.env.cells.lookup x=some a))->Q () s') (hf:X.fn x=true\/X.env.scope.names.lookup x=some .local:=by first|exact .inl rfl|exact .inr rfl|assumption):wpAny M A (storeName X.env x u) Q E s:=by
 obtain⟨m,hn,hl⟩:=id I.loc
 have Kq:(X.env.scope.kind==.class || (X.env.scope.kind==.module&&X.env.locals != X.env.globals))=false:=by rw[I.ok.kind];rfl
 have NX:i<σ.length:=by rw[I.len];exact (abm.mp hi).1
 have CJ:=I.CJ
 have tracked:∀ {a:Addr}{h':Heap},(∃ o,s.heap.get? a=some o/\H a=none)->Heap.SameBut a s.heap h'->kD X.prog X.w H h':=fun {a h'} ha hs b ob e=>by
  obtain⟨_,_,Jo⟩:=ha
  refine (I.bE b ob e).rK (fun c w' hc q=>(hs.2 c ?_).trans q) (fun _ q=>q) fun _ _ q=>q
  rintro rfl
  rcases hc with rfl|hc
  ·rw[Jo] at e;cases e
  ·rw[Jo] at hc;cases hc
 rcases hx with hk|hk
 ·refine wpAny_storeName_local hk hn (fun h' Ng hs=>?_) Kq
  obtain⟨oL,_,_,zD,_⟩:=id hn
  refine h _ ⟨I.ok,I.vC,I.os,I.bare,⟨fun b o e n hb hx=>?_,fun b o e n hb hx=>?_,I.base.free,fun b o e hx=>?_,I.base.iq,I.base.gC,I.base.ir⟩,⟨_,Ng,fun j y v' e1 e2 e3=>?_⟩,fun y c e=>?_,I.free,I.dY,fun p hp=>?_,tracked ⟨oL,zD,I.free⟩ hs,by simpa using I.len⟩ ⟨_,hs,.inl rfl⟩
  ·exact (hs.2 b (aal (aak (aae e) I.ok.above))).trans (I.base.keep b o e n hb hx)
  ·obtain⟨sl,e1⟩:=I.base.slot b o e n hb hx
   exact⟨sl,(hs.2 b (aal (aak (aae e) I.ok.above))).trans e1⟩
  ·obtain⟨o',e1⟩:=I.base.there b o e hx
   exact⟨o',(hs.2 b (aal (aak (aae e) I.ok.above))).trans e1⟩
  ·by_cases hj:j=i
   ·subst hj
    rw[hi] at e1;cases e1
    rw[adZ NX] at e2
    cases e2
    exact⟨u,r,.inl ⟨hk,by simp⟩⟩
   ·rw[ad8 (Ne.symm hj)] at e2
    obtain⟨u',r',q⟩:=hl j y v' e1 e2 e3
    refine⟨u',r',?_⟩
    rcases q with ⟨k,e⟩|⟨k,c,e,z⟩
    ·refine .inl ⟨k,?_⟩
     have:y≠x:=fun e=>hj (lM hN e1 (e▸hi))
     simp[this,e]
    ·exact .inr ⟨k,c,e,z.sameBut hs (CJ y c e)⟩
  ·obtain⟨w',z⟩:=I.cell y c e
   exact⟨w',z.sameBut hs (CJ y c e)⟩
  ·obtain⟨e,n,ne,nf,d⟩:=I.pin p hp
   exact⟨(hs.2 p.1 ne).trans e,n,ne,nf,d⟩
 ·have Si:X.fn x=true:=by
   rcases hf with z|z
   ·exact z
   ·rw[z] at hk;cases hk
  obtain⟨c,hc⟩:=I.ok.has x (.inl hk)
  obtain⟨w',z⟩:=I.cell x c hc
  refine wpAny_storeName_cell I.ok.kind hk hc z (fun h' nL hs=>?_)
  obtain⟨oc,Vz,Sj⟩:=id z
  refine h { s with heap:=h' } ⟨I.ok,I.vC,I.os,I.bare,⟨fun b o e n hb hx=>?_,fun b o e n hb hx=>?_,I.base.free,fun b o e hx=>?_,I.base.iq,I.base.gC,I.base.ir⟩,⟨m,hn.sameBut hs (Ne.symm (CJ x c hc)),fun j y v' e1 e2 e3=>?_⟩,fun y c' e=>?_,I.free,I.dY,fun p hp=>?_,tracked ⟨oc,Vz,I.dY x c hc⟩ hs,by simpa using I.len⟩ ⟨c,hs,.inr hc⟩
  ·exact (hs.2 b (aal (aak (aae e) (I.ok.Cz x c Si hc)))).trans (I.base.keep b o e n hb hx)
  ·obtain⟨sl,e1⟩:=I.base.slot b o e n hb hx
   exact⟨sl,(hs.2 b (aal (aak (aae e) (I.ok.Cz x c Si hc)))).trans e1⟩
  ·obtain⟨o',e1⟩:=I.base.there b o e hx
   exact⟨o',(hs.2 b (aal (aak (aae e) (I.ok.Cz x c Si hc)))).trans e1⟩
  ·by_cases hj:j=i
   ·subst hj
    rw[hi] at e1;cases e1
    rw[adZ NX] at e2
    cases e2
    exact⟨u,r,.inr ⟨.inl hk,c,hc,nL⟩⟩
   ·rw[ad8 (Ne.symm hj)] at e2
    obtain⟨u',r',q⟩:=hl j y v' e1 e2 e3
    refine⟨u',r',?_⟩
    rcases q with q|⟨k,c',e,z'⟩
    ·exact .inl q
    ·refine .inr ⟨k,c',e,z'.sameBut hs ?_⟩
     rintro rfl
     exact hj (lM hN e1 (I.ok.inj _ _ _ e hc▸hi))
  ·by_cases VA:c'=c
   ·subst VA;exact⟨_,nL⟩
   ·obtain⟨w2,z2⟩:=I.cell y c' e
    exact⟨w2,z2.sameBut hs VA⟩
  ·obtain⟨e,n,ne,nf,d⟩:=I.pin p hp
   refine⟨(hs.2 p.1 ?_).trans e,n,ne,nf,d⟩
   intro q
   rw[q,Vz] at e
   have q':oc=p.2:=aac e
   exact d w' (by rw[<- q'];exact Sj)
theorem jz {M:Model}{A:Around}{E:Value->Shared->Prop}{i:Nat}{x:Str}{v:V}{u:Value}{Q:Unit->Shared->Prop}(I:Inv X pins σ H s)(hN:X.N.Nodup)(hi:X.N[i]?=some x)(hx:Loc X.env.scope x)(r:RelV v u)
  (h:∀ s',Inv X pins (σ.set i (some v)) H s'->Q () s') (hf:X.fn x=true\/X.env.scope.names.lookup x=some .local:=by first|exact .inl rfl|exact .inr rfl|assumption):wpAny M A (storeName X.env x u) Q E s:=
 iw I hN hi hx r (fun s' I' _=>h s' I') hf
theorem Inv.nM {s':Shared}{ch:List Addr}(I:Inv X pins σ H s)(ho:s'.os=s.os)(u:Un (gI X.stack) ch H H' s.heap s'.heap)(bE:kD X.prog X.w H' s'.heap)(hg:AllBare s'.gens)
  (GD:∀ b∈ch,(b∈X.ex\/X.s₀.heap.objs.size<=b)/\b≠X.env.locals/\(∀ x c,X.env.cells.lookup x=some c->c≠b)/\∀ p∈X.pn++pins,p.1≠b):Inv X pins σ H' s':=by
 obtain⟨h',g',d',t',o'⟩:=s'
 have e:o'=s.os:=ho
 subst e
 exact I.call (g':=g') (t':=t') (d':=d') u bE hg GD
end
abbrev XK:=Value->Option Addr->Hp->Prop
abbrev St:=List (Option V)
abbrev VK:=V->Hp->Prop
abbrev TE:=St->Hp->VK->Prop
abbrev TT:=St->Hp->(Bool->Hp->Prop)->Prop
abbrev TA:=St->Hp->(List V->Hp->Prop)->Prop
structure Ends where
 nx:St->Hp->Prop
 rt:VK
 bk:St->Hp->Prop:=fun _ _=>False
 ct:St->Hp->Prop:=fun _ _=>False
abbrev TS:=Ends->St->Hp->Prop
def EP (X:Cx)(pins:List (Addr × Obj))(σ:St)(Q:VK)(u:Value)(s':Shared):Prop:=∃ v H',Inv X pins σ H' s'/\RelV v u/\Q v H'
def TP (X:Cx)(pins:List (Addr × Obj))(σ:St)(Q:Bool->Hp->Prop)(b:Bool)(s':Shared):Prop:=∃ H',Inv X pins σ H' s'/\Q b H'
def AP (X:Cx)(pins:List (Addr × Obj))(σ:St)(Q:List V->Hp->Prop)(us:List Value)(s':Shared):Prop:=∃ vs H',Inv X pins σ H' s'/\Vals vs us/\Q vs H'
def SP (X:Cx)(pins:List (Addr × Obj))(D:Ends)(f:Flow)(s':Shared):Prop:=
 match f with
 | .next=>∃ σ' H',Inv X pins σ' H' s'/\D.nx σ' H'
 | .brk=>∃ σ' H',Inv X pins σ' H' s'/\D.bk σ' H'
 | .cont=>∃ σ' H',Inv X pins σ' H' s'/\D.ct σ' H'
 | .ret u=>∃ v σ' H',Inv X pins σ' H' s'/\RelV v u/\D.rt v H'
def PE (X:Cx)(e:Expr)(t:TE):Prop:=
 ∀ (pins:List (Addr × Obj)) (s:Shared) (σ:St) (H:Hp) (Q:VK),Inv X pins σ H s->t σ H Q->wpAny (model X.prog X.w) X.A (eval e X.env) (EP X pins σ Q) X.xe s
def PT (X:Cx)(e:Expr)(t:TT):Prop:=
 ∀ (pins:List (Addr × Obj)) (s:Shared) (σ:St) (H:Hp) (Q:Bool->Hp->Prop),Inv X pins σ H s->t σ H Q->wpAny (model X.prog X.w) X.A (isTrue e X.env (eval e X.env)) (TP X pins σ Q) X.xe s
def PW (X:Cx)(e:Expr)(t:TT):Prop:=
 ∀ (whole:Sem Value) (pins:List (Addr × Obj)) (s:Shared) (σ:St) (H:Hp) (Q:Bool->Hp->Prop),Inv X pins σ H s->t σ H Q->wpAny (model X.prog X.w) X.A (isTrue e X.env whole) (TP X pins σ Q) X.xe s
theorem PW.pt {X:Cx}{e:Expr}{t:TT}(h:PW X e t):PT X e t:=h _
def PA (X:Cx)(es:List Expr)(t:TA):Prop:=
 ∀ (pos:Pos) (pins:List (Addr × Obj)) (s:Shared) (σ:St) (H:Hp) (Q:List V->Hp->Prop),Inv X pins σ H s->t σ H Q->wpAny (model X.prog X.w) X.A (spliced (backTo pos (starEach es X.env))) (AP X pins σ Q) X.xe s
def PS (X:Cx)(st:Stmt)(t:TS):Prop:=
 ∀ (pins:List (Addr × Obj)) (s:Shared) (σ:St) (H:Hp) (D:Ends),Inv X pins σ H s->t D σ H->wpAny (model X.prog X.w) X.A (exec st X.env) (SP X pins D) X.xe s
def oO (X:Cx)(st:List Stmt)(t:TS):Prop:=
 ∀ (pins:List (Addr × Obj)) (s:Shared) (σ:St) (H:Hp) (D:Ends),Inv X pins σ H s->t D σ H->wpAny (model X.prog X.w) X.A (execs st X.env) (SP X pins D) X.xe s
theorem dC {α:Type}{t:Sem α}{Q Q':α->Shared->Prop}{M:Model}{A:Around}{E:Value->Shared->Prop}{s:Shared}(h:wpAny M A t Q E s)(hQ:∀ a s,Q a s->Q' a s):wpAny M A t Q' E s:=aav h hQ fun _ _ x=>x
section
variable {X:Cx}
inductive Kr (i:Nat)(σ:St)(H:Hp)(Q:VK):Prop
 | mk:∀ v,(σ[i]?=some (some v))->(Q v H)->Kr i σ H Q
def tC (v:V):TE:=fun _ H Q=>Q v H
theorem Ks {i:Nat}{x:Str}{pos:Pos}(hN:X.N[i]?=some x)(hv:Kp X.env.scope x)(hd:(x==("__debug__":Str))=false:=by decide)(xD:(x==("__classdict__":Str))=false:=by decide):PE X (.Name x pos) (Kr i):=by
 intro pins s σ H Q I h
 obtain⟨v,e,h⟩:=h
 obtain⟨m,hn,hl⟩:=I.loc
 obtain⟨u,r,l⟩:=hl i x v hN e hv
 have fin:EP X pins σ Q u s:=⟨v,H,I,r,h⟩
 rcases l with ⟨hk,hm⟩|⟨hk,c,hc,kE⟩
 ·exact wpAny_Name (wpAny_loadName_local I.ok.kind hk hn hm fin) hd
 ·rcases hk with hk|hk
  ·exact wpAny_Name (wpAny_loadName_cell I.ok.kind hk hc kE fin) hd
  ·exact wpAny_Name (wpAny_loadName_free I.ok.kind hk hc kE fin xD) hd
theorem ae {i j pos}:PE X (.Constant (.int i) j pos) (tC (.int i)):=fun _ _ _ H _ I h=>wpAny_Constant_int ⟨.int i,H,I.tok _,⟨_,rfl⟩,h⟩
theorem kF {b j pos}:PE X (.Constant (.bool b) j pos) (tC (.bl b)):=fun _ _ _ H _ I h=>Constant_bool ⟨.bl b,H,I,rfl,h⟩
theorem Kt {x j pos}:PE X (.Constant (.str x) j pos) (tC (.str x)):=fun _ _ _ H _ I h=>Calls.Constant_str ⟨.str x,H,I.tok _,⟨_,rfl⟩,h⟩
def Gl (X:Cx)(x:Str):Prop:=X.env.kindOf x=some .globalImplicit
theorem iM {E:Value->Shared->Prop}{pins:List (Addr × Obj)}{s:Shared}{σ:St}{H:Hp}{x:Str}{u:Value}{pos:Pos}{Q:Value->Shared->Prop}(I:Inv X pins σ H s)(hg:Gl X x)(hm:X.mg x=some u)(h:Q u s)
  (hd:(x==("__debug__":Str))=false:=by decide):wpAny (model X.prog X.w) X.A (eval (.Name x pos) X.env) Q E s:=
 Calls.Name_function_global I.ok.kind hg (Calls.loadGlobal_global (by rw[I.ok.glob];exact I.mod.glob.keeps I.bk) hm h) hd
theorem mx {E:Value->Shared->Prop}{pins:List (Addr × Obj)}{s:Shared}{σ:St}{H:Hp}{x:Str}{u:Value}{pos:Pos}{Q:Value->Shared->Prop}(I:Inv X pins σ H s)(hg:Gl X x)(hm:X.mg x=none)(hv:bootBuiltins x=some u)(h:Q u s)
  (hn:x≠"__name__":=by decide) (hd:(x==("__debug__":Str))=false:=by decide):wpAny (model X.prog X.w) X.A (eval (.Name x pos) X.env) Q E s:=by
 obtain⟨mb,h1,h2⟩:=I.mod.blt
 exact Calls.Name_function_global I.ok.kind hg (Calls.loadGlobal_builtin (by rw[I.ok.glob];exact I.mod.glob.keeps I.bk) hm (by rw[I.ok.blt];exact h1.keeps I.bk) ((h2 x hn).trans hv) h) hd
theorem fG {x:Str}{v:V}{u:Value}{pos:Pos}(hg:Gl X x)(hm:X.mg x=some u)(r:RelV v u)(hd:(x==("__debug__":Str))=false:=by decide):PE X (.Name x pos) (tC v):=
 fun _ _ _ H _ I h=>iM I hg hm ⟨v,H,I,r,h⟩ hd
theorem oP {x:Str}{v:V}{u:Value}{pos:Pos}(hg:Gl X x)(hm:X.mg x=none)(hv:bootBuiltins x=some u)(r:RelV v u)(hn:x≠"__name__":=by decide)(hd:(x==("__debug__":Str))=false:=by decide):PE X (.Name x pos) (tC v):=
 fun _ _ _ H _ I h=>mx I hg hm hv ⟨v,H,I,r,h⟩ hn hd
variable {a b:Expr}{ta tb:TE}{pos:Pos}
inductive VB (Q:Bool->Hp->Prop)(x:V)(H1:Hp):Prop
 | mk:∀ c,(x=.bl c)->(Q c H1)->VB Q x H1
def tB (t:TE):TT:=fun σ H Q=>t σ H fun x H1=>VB Q x H1
theorem eN {e:Expr}{t:TE}(h:PE X e t)(he:∀ whole,isTrue e X.env whole=(do let v <- whole;standAt e.pos;holding [v] (truthy v)):=by intro _;rfl):PT X e (tB t):=by
 intro pins s σ H Q I hw
 refine isTrue_plain (dC (h pins s σ H _ I hw) fun v s1 ⟨x,H1,I1,r1,q1⟩=>?_) (he _)
 obtain⟨d,rfl,q⟩:=q1
 cases r1
 exact acN ⟨H1,I1,q⟩
variable {tA Ry:TT}{rest:List Expr}
def Sk (t u:TT):TT:=fun σ H Q=>t σ H fun c H1=>if c=true then u σ H1 Q else Q false H1
def Xa (t u:TT):TT:=fun σ H Q=>t σ H fun c H1=>if c=true then Q true H1 else u σ H1 Q
def Sl (t:TT):TT:=fun σ H Q=>t σ H fun c H1=>Q (!c) H1
theorem iN (ha:PT X a tA):PW X (.BoolOp .And [a] pos) tA:=by
 intro wh pins s σ H Q I h
 refine isTrue_and (dC (ha pins s σ H Q I h) fun c s1 e=>?_)
 cases c with
 | true=>exact isTrue_and_nil e
 | false=>exact e
theorem tF (ha:PT X a tA):PW X (.BoolOp .Or [a] pos) tA:=by
 intro wh pins s σ H Q I h
 refine isTrue_or (dC (ha pins s σ H Q I h) fun c s1 e=>?_)
 cases c with
 | false=>exact isTrue_or_nil e
 | true=>exact e
theorem kP (ha:PT X a tA)(hb:PW X (.BoolOp .And (b::rest) pos) Ry):PW X (.BoolOp .And (a::b::rest) pos) (Sk tA Ry):=by
 intro wh pins s σ H Q I h
 refine isTrue_and (dC (ha pins s σ H _ I h) fun c s1 ⟨H1,I1,q1⟩=>?_)
 cases c with
 | true=>exact hb wh pins s1 σ H1 Q I1 q1
 | false=>exact⟨H1,I1,q1⟩
theorem zE (ha:PT X a tA)(hb:PW X (.BoolOp .Or (b::rest) pos) Ry):PW X (.BoolOp .Or (a::b::rest) pos) (Xa tA Ry):=by
 intro wh pins s σ H Q I h
 refine isTrue_or (dC (ha pins s σ H _ I h) fun c s1 ⟨H1,I1,q1⟩=>?_)
 cases c with
 | true=>exact⟨H1,I1,q1⟩
 | false=>exact hb wh pins s1 σ H1 Q I1 q1
theorem kQ (ha:PT X a tA):PT X (.UnaryOp .Not a pos) (Sl tA):=by
 intro pins s σ H Q I h
 exact isTrue_not (ha pins s σ H (fun c H1=>Q (!c) H1) I h)
inductive CK (tb:TE)(σ:St)(Q:VK)(x:V)(H1:Hp):Prop
 | mk:∀ c,(x=.bl c)->(if c=true then tb σ H1 Q else Q (.bl false) H1)->CK tb σ Q x H1
def NY (ta tb:TE):TE:=fun σ H Q=>ta σ H fun x H1=>CK tb σ Q x H1
inductive Jp (tb:TE)(σ:St)(Q:VK)(x:V)(H1:Hp):Prop
 | mk:∀ c,(x=.bl c)->(if c=true then Q (.bl true) H1 else tb σ H1 Q)->Jp tb σ Q x H1
def Sn (ta tb:TE):TE:=fun σ H Q=>ta σ H fun x H1=>Jp tb σ Q x H1
inductive CL (Q:VK)(x:V)(H1:Hp):Prop
 | mk:∀ c,(x=.bl c)->(Q (.bl (!c)) H1)->CL Q x H1
def N0 (ta:TE):TE:=fun σ H Q=>ta σ H fun x H1=>CL Q x H1
theorem my {op}{t:TE}(h:PE X a t):PE X (.BoolOp op [a] pos) t:=fun pins s σ H Q I hw=>BoolOp_one (h pins s σ H Q I hw)
theorem pH (ha:PE X a ta)(hb:PE X (.BoolOp .And (b::rest) pos) tb):PE X (.BoolOp .And (a::b::rest) pos) (NY ta tb):=by
 intro pins s σ H Q I h
 refine BoolOp_and (dC (ha pins s σ H _ I h) fun v s1 ⟨x,H1,I1,r1,q1⟩=>?_)
 obtain⟨c,rfl,q1⟩:=q1
 cases r1
 refine acN ?_
 cases c with
 | true=>exact hb pins s1 σ H1 Q I1 q1
 | false=>exact⟨.bl false,H1,I1,rfl,q1⟩
theorem N1 (ha:PE X a ta)(hb:PE X (.BoolOp .Or (b::rest) pos) tb):PE X (.BoolOp .Or (a::b::rest) pos) (Sn ta tb):=by
 intro pins s σ H Q I h
 refine BoolOp_or (dC (ha pins s σ H _ I h) fun v s1 ⟨x,H1,I1,r1,q1⟩=>?_)
 obtain⟨c,rfl,q1⟩:=q1
 cases r1
 refine acN ?_
 cases c with
 | false=>exact hb pins s1 σ H1 Q I1 q1
 | true=>exact⟨.bl true,H1,I1,rfl,q1⟩
theorem CM (ha:PE X a ta):PE X (.UnaryOp .Not a pos) (N0 ta):=by
 intro pins s σ H Q I h
 refine UnaryOp_ (dC (ha pins s σ H _ I h) fun v s1 ⟨x,H1,I1,r1,q1⟩=>?_)
 obtain⟨c,rfl,q1⟩:=q1
 cases r1
 exact not_of (acN ⟨.bl (!c),H1,I1,rfl,q1⟩)
def Xb (t:TT)(ta tb:TE):TE:=fun σ H Q=>t σ H fun c H1=>if c=true then ta σ H1 Q else tb σ H1 Q
theorem jA {c:Expr}(hc:PT X c tA)(ha:PE X a ta)(hb:PE X b tb):PE X (.IfExp c a b pos) (Xb tA ta tb):=by
 intro pins s σ H Q I h
 refine wpAny_IfExp (dC (hc pins s σ H _ I h) fun d s1 ⟨H1,I1,q1⟩=>?_)
 cases d with
 | true=>exact ha pins s1 σ H1 Q I1 q1
 | false=>exact hb pins s1 σ H1 Q I1 q1
end
def aM (K:W.Frag)(H:Hp)(a:Addr)(xs:List V):Prop:=
 Rd H a (.lst xs) \/
  ∃ (o:Obj) (aK:Array Value) (n:Nat),K.lookup a=some o/\o.cls=.type "list"/\o.dict=none/\o.data=.seq aK n/\aK.size<=sizeLine/\Vals xs aK.toList
def aF (K:W.Frag)(H:Hp)(a:Addr)(xs:List V):Prop:=
 Rd H a (.tup xs) \/
  ∃ (o:Obj) (aK:Array Value) (n:Nat),K.lookup a=some o/\o.cls=.type "tuple"/\o.data=.seq aK n/\aK.size<=sizeLine/\Vals xs aK.toList
def So:Value->Option V
 | .none=>some .eI
 | .bool b=>some (.bl b)
 | .int i _=>some (.int i)
 | .str x _=>some (.str x)
 | .bytes b _=>some (.Cy b)
 | .float b _=>some (.Kl b)
 | .ref a=>some (.ref a)
 | .type n=>some (.ty n)
 | _=>none
theorem RelV.abs {x:V}{u:Value}(r:RelV x u):So u=some x:=by
 cases x with
 | eI=>cases r;rfl
 | bl _=>cases r;rfl
 | int _=>obtain⟨t,rfl⟩:=r;rfl
 | str _=>obtain⟨t,rfl⟩:=r;rfl
 | Cy _=>obtain⟨t,rfl⟩:=r;rfl
 | Kl _=>obtain⟨t,rfl⟩:=r;rfl
 | ref _=>cases r;rfl
 | ty _=>cases r;rfl
theorem RelV.inj {x y:V}{u:Value}(r:RelV x u)(q:RelV y u):x=y:=aac (r.abs.symm.trans q.abs)
theorem Vals.inj:∀ {xs ys:List V}{us:List Value},Vals xs us->Vals ys us->xs=ys
 | _,_,_,.nil,.nil=>rfl
 | _,_,_,.cons r t,.cons r' t'=>by rw[r.inj r',Vals.inj t t']
section
variable {X:Cx}{pins:List (Addr × Obj)}{σ:St}{H:Hp}{s:Shared}{a:Addr}{xs ys:List V}
theorem aM.of {K:W.Frag}(h:H a=some (.lst xs)):aM K H a xs:=.inl (.inl h)
theorem aF.of {K:W.Frag}(h:H a=some (.tup xs)):aF K H a xs:=.inl (.inl h)
theorem Inv.list (I:Inv X pins σ H s)(h:aM X.K H a xs):∃ aK:List Value,Vals xs aK/\PlainL s.heap a aK.toArray/\xs.length<=sizeLine:=by
 rcases h with h|⟨o,aK,n,hk,hc,hd,hs,hz,r⟩
 ·obtain⟨z,aK,n,r,e⟩:=h.ok I.bE
  exact⟨aK,r,⟨_,n,e,rfl,rfl,rfl⟩,z⟩
 ·refine⟨aK.toList,r,⟨o,n,I.kA a o hk,hc,hd,by simpa using hs⟩,?_⟩
  have e:=r.length
  simp only[aaU] at e
  omega
theorem Inv.tuple (I:Inv X pins σ H s)(h:aF X.K H a xs):∃ aK:List Value,Vals xs aK/\IsTup s.heap a aK.toArray/\xs.length<=sizeLine:=by
 rcases h with h|⟨o,aK,n,hk,hc,hs,hz,r⟩
 ·obtain⟨z,aK,r,p⟩:=h.ok I.bE
  exact⟨aK,r,p,z⟩
 ·refine⟨aK.toList,r,⟨o,I.kA a o hk,hc,n,by simpa using hs⟩,?_⟩
  have e:=r.length
  simp only[aaU] at e
  omega
theorem Inv.vI (I:Inv X pins σ H s)(h:aM X.K H a xs)(h':aM X.K H a ys):xs=ys:=by
 obtain⟨aK,r,⟨o,n,e,_,_,d⟩,_⟩:=I.list h
 obtain⟨its',r',⟨o',n',e',_,_,d'⟩,_⟩:=I.list h'
 rw[e] at e';cases e'
 rw[d] at d'
 injection d' with d1 _
 have:aK=its':=by simpa using aa2 Array.toList d1
 subst this
 exact r.inj r'
theorem Inv.kg (I:Inv X pins σ H s)(h:aF X.K H a xs)(h':aF X.K H a ys):xs=ys:=by
 obtain⟨aK,r,⟨o,e,_,n,d⟩,_⟩:=I.tuple h
 obtain⟨its',r',⟨o',e',_,n',d'⟩,_⟩:=I.tuple h'
 rw[e] at e';cases e'
 rw[d] at d'
 injection d' with d1 _
 have:aK=its':=by simpa using aa2 Array.toList d1
 subst this
 exact r.inj r'
end
abbrev Cx.ow (X:Cx)(E:Value->Shared->Prop):Cx:={ X with xe:=E }
abbrev Cx.tG (X:Cx):Cx:=X.ow fun _ _=>False
theorem Cx.Ok.ow {X:Cx}(ok:X.Ok)(E:Value->Shared->Prop):(X.ow E).Ok:=
 ⟨ok.mod,ok.kind,ok.glob,ok.blt,ok.above,ok.inj,ok.has,ok.Cz,ok.hd,ok.hs,ok.frames,ok.xK,ok.GS,ok.bs,ok.pF,ok.kO,ok.pG,ok.iu,ok.r9⟩
theorem Cx.Ok.fT {X:Cx}{E:Value->Shared->Prop}(ok:(X.ow E).Ok):X.Ok:=
 ⟨ok.mod,ok.kind,ok.glob,ok.blt,ok.above,ok.inj,ok.has,ok.Cz,ok.hd,ok.hs,ok.frames,ok.xK,ok.GS,ok.bs,ok.pF,ok.kO,ok.pG,ok.iu,ok.r9⟩
section
variable {X:Cx}{pins:List (Addr × Obj)}{σ:St}{H:Hp}{s:Shared}{E:Value->Shared->Prop}
theorem Inv.ow (I:Inv X pins σ H s)(E:Value->Shared->Prop):Inv (X.ow E) pins σ H s:=⟨I.ok.ow E,I.vC,I.os,I.bare,I.base,I.loc,I.cell,I.free,I.dY,I.pin,I.bE,I.len⟩
theorem Inv.fT (I:Inv (X.ow E) pins σ H s):Inv X pins σ H s:=⟨I.ok.fT,I.vC,I.os,I.bare,I.base,I.loc,I.cell,I.free,I.dY,I.pin,I.bE,I.len⟩
theorem SP.fT {D:Ends}{f:Flow}{s':Shared}(h:SP (X.ow E) pins D f s'):SP X pins D f s':=by
 cases f with
 | next=>obtain⟨σ',H',I,q⟩:=h;exact⟨σ',H',I.fT,q⟩
 | brk=>obtain⟨σ',H',I,q⟩:=h;exact⟨σ',H',I.fT,q⟩
 | cont=>obtain⟨σ',H',I,q⟩:=h;exact⟨σ',H',I.fT,q⟩
 | ret u=>obtain⟨v,σ',H',I,r,q⟩:=h;exact⟨v,σ',H',I.fT,r,q⟩
theorem oO.tG {st:List Stmt}{t:TS}(h:oO X.tG st t):oO X st t:=fun pins s σ H D I hw=>
 aav (h pins s σ H D (I.ow _) hw) (fun _ _ q=>q.fT) fun _ _ z=>False.elim z
end
section
variable {X:Cx}{st:Stmt}{rest:List Stmt}{t u:TS}{e:Expr}{te:TE}{pos:Pos}
def N2:TS:=fun D σ H=>D.nx σ H
def Sr (t u:TS):TS:=fun D σ H=>t { D with nx:=u D } σ H
theorem aL:oO X [] N2:=fun _ _ σ H _ I h=>ac5 ⟨σ,H,I,h⟩
theorem ah (h1:PS X st t)(h2:oO X rest u):oO X (st::rest) (Sr t u):=by
 intro pins s σ H D I h
 refine aeb (dC (h1 pins s σ H { D with nx:=u D } I h) fun f s1 q=>?_)
 cases f with
 | next=>
  obtain⟨σ',H',I',q⟩:=q
  exact h2 pins s1 σ' H' D I' q
 | ret v=>exact q
 | brk=>exact q
 | cont=>exact q
theorem ar (h1:PS X st t):oO X [st] t:=by
 intro pins s σ H D I h
 refine aeb (dC (h1 pins s σ H D I h) fun f s1 q=>?_)
 cases f with
 | next=>exact ac5 q
 | ret v=>exact q
 | brk=>exact q
 | cont=>exact q
theorem Inv.quiet {pins:List (Addr × Obj)}{σ:St}{H:Hp}{s:Shared}(I:Inv X pins σ H s):interactive X.env=false:=by simp[interactive,I.ok.kind]
def N4 (te:TE):TS:=fun D σ H=>te σ H fun _ H1=>D.nx σ H1
theorem fH (he:PE X e te)(hs:swapsWith e none pos.line X.env=pure false:=by rfl):PS X (.Expr e pos) (N4 te):=by
 intro pins s σ H D I h
 exact wpAny_Expr_any (dC (he pins s σ H _ I h) fun v s1 ⟨x,H1,I1,r1,q1⟩=>⟨σ,H1,I1,q1⟩) I.quiet hs
def Ss (te:TE):TS:=fun D σ H=>te σ H D.rt
theorem aA (he:PE X e te):PS X (.Return (some e) pos) (Ss te):=by
 intro pins s σ H D I h
 exact wpAny_Return_some (dC (he pins s σ H _ I h) fun v s1 ⟨x,H1,I1,r1,q1⟩=>⟨x,σ,H1,I1,r1,q1⟩)
def Su (c:TT)(t u:TS):TS:=fun D σ H=>c σ H fun b H1=>if b=true then t D σ H1 else u D σ H1
theorem aZ {c:Expr}{a b:List Stmt}{tc:TT}(hc:PT X c tc)(ha:oO X a t)(hb:oO X b u):PS X (.If c a b pos) (Su tc t u):=by
 intro pins s σ H D I h
 refine wpAny_If (dC (hc pins s σ H _ I h) fun d s1 ⟨H1,I1,q1⟩=>?_)
 cases d with
 | true=>exact ha pins s1 σ H1 D I1 q1
 | false=>exact hb pins s1 σ H1 D I1 q1
def Ku:TS:=fun _ _ _=>False
theorem fN {Xc:List Stmt}:oO X Xc Ku:=fun _ _ _ _ _ _ h=>h.elim
end
abbrev TG:=V->St->Hp->(St->Hp->Prop)->Prop
abbrev GU:=List V->St->Hp->(St->Hp->Prop)->Prop
def PG (X:Cx)(target:Expr)(t:TG):Prop:=
 ∀ (pins:List (Addr × Obj)) (s:Shared) (σ:St) (H:Hp) (v:V) (u:Value) (Q:St->Hp->Prop),Inv X pins σ H s->RelV v u->t v σ H Q ->
  wpAny (model X.prog X.w) X.A (assign target X.env u) (fun _ s'=>∃ σ' H',Inv X pins σ' H' s'/\Q σ' H') X.xe s
def Nh (X:Cx)(ts:List Expr)(t:GU):Prop:=
 ∀ (pins:List (Addr × Obj)) (s:Shared) (σ:St) (H:Hp) (vs:List V) (us:List Value) (Q:St->Hp->Prop),Inv X pins σ H s->Vals vs us->t vs σ H Q ->
  wpAny (model X.prog X.w) X.A (assignInOrder ((assignEach ts X.env).map (·.2)) us) (fun _ s'=>∃ σ' H',Inv X pins σ' H' s'/\Q σ' H') X.xe s
abbrev Kv:=V->V->V->Hp->(Hp->Prop)->Prop
def N5 (X:Cx)(t:Kv):Prop:=
 ∀ (pins:List (Addr × Obj)) (s:Shared) (σ:St) (H:Hp) (o i v:V) (ov iv u:Value) (Q:Hp->Prop),Inv X pins σ H s->RelV o ov->RelV i iv->RelV v u->t o i v H Q ->
  wpAny (model X.prog X.w) X.A (setItem ov iv u) (fun _ s'=>∃ H',Inv X pins σ H' s'/\Q H') X.xe s
section
variable {X:Cx}{pos:Pos}
def jB (i:Nat):TG:=fun v σ H Q=>Q (σ.set i (some v)) H
theorem gJ {i:Nat}{x:Str}(hN:X.N.Nodup)(hi:X.N[i]?=some x)(hx:Loc X.env.scope x)(hf:X.fn x=true\/X.env.scope.names.lookup x=some .local:=by first|exact .inl rfl|exact .inr rfl|assumption):PG X (.Name x pos) (jB i):=by
 intro pins s σ H v u Q I r h
 exact adh (jz I hN hi hx r (fun s' I'=>⟨_,H,I',h⟩) hf)
def Kw:GU:=fun vs σ H Q=>vs=[]/\Q σ H
inductive pI (t:TG)(u:GU)(vs:List V)(σ:St)(H:Hp)(Q:St->Hp->Prop):Prop
 | mk:∀ v r,(vs=v::r)->(t v σ H fun σ' H'=>u r σ' H' Q)->pI t u vs σ H Q
theorem dE:Nh X [] Kw:=by
 intro pins s σ H vs us Q I r h
 obtain⟨e,h⟩:=h
 subst e
 cases r
 exact assignInOrder_nil ⟨σ,H,I,h⟩
theorem aD {e:Expr}{es:List Expr}{t:TG}{u:GU}(h1:PG X e t)(h2:Nh X es u)
  (hs:(assignEach (e::es) X.env).map (·.2)=assign e X.env::(assignEach es X.env).map (·.2):=by rfl):Nh X (e::es) (pI t u):=by
 intro pins s σ H vs us Q I r h
 obtain⟨v,vr,e1,h⟩:=h
 subst e1
 cases r with
 | cons r rr=>
  rw[hs]
  refine ae6 (dC (h1 pins s σ H _ _ _ I r h) fun _ s1 ⟨σ1,H1,I1,q1⟩=>?_)
  exact h2 pins s1 σ1 H1 _ _ Q I1 rr q1
inductive CN (K:W.Frag)(n:Nat)(t:GU)(v:V)(σ:St)(H:Hp)(Q:St->Hp->Prop):Prop
 | mk:∀ a xs,(v=.ref a)->(aF K H a xs)->(xs.length=n)->(t xs σ H Q)->CN K n t v σ H Q
theorem xM {es:List Expr}{k:Nat}{t:GU}{n:Nat}(hc:X.bq=true)(h:Nh X es t)
  (hn:(assignEach es X.env).length=n:=by rfl) (oQ:(assignEach es X.env).findIdx? (·.1)=none:=by rfl):PG X (.Tuple es k pos) (CN X.K n t):=by
 intro pins s σ H v u Q I r hw
 obtain⟨a,xs,e1,hq,hl,hw⟩:=hw
 subst e1
 cases r
 obtain⟨aK,rv,ht,hz⟩:=I.tuple hq
 refine kN (I.CA hc) ht (by simp[hn,<- hl,rv.length]) oQ fun h' hx=>?_
 have I1:Inv X pins σ H { s with heap:=h' }:=I.kept (t':=s.toks) fun b o e=>hx b o (aal (aae e)) e
 exact h pins _ σ H xs _ Q I1 (by simpa using rv) hw
def Sv (to ti:TE)(t:Kv):TG:=fun v σ H Q=>to σ H fun o H1=>ti σ H1 fun i H2=>t o i v H2 fun H3=>Q σ H3
theorem Kx {o i:Expr}{to ti:TE}{t:Kv}(ho:PE X o to)(hi:PE X i ti)(hs:N5 X t)
  (ha:∀ v,assign (.Subscript o i pos) X.env v=(do
   let ov <- holding [v] (eval o X.env)
   let iv <- holding [v,ov] (eval i X.env)
   standAt pos
   holding [v,ov,iv] (setItem ov iv v)
   release [v,ov,iv] []):=by intro _;rfl):PG X (.Subscript o i pos) (Sv to ti t):=by
 intro pins s σ H v u Q I r h
 rw[ha]
 refine aaa (aaW (dC (ho pins s σ H _ I h) fun ov s1 ⟨x,H1,I1,r1,q1⟩=>?_))
 refine aaa (aaW (dC (hi pins s1 σ H1 _ I1 q1) fun iv s2 ⟨y,H2,I2,r2,q2⟩=>?_))
 refine aaa (abp (aaa (aaW (dC (hs pins s2 σ H2 x y v ov iv u _ I2 r1 r2 r q2) fun _ s3 ⟨H3,I3,q3⟩=>?_))))
 exact wpAny_release ⟨σ,H3,I3,q3⟩
def Ky (te:TE)(g:TG):TS:=fun D σ H=>te σ H fun x H1=>g x σ H1 D.nx
theorem gT {tg e:Expr}{te:TE}{g:TG}(he:PE X e te)(hg:PG X tg g)(hs:swapsWithSole [tg] e pos.line X.env=pure false:=by rfl)(hw:swappedStores [tg] e X.env=pure none:=by rfl)
  (h1:(assignEach [tg] X.env).map (·.2)=[assign tg X.env]:=by rfl):PS X (.Assign [tg] e pos) (Ky te g):=by
 intro pins s σ H D I h
 refine wpAny_Assign_stores (dC (he pins s σ H _ I h) fun v s1 ⟨x,H1,I1,r1,q1⟩=>?_) hs hw
 rw[h1]
 exact dC (hg pins s1 σ H1 x v _ I1 r1 q1) fun _ s2 q=>q
theorem Kz {i:Nat}{x:Str}{e:Expr}{te:TE}{pos':Pos}(hN:X.N.Nodup)(hi:X.N[i]?=some x)(hx:Loc X.env.scope x)(he:PE X e te)(hs:swapsWith e (some (.Name x pos')) pos.line X.env=pure false:=by rfl)(hf:X.fn x=true\/X.env.scope.names.lookup x=some .local:=by first|exact .inl rfl|exact .inr rfl|assumption) :
  PS X (.Assign [.Name x pos'] e pos) (Ky te (jB i)):=by
 intro pins s σ H D I h
 refine wpAny_Assign_Name (dC (he pins s σ H _ I h) fun v s1 ⟨y,H1,I1,r1,q1⟩=>?_) hs
 exact jz I1 hN hi hx r1 (fun s2 I2=>⟨_,H1,I2,q1⟩) hf
inductive Jq (i:Nat)(j:Nat)(D:Ends)(σ:St)(vs:List V)(H1:Hp):Prop
 | mk:∀ v w,(vs=[v,w])->(D.nx ((σ.set i (some v)).set j (some w)) H1)->Jq i j D σ vs H1
def Sw (i j:Nat)(ta:TA):TS:=fun D σ H=>ta σ H fun vs H1=>Jq i j D σ vs H1
theorem KA {i j:Nat}{x y:Str}{a b:Expr}{ta:TA}{px py pt:Pos}{kt k2 Sx}(hc:X.bq=true)(hN:X.N.Nodup)(hi:X.N[i]?=some x)(hj:X.N[j]?=some y)(GV:i≠j)
  (hx:X.env.scope.names.lookup x=some .local) (hy:X.env.scope.names.lookup y=some .local) (ha:PA X [a,b] ta)
  (hw:swappedStores [.Tuple [.Name x px,.Name y py] kt pt] (.Tuple [a,b] k2 Sx) X.env=pure (some [x,y]))
  (hs:swapsWithSole [.Tuple [.Name x px,.Name y py] kt pt] (.Tuple [a,b] k2 Sx) pos.line X.env=pure false:=by rfl) :
  PS X (.Assign [.Tuple [.Name x px,.Name y py] kt pt] (.Tuple [a,b] k2 Sx) pos) (Sw i j ta):=by
 intro pins s σ H D I h
 rw[exec_Assign_arm]
 refine aaa (abp ?_)
 rw[hs]
 refine aaa (aad ?_)
 rw[aar (by decide)]
 refine aaa (Tuple_ (dC (ha _ pins s σ H _ I h) fun us s1 ⟨vs,H1,I1,r1,q1⟩=>?_))
 obtain⟨v,w,e1,q1⟩:=q1
 subst e1
 obtain⟨u1,u2,rfl,rv,Jr⟩:∃ u1 u2,us=[u1,u2]/\RelV v u1/\RelV w u2:=by
  cases r1 with
  | cons p q=>
   cases q with
   | cons p' q'=>
    cases q'
    exact⟨_,_,rfl,p,p'⟩
 refine aa1 ?_ (by show 2<=sizeLine;decide)
 have I2:Inv X pins σ H1 { s1 with heap:=s1.heap.push { cls:=.type "tuple",data:=.seq [u1,u2].toArray } }:=I1.kept (t':=s1.toks) fun b o e=>aab _ e
 rw[hw]
 refine aaa (aad ?_)
 show wpAny (model X.prog X.w) X.A (do rule "assign.swapped-stores";let items <- unpackItems (.ref s1.heap.objs.size) 2 none;assignInOrder [fun v=>bindName X.env y v,fun v=>bindName X.env x v] items.reverse;pure Flow.next) _ _ _
 refine aaa (acb (aaa (gH (items:=#[u1,u2]) (I2.CA hc) (IsTup.new s1.heap _) fun h' vJ=>?_)))
 have I3:=I2.kept (h':=h') (t':=s1.toks) fun b o e=>vJ b o (aal (aae e)) e
 show wpAny _ _ (assignInOrder [fun v=>bindName X.env y v,fun v=>bindName X.env x v] [u2,u1] >>= fun _=>pure Flow.next) _ _ _
 refine aaa (ae6 (wpAny_bindName (jz I3 hN hj (.inl hy) Jr (fun s2 I4=>?_) (.inr hy))))
 refine ae6 (wpAny_bindName (jz I4 hN hi (.inl hx) rv (fun s3 I5=>assignInOrder_nil (aad ?_)) (.inr hx)))
 rw[List.set_comm _ _ (Ne.symm GV)] at I5
 exact⟨_,H1,I5,q1⟩
end
section
variable {X:Cx}{pos:Pos}
inductive CO (c:TT)(tb:TS)(D:Ends)(σ:St)(H:Hp):Prop
 | mk:∀ (W:Nat->St->Hp->Prop),((∃ m,W m σ H))->(∀ m σ H,W m σ H ->
 c σ H fun b H1=>if b=true then ∃ N:St->Hp->Prop,(∀ σ' H',N σ' H'->∃ m',m'<m/\W m' σ' H')/\tb { D with nx:=N,ct:=N,bk:=D.nx } σ H1 else D.nx σ H1)->CO c tb D σ H
theorem dZ {c:Expr}{body:List Stmt}{tc:TT}{tb:TS}(hp:PassesOwn (model X.prog X.w) X.A X.env X.xe)(hc:PT X c tc)(hb:oO X body tb):PS X (.While c body [] pos) (CO tc tb):=by
 intro pins s σ H D I h
 obtain⟨W,⟨m0,w0⟩,turn⟩:=h
 refine wpAny_While (codeAny_whileLoop (fun n s'=>∃ σ' H',Inv X pins σ' H' s'/\W n σ' H') ?_ m0 ⟨σ,H,I,w0⟩)
 rintro n s1 ⟨σ1,H1,I1,w1⟩
 refine acH hp (dC (hc pins s1 σ1 H1 _ I1 (turn n σ1 H1 w1)) fun b s2 ⟨H2,I2,q2⟩=>?_)
 cases b with
 | true=>
  obtain⟨N,hN,q2⟩:=q2
  rw[aaz rfl]
  refine acH hp (dC (hb pins s2 σ1 H2 _ I2 q2) fun f s3 q3=>?_)
  cases f with
  | next=>
   obtain⟨σ3,H3,I3,n3⟩:=q3
   obtain⟨m',hm,w3⟩:=hN σ3 H3 n3
   exact⟨m',hm,σ3,H3,I3,w3⟩
  | cont=>
   obtain⟨σ3,H3,I3,n3⟩:=q3
   obtain⟨m',hm,w3⟩:=hN σ3 H3 n3
   exact⟨m',hm,σ3,H3,I3,w3⟩
  | brk=>exact q3
  | ret v=>exact q3
 | false=>
  rw[aar aaj]
  exact ac5 ⟨σ1,H2,I2,q2⟩
end
structure It where
 go:Nat->Hp->Prop
 xE:Nat->Hp->V->Hp->Prop
 stop:Nat->Hp->Prop
def fh (X:Cx)(pins:List (Addr × Obj))(H:Hp)(b:Addr):Prop:=
 H b=none/\b≠X.env.locals/\b∉X.fs/\(b∈X.ex\/X.s₀.heap.objs.size<=b)/\(∀ x c,X.env.cells.lookup x=some c->c≠b)/\∀ p∈X.pn++pins,p.1≠b
theorem Inv.xN {X:Cx}{pins:List (Addr × Obj)}{σ:St}{H H':Hp}{s:Shared}{b:Addr}(I:Inv X pins σ H s)(hb:s.heap.objs.size<=b)(hn:H' b=none):fh X pins H' b:=by
 refine⟨hn,abX (aak I.lt hb),I.Se hb,.inr (aag I.sz hb),fun x c e z=>?_,fun p hp z=>?_⟩
 ·obtain⟨v,q⟩:=I.cell x c e
  exact absurd (aak q.lt (by rw[z];exact hb)) (abo _)
 ·exact absurd (aak (aae (I.pin p hp).1) (by rw[z];exact hb)) (abo _)
structure Turn (P:Program)(w:World)(K:W.Frag)(tg:Expr)(J:It)(fp:List Addr)(it:Addr)(tn:Nat->Heap->Prop):Prop where
 mem:it∈fp
 obj:∀ i h,tn i h->∀ b∈fp,∃ o,h.get? b=some o/\∀ v,o.data≠.cell v
 keep:∀ i h h',tn i h->(∀ b∈fp,∀ o,h.get? b=some o->h'.get? b=some o)->tn i h'
 item:∀ (X:Cx),X.prog=P->X.w=w->X.K=K->X.bq=true->∀ (i:Nat) (pins:List (Addr × Obj)) (s:Shared) (σ:St) (H:Hp) (E:Value->Shared->Prop),Inv X pins σ H s->(∀ b∈fp,fh X pins H b)->tn i s.heap->J.go i H ->
  wpAny (model P w) X.A (pyNext (.ref it)) (fun r s1=>∃ u,r=some u /\
   wpAny (model P w) X.A (letOwnedTupleGo tg (.ref it) u) (fun _ s2=>∃ x H',Inv X pins σ H' s2/\RelV x u/\J.xE i H x H'/\tn (i+1) s2.heap/\∀ b∈fp,H' b=none) E s1) E s
 done:∀ (X:Cx),X.prog=P->X.w=w->X.K=K->X.bq=true->∀ (i:Nat) (pins:List (Addr × Obj)) (s:Shared) (σ:St) (H:Hp) (E:Value->Shared->Prop),Inv X pins σ H s->(∀ b∈fp,fh X pins H b)->tn i s.heap->J.stop i H ->
  wpAny (model P w) X.A (pyNext (.ref it)) (fun r s1=>r=none/\Inv X pins σ H s1) E s
 self:∀ (A:Around) (i:Nat) (s:Shared) (Q:Value->Shared->Prop) (E:Value->Shared->Prop),tn i s.heap->Q (.ref it) s->wpAny (model P w) A (pyIter (.ref it)) Q E s
abbrev TI:=St->Hp->(It->Hp->Prop)->Prop
def VC (X:Cx)(pins:List (Addr × Obj))(σ:St)(tg:Expr)(R:It->Hp->Prop)(Ni:Value)(s2:Shared):Prop:=
 ∃ (it:Addr) (fp:List Addr) (tn:Nat->Heap->Prop) (J:It) (H':Hp),Ni=.ref it/\Inv X pins σ H' s2/\Turn X.prog X.w X.K tg J fp it tn/\tn 0 s2.heap/\(∀ b∈fp,fh X pins H' b)/\R J H'
def PI (X:Cx)(tg iter:Expr)(wi:TI):Prop:=
 ∀ (pins:List (Addr × Obj)) (s:Shared) (σ:St) (H:Hp) (R:It->Hp->Prop),Inv X pins σ H s->wi σ H R ->
  wpAny (model X.prog X.w) X.A (eval iter X.env) (fun v s1=>wpAny (model X.prog X.w) X.A (pyIter v) (VC X pins σ tg R) X.xe s1) X.xe s
theorem CP {M : Model} {A : Around} {E : Value -> Shared -> Prop} {s : Shared} {tg : Expr} {it : Addr} {u : Value} {o : Obj} {n : String} {vs : Array Value} {Q : Unit -> Shared -> Prop} (ho : s.heap.get? it = some o) (hc : o.cls = .type n) (hd : o.data = .fields vs)
    (hn : ["enumerate", "zip", "dict_itemiterator", "dict_reverseitemiterator", "odict_iterator", "itertools.zip_longest", "itertools.pairwise"].contains n = false) (hQ : Q () s) : wpAny M A (letOwnedTupleGo tg (.ref it) u) Q E s := by
  unfold letOwnedTupleGo
  cases tg <;> first
    | exact aad hQ
    | (cases u <;> first
        | exact aad hQ
        | (refine aaa (wpAny_load ho ?_)
           rw [hc, hd]
           show wpAny M A (if (["enumerate", "zip", "dict_itemiterator", "dict_reverseitemiterator", "odict_iterator", "itertools.zip_longest", "itertools.pairwise"].contains n && vs[0]? == some (rawInt _)) = true then _ else _) Q E s
           rw [aar (by intro h; rw [hn, Bool.false_and] at h; cases h)]
           exact aad hQ))
def CQ (K:W.Frag)(a:Addr):It:=
 ⟨fun i H=>∃ xs x,aM K H a xs/\xs[i]?=some x,fun i H x H'=>H'=H/\∀ xs,aM K H a xs->xs[i]?=some x,fun i H=>∃ xs,aM K H a xs/\xs.length<=i⟩
def CS (K:W.Frag)(a:Addr):It:=
 ⟨fun i H=>∃ xs x,aF K H a xs/\xs[i]?=some x,fun i H x H'=>H'=H/\∀ xs,aF K H a xs->xs[i]?=some x,fun i H=>∃ xs,aF K H a xs/\xs.length<=i⟩
def Js (lo:Int)(n:Nat):It:=⟨fun i _=>i<n,fun i H x H'=>H'=H/\x=.int (lo+i),fun i _=>n<=i⟩
theorem sd {P:Program}{w:World}{K:W.Frag}{tg:Expr}(a it:Addr):Turn P w K tg (CQ K a) [it] it (fun i h=>h.IsListIter it a i) where
 mem:=by simp
 obj:=fun i h st b hb=>by
  have e:b=it:=by simpa using hb
  subst e
  obtain⟨o,e,c,d⟩:=st
  exact⟨o,e,fun v z=>by rw[d] at z;cases z⟩
 keep:=fun i h h' st k=>st.at fun o e=>k it (by simp) o e
 item:=by
  intro X hP hw hK hc i pins s σ H E I hf st hg
  subst hP hw hK
  obtain⟨xs,x,hq,hx⟩:=hg
  obtain⟨aK,rv,p,hz⟩:=I.list hq
  obtain⟨u,hu,ru⟩:=rv.get hx
  obtain⟨f0,f1,f2,f3,f4,f5⟩:=hf it (by simp)
  refine aeg st p.isList (x:=u) (by simpa using hu) fun h' vD sb=>?_
  have I1:Inv X pins σ H { s with heap:=h' }:=I.turned (t':=s.toks) (fun b o hb e=>(sb.2 b hb).trans e) f0 f1 f3 f4 f5
  obtain⟨o,e,c,d⟩:=id vD
  exact⟨u,rfl,CP (s:={ s with heap:=h' }) e c d (by decide) ⟨x,H,I1,ru,⟨rfl,fun ys hy=>by rw[I.vI hy hq];exact hx⟩,vD,fun b hb=>(hf b hb).1⟩⟩
 done:=by
  intro X hP hw hK hc i pins s σ H E I hf st hg
  subst hP hw hK
  obtain⟨xs,hq,hx⟩:=hg
  obtain⟨aK,rv,p,hz⟩:=I.list hq
  obtain⟨f0,f1,f2,f3,f4,f5⟩:=hf it (by simp)
  have hl:=rv.length
  exact jx (I.CA hc) (I.Jm hc f0) st p.isList (by simp;omega) fun h' eb=>⟨rfl,I.turned (t':=s.toks) (fun b o hb e=>eb b o hb e) f0 f1 f3 f4 f5⟩
 self:=fun _ _ _ _ _ st h=>wpAny_pyIter_listiter st h
theorem pJ {P:Program}{w:World}{K:W.Frag}{tg:Expr}(a it:Addr):Turn P w K tg (CS K a) [it] it (fun i h=>h.IsTupleIter it a i) where
 mem:=by simp
 obj:=fun i h st b hb=>by
  have e:b=it:=by simpa using hb
  subst e
  obtain⟨o,e,c,d⟩:=st
  exact⟨o,e,fun v z=>by rw[d] at z;cases z⟩
 keep:=fun i h h' st k=>st.at fun o e=>k it (by simp) o e
 item:=by
  intro X hP hw hK hc i pins s σ H E I hf st hg
  subst hP hw hK
  obtain⟨xs,x,hq,hx⟩:=hg
  obtain⟨aK,rv,p,hz⟩:=I.tuple hq
  obtain⟨u,hu,ru⟩:=rv.get hx
  obtain⟨f0,f1,f2,f3,f4,f5⟩:=hf it (by simp)
  refine wpAny_pyNext_tuple_item st (show s.heap.IsTuple a aK.toArray from p) (x:=u) (by simpa using hu) fun h' vD sb=>?_
  have I1:Inv X pins σ H { s with heap:=h' }:=I.turned (t':=s.toks) (fun b o hb e=>(sb.2 b hb).trans e) f0 f1 f3 f4 f5
  obtain⟨o,e,c,d⟩:=id vD
  exact⟨u,rfl,CP (s:={ s with heap:=h' }) e c d (by decide) ⟨x,H,I1,ru,⟨rfl,fun ys hy=>by rw[I.kg hy hq];exact hx⟩,vD,fun b hb=>(hf b hb).1⟩⟩
 done:=by
  intro X hP hw hK hc i pins s σ H E I hf st hg
  subst hP hw hK
  obtain⟨xs,hq,hx⟩:=hg
  obtain⟨aK,rv,p,hz⟩:=I.tuple hq
  obtain⟨f0,f1,f2,f3,f4,f5⟩:=hf it (by simp)
  have hl:=rv.length
  exact jo (I.CA hc) (I.Jm hc f0) st (show s.heap.IsTuple a aK.toArray from p) (by simp;omega) fun h' eb=>⟨rfl,I.turned (t':=s.toks) (fun b o hb e=>eb b o hb e) f0 f1 f3 f4 f5⟩
 self:=fun _ _ _ _ _ st h=>wpAny_pyIter_tupleiter st h
theorem xO {P:Program}{w:World}{K:W.Frag}{tg:Expr}(it:Addr)(lo:Int)(n:Nat):Turn P w K tg (Js lo n) [it] it (fun i h=>IsRangeIter h it (lo+(i:Nat)*1) ((n:Int)-(i:Nat)) 1) where
 mem:=by simp
 obj:=fun i h st b hb=>by
  have e:b=it:=by simpa using hb
  subst e
  exact⟨_,st,fun v z=>by
   have z':Data.fields _=Data.cell v:=z
   cases z'⟩
 keep:=fun i h h' st k=>k it (by simp) _ st
 item:=by
  intro X hP hw hK hc i pins s σ H E I hf st hg
  subst hP hw hK
  obtain⟨f0,f1,f2,f3,f4,f5⟩:=hf it (by simp)
  refine mv (c:=1) hg st fun v h' tk hv vD kk=>?_
  obtain⟨t,rfl⟩:=hv
  have I1:Inv X pins σ H { s with heap:=h',toks:=tk }:=I.turned (fun b o hb e=>kk b o (by simpa using hb) e) f0 f1 f3 f4 f5
  refine⟨_,rfl,CP (s:={ s with heap:=h',toks:=tk }) (n:="range_iterator") vD rfl rfl (by decide) ⟨.int (lo+i),H,I1,⟨t,?_⟩,⟨rfl,rfl⟩,vD,fun b hb=>(hf b hb).1⟩⟩
  rw[abl]
 done:=by
  intro X hP hw hK hc i pins s σ H E I hf st hg
  subst hP hw hK
  obtain⟨f0,f1,f2,f3,f4,f5⟩:=hf it (by simp)
  exact oj (I.CA hc) st (by have:n<=i:=hg;omega) fun h' eb=>⟨rfl,I.turned (t':=s.toks) (fun b o hb e=>eb b o hb e) f0 f1 f3 f4 f5⟩
 self:=fun _ _ _ _ _ st h=>wpAny_pyIter_rangeiter st h
section
variable {X:Cx}{tg:Expr}
inductive CT (K:W.Frag)(R:It->Hp->Prop)(x:V)(H1:Hp):Prop
 | mk:∀ a,(x=.ref a)->((∃ xs,aM K H1 a xs))->(R (CQ K a) H1)->CT K R x H1
def Jt (K:W.Frag)(tl:TE):TI:=fun σ H R=>tl σ H fun x H1=>CT K R x H1
inductive Ju (K:W.Frag)(R:It->Hp->Prop)(x:V)(H1:Hp):Prop
 | mk:∀ a,(x=.ref a)->((∃ xs,aF K H1 a xs))->(R (CS K a) H1)->Ju K R x H1
def N6 (K:W.Frag)(tl:TE):TI:=fun σ H R=>tl σ H fun x H1=>Ju K R x H1
theorem GW {l:Expr}{tl:TE}(hl:PE X l tl):PI X tg l (Jt X.K tl):=by
 intro pins s σ H R I h
 refine dC (hl pins s σ H _ I h) fun v s1 ⟨x,H1,I1,r1,q1⟩=>?_
 obtain⟨a,e,⟨xs,hq⟩,q⟩:=q1
 subst e
 cases r1
 obtain⟨aK,rv,p,hz⟩:=I1.list hq
 refine acm p.isList ?_
 refine⟨s1.heap.objs.size,[s1.heap.objs.size],_,_,H1,rfl,I1.kept (t':=s1.toks) fun b o e=>aab _ e,sd a _,⟨_,aap _ rfl,rfl,rfl⟩,fun b hb=>?_,q⟩
 have e:b=s1.heap.objs.size:=by simpa using hb
 subst e
 exact I1.xN (aai _) (I1.bE.fresh (aai _))
theorem KC {l:Expr}{tl:TE}(hl:PE X l tl):PI X tg l (N6 X.K tl):=by
 intro pins s σ H R I h
 refine dC (hl pins s σ H _ I h) fun v s1 ⟨x,H1,I1,r1,q1⟩=>?_
 obtain⟨a,e,⟨xs,hq⟩,q⟩:=q1
 subst e
 cases r1
 obtain⟨aK,rv,p,hz⟩:=I1.tuple hq
 refine abW (show s1.heap.IsTuple a aK.toArray from p) ?_
 refine⟨s1.heap.objs.size,[s1.heap.objs.size],_,_,H1,rfl,I1.kept (t':=s1.toks) fun b o e=>aab _ e,pJ a _,⟨_,aap _ rfl,rfl,rfl⟩,fun b hb=>?_,q⟩
 have e:b=s1.heap.objs.size:=by simpa using hb
 subst e
 exact I1.xN (aai _) (I1.bE.fresh (aai _))
theorem CU {pins:List (Addr × Obj)}{σ:St}{H:Hp}{s:Shared}{R:It->Hp->Prop}{E:Value->Shared->Prop}{lo hi:Int}{t u v:Tok}{tk:Nat}(I:Inv X pins σ H s)(h1:-(2^62)<=lo)(h2:lo<2^62)(h3:-(2^62)<=hi)(h4:hi<2^62)
  (q:R (Js lo (hi-lo).toNat) H):wpAny (model X.prog X.w) X.A (pyIter (.ref s.heap.objs.size)) (VC X pins σ tg R) E { s with heap:=s.heap.push { cls:=.type "range",data:=.fields #[.int lo t,.int hi u,.int 1 v] },toks:=tk }:=by
 refine wpAny_pyIter_range (IsRange.new ..) (small_one h1 h2 h3 h4) ?_
 have I1:Inv X pins σ H { s with heap:=s.heap.push { cls:=.type "range",data:=.fields #[.int lo t,.int hi u,.int 1 v] },toks:=tk }:=I.kept fun b o e=>aab _ e
 refine⟨(s.heap.push { cls:=.type "range",data:=.fields #[.int lo t,.int hi u,.int 1 v] }).objs.size,[(s.heap.push { cls:=.type "range",data:=.fields #[.int lo t,.int hi u,.int 1 v] }).objs.size],_,_,H,rfl,
  I1.kept (t':=tk) fun b o e=>aab _ e,xO _ lo (hi-lo).toNat,?_,fun b hb=>?_,q⟩
 ·have e1:lo+((0:Nat):Int)*1=lo:=by simp
  have e2:(((hi-lo).toNat:Nat):Int)-((0:Nat):Int)=Builtin.Range.rangeSize lo hi 1:=by rw[rangeSize_one];split<;>omega
  show IsRangeIter _ _ (lo+((0:Nat):Int)*1) ((((hi-lo).toNat:Nat):Int)-((0:Nat):Int)) 1
  rw[e1,e2]
  exact aap _ rfl
 ·have e:b=(s.heap.push { cls:=.type "range",data:=.fields #[.int lo t,.int hi u,.int 1 v] }).objs.size:=by simpa using hb
  subst e
  exact I1.xN (aai _) (I1.bE.fresh (aai _))
inductive CV (R:It->Hp->Prop)(vs:List V)(H1:Hp):Prop
 | mk:∀ (j:Int),(vs=[.int j])->(-(2^62)<=j)->(j<2^62)->(R (Js 0 j.toNat) H1)->CV R vs H1
def N7 (ta:TA):TI:=fun σ H R=>ta σ H fun vs H1=>CV R vs H1
theorem cD {a:Expr}{ta:TA}{p pos:Pos}(hg:Gl X "range")(hm:X.mg "range"=none)(ha:PA X [a] ta)(hs:starEach [a] X.env=[(false,eval a X.env)]:=by rfl):PI X tg (.Call (.Name "range" p) [a] [] pos) (N7 ta):=by
 intro pins s σ H R I h
 refine Call_ (mx I hg hm boot_range (acv (dC (ha pos pins s σ H _ I h) fun us s1 ⟨vs,H1,I1,r1,q1⟩=>?_) hs rfl))
 obtain⟨j,e,q1,q2,q⟩:=q1
 subst e
 cases r1 with
 | cons r rr=>
  cases rr
  obtain⟨t,rfl⟩:=r
  exact call_range_1 (CU I1 (by omega) (by omega) q1 q2 (by simpa using q))
def Sy (wi:TI)(g:TG)(tb:TS):TS:=fun D σ H=>wi σ H fun J H1=>∃ W:Nat->Nat->St->Hp->Prop,(∃ m,W 0 m σ H1)/\∀ i m σ H,W i m σ H ->
 (J.stop i H/\D.nx σ H)\/(J.go i H/\∃ N:St->Hp->Prop,(∀ σ' H',N σ' H'->∃ m',m'<m/\W (i+1) m' σ' H')/\∀ x H',J.xE i H x H'->g x σ H' fun σ2 H2=>tb { D with nx:=N,ct:=N,bk:=D.nx } σ2 H2)
def tH (fp:List Addr)(h:Heap):List (Addr × Obj):=fp.filterMap fun b=>(h.get? b).map fun o=>(b,o)
theorem aW {fp:List Addr}{h:Heap}{b:Addr}{o:Obj}(hb:b∈fp)(e:h.get? b=some o):(b,o)∈tH fp h:=List.mem_filterMap.mpr ⟨b,hb,by rw[e];rfl⟩
theorem A8 {fp:List Addr}{h:Heap}{p:Addr × Obj}(hp:p∈tH fp h):p.1∈fp/\h.get? p.1=some p.2:=by
 obtain⟨b,hb,e⟩:=List.mem_filterMap.mp hp
 cases q:h.get? b with
 | none=>rw[q] at e;cases e
 | some o=>
  rw[q] at e
  have e':(b,o)=p:=aac e
  subst e'
  exact⟨hb,q⟩
theorem Inv.pinned {pins:List (Addr × Obj)}{σ:St}{H:Hp}{s:Shared}{fp:List Addr}(I:Inv X pins σ H s)(hf:∀ b∈fp,fh X pins H b)(ho:∀ b∈fp,∃ o,s.heap.get? b=some o/\∀ v,o.data≠.cell v):Inv X (pins++tH fp s.heap) σ H s:=
 I.zC fun p hp=>(aa9.mp hp).elim (fun z=>I.pin p (aam _ z)) fun z=>by
  obtain⟨hb,e⟩:=A8 z
  obtain⟨f0,f1,f2,_⟩:=hf p.1 hb
  obtain⟨o,e',d⟩:=ho p.1 hb
  rw[e] at e';cases e'
  exact⟨e,f0,f1,f2,d⟩
theorem Inv.dM {pins pl:List (Addr × Obj)}{σ:St}{H:Hp}{s:Shared}(I:Inv X (pins++pl) σ H s):Inv X pins σ H s:=I.zC fun p hp=>I.pin p (aam _ (adf _ hp))
theorem fU {iter:Expr}{body:List Stmt}{wi:TI}{g:TG}{tb:TS}{pos:Pos}(hp:PassesOwn (model X.prog X.w) X.A X.env X.xe)(hc:X.bq=true)(hi:PI X tg iter wi)(hg:PG X tg g)(hb:oO X body tb)
  (hs:∀ x,foldedSetIterable iter X.env x=pure x:=by intro _;rfl):PS X (.For tg iter body [] pos) (Sy wi g tb):=by
 intro pins s σ H D I h
 refine wpAny_For (dC (hi pins s σ H _ I h) fun v s1 h1=>dC h1 fun Ni s2 h2=>?_) hs
 obtain⟨it,fp,tn,J,H2,e,I2,T,vK,f2,W,⟨m0,w0⟩,turn⟩:=h2
 subst e
 -- Sa stays true of tD KD objects through tD loop
 have KG:∀ {H':Hp},(∀ b∈fp,H' b=none)->∀ b∈fp,fh X pins H' b:=fun hn b hb=>⟨hn b hb,(f2 b hb).2⟩
 refine codeAny_forLoop_any (fun n s'=>∃ i σ' H',Inv X pins σ' H' s'/\tn i s'.heap/\(∀ b∈fp,H' b=none)/\W i n σ' H') ?_ m0 ⟨0,σ,H2,I2,vK,fun b hb=>(f2 b hb).1,w0⟩
 rintro n s3 ⟨i,σ3,H3,I3,VD,VE,w3⟩
 rcases turn i n σ3 H3 w3 with ⟨stop,qn⟩|⟨go,N,hN,step⟩
 ·refine acH hp (dC (T.done X rfl rfl rfl hc i pins s3 σ3 H3 X.xe I3 (KG VE) VD stop) fun r s4 ⟨hr,I4⟩=>?_)
  subst hr
  exact ac5 ⟨σ3,H3,I4,qn⟩
 ·refine acH hp (dC (T.item X rfl rfl rfl hc i pins s3 σ3 H3 X.xe I3 (KG VE) VD go) fun r s4 ⟨u,hr,h4⟩=>?_)
  subst hr
  refine acH hp (dC h4 fun _ s5 ⟨x,H5,I5,r5,y5,SA,Xd⟩=>?_)
  have Xe:=I5.pinned (KG Xd) (T.obj _ _ SA)
  refine acH hp (dC (hg _ s5 σ3 H5 x u _ Xe r5 (step x H5 y5)) fun _ s6 ⟨σ6,H6,I6,q6⟩=>?_)
  refine acH hp (dC (hb _ s6 σ6 H6 _ I6 q6) fun f s7 q7=>?_)
  have again:∀ {σ7:St}{H7:Hp},Inv X (pins++tH fp s5.heap) σ7 H7 s7->N σ7 H7->∃ m,m<n/\∃ i σ' H',Inv X pins σ' H' s7/\tn i s7.heap/\(∀ b∈fp,H' b=none)/\W i m σ' H':=fun {σ7 H7} I7 n7=>by
   obtain⟨m',hm,w7⟩:=hN σ7 H7 n7
   refine⟨m',hm,i+1,σ7,H7,I7.dM,T.keep _ _ _ SA fun b hb o e=>(I7.pin (b,o) (aam _ (aam _ (aW hb e)))).1,fun b hb=>?_,w7⟩
   obtain⟨o,e,d⟩:=T.obj _ _ SA b hb
   exact (I7.pin (b,o) (aam _ (aam _ (aW hb e)))).2.1
  cases f with
  | next=>obtain⟨σ7,H7,I7,n7⟩:=q7;exact again I7 n7
  | cont=>obtain⟨σ7,H7,I7,n7⟩:=q7;exact again I7 n7
  | brk=>obtain⟨σ7,H7,I7,q7⟩:=q7;exact⟨σ7,H7,I7.dM,q7⟩
  | ret v=>obtain⟨x7,σ7,H7,I7,r7,q7⟩:=q7;exact⟨x7,σ7,H7,I7.dM,r7,q7⟩
end
theorem iA {K:W.Frag}{a:Addr}{xs:List V}{g:TG}{tb:TS}{D:Ends}{σ:St}{H:Hp}(Pv:Nat->St->Hp->Prop)(h0:Pv 0 σ H)(hl:∀ i σ H,i<=xs.length->Pv i σ H->aM K H a xs)
  (hs:∀ i x σ H,xs[i]?=some x->Pv i σ H->g x σ H fun σ2 H2=>tb { D with nx:=Pv (i+1),ct:=Pv (i+1),bk:=D.nx } σ2 H2) (hd:∀ σ H,Pv xs.length σ H->D.nx σ H) :
  ∃ W:Nat->Nat->St->Hp->Prop,(∃ m,W 0 m σ H)/\∀ i m σ H,W i m σ H ->
   ((CQ K a).stop i H/\D.nx σ H)\/((CQ K a).go i H/\∃ N:St->Hp->Prop,(∀ σ' H',N σ' H'->∃ m',m'<m/\W (i+1) m' σ' H')/\∀ x H',(CQ K a).xE i H x H'->g x σ H' fun σ2 H2=>tb { D with nx:=N,ct:=N,bk:=D.nx } σ2 H2):=by
 refine⟨fun i m σ H=>m=xs.length-i/\i<=xs.length/\Pv i σ H,⟨xs.length,by simp,abd _,h0⟩,?_⟩
 rintro i m σ H ⟨rfl,hi,p⟩
 have q:=hl i σ H hi p
 by_cases eJ:i<xs.length
 ·refine .inr ⟨⟨xs,xs[i],q,by simp[eJ]⟩,Pv (i+1),fun σ' H' p'=>⟨xs.length-(i+1),by omega,rfl,eJ,p'⟩,fun x H' y=>?_⟩
  obtain⟨e,y⟩:=y
  subst e
  exact hs i x σ _ (y xs q) p
 ·have e:i=xs.length:=by omega
  subst e
  exact .inl ⟨⟨xs,q,aai _⟩,hd σ H p⟩
theorem tI {K:W.Frag}{a:Addr}{xs:List V}{g:TG}{tb:TS}{D:Ends}{σ:St}{H:Hp}(Pv:Nat->St->Hp->Prop)(h0:Pv 0 σ H)(hl:∀ i σ H,i<=xs.length->Pv i σ H->aF K H a xs)
  (hs:∀ i x σ H,xs[i]?=some x->Pv i σ H->g x σ H fun σ2 H2=>tb { D with nx:=Pv (i+1),ct:=Pv (i+1),bk:=D.nx } σ2 H2) (hd:∀ σ H,Pv xs.length σ H->D.nx σ H) :
  ∃ W:Nat->Nat->St->Hp->Prop,(∃ m,W 0 m σ H)/\∀ i m σ H,W i m σ H ->
   ((CS K a).stop i H/\D.nx σ H)\/((CS K a).go i H/\∃ N:St->Hp->Prop,(∀ σ' H',N σ' H'->∃ m',m'<m/\W (i+1) m' σ' H')/\∀ x H',(CS K a).xE i H x H'->g x σ H' fun σ2 H2=>tb { D with nx:=N,ct:=N,bk:=D.nx } σ2 H2):=by
 refine⟨fun i m σ H=>m=xs.length-i/\i<=xs.length/\Pv i σ H,⟨xs.length,by simp,abd _,h0⟩,?_⟩
 rintro i m σ H ⟨rfl,hi,p⟩
 have q:=hl i σ H hi p
 by_cases eJ:i<xs.length
 ·refine .inr ⟨⟨xs,xs[i],q,by simp[eJ]⟩,Pv (i+1),fun σ' H' p'=>⟨xs.length-(i+1),by omega,rfl,eJ,p'⟩,fun x H' y=>?_⟩
  obtain⟨e,y⟩:=y
  subst e
  exact hs i x σ _ (y xs q) p
 ·have e:i=xs.length:=by omega
  subst e
  exact .inl ⟨⟨xs,q,aai _⟩,hd σ H p⟩
theorem se {lo:Int}{n:Nat}{g:TG}{tb:TS}{D:Ends}{σ:St}{H:Hp}(Pv:Nat->St->Hp->Prop)(h0:Pv 0 σ H)
  (hs:∀ i σ H,i<n->Pv i σ H->g (.int (lo+i)) σ H fun σ2 H2=>tb { D with nx:=Pv (i+1),ct:=Pv (i+1),bk:=D.nx } σ2 H2) (hd:∀ σ H,Pv n σ H->D.nx σ H) :
  ∃ W:Nat->Nat->St->Hp->Prop,(∃ m,W 0 m σ H)/\∀ i m σ H,W i m σ H ->
   ((Js lo n).stop i H/\D.nx σ H)\/((Js lo n).go i H/\∃ N:St->Hp->Prop,(∀ σ' H',N σ' H'->∃ m',m'<m/\W (i+1) m' σ' H')/\∀ x H',(Js lo n).xE i H x H'->g x σ H' fun σ2 H2=>tb { D with nx:=N,ct:=N,bk:=D.nx } σ2 H2):=by
 refine⟨fun i m σ H=>m=n-i/\i<=n/\Pv i σ H,⟨n,by simp,abd _,h0⟩,?_⟩
 rintro i m σ H ⟨rfl,hi,p⟩
 by_cases eJ:i<n
 ·refine .inr ⟨eJ,Pv (i+1),fun σ' H' p'=>⟨n-(i+1),by omega,rfl,eJ,p'⟩,fun x H' y=>?_⟩
  obtain⟨e,y⟩:=y
  subst e y
  exact hs i σ _ eJ p
 ·have e:i=n:=by omega
  subst e
  exact .inl ⟨aai _,hd σ H p⟩
abbrev R2:=V->V->Hp->VK->Prop
def mz (X:Cx)(f:Value->Value->Sem Value)(r:R2):Prop:=
 ∀ (pins:List (Addr × Obj)) (s:Shared) (σ:St) (H:Hp) (x y:V) (v u:Value) (Q:VK),Inv X pins σ H s->RelV x v->RelV y u->r x y H Q ->
  wpAny (model X.prog X.w) X.A (f v u) (EP X pins σ Q) X.xe s
def SD (X:Cx)(f:Value->Sem Value)(r:V->Hp->VK->Prop):Prop:=
 ∀ (pins:List (Addr × Obj)) (s:Shared) (σ:St) (H:Hp) (x:V) (v:Value) (Q:VK),Inv X pins σ H s->RelV x v->r x H Q ->
  wpAny (model X.prog X.w) X.A (f v) (EP X pins σ Q) X.xe s
def ff (X:Cx)(f:Value)(r:List V->Hp->VK->Prop):Prop:=
 ∀ (pins:List (Addr × Obj)) (s:Shared) (σ:St) (H:Hp) (xs:List V) (us:List Value) (Q:VK),Inv X pins σ H s->Vals xs us->r xs H Q ->
  wpAny (model X.prog X.w) X.A (call f us) (EP X pins σ Q) X.xe s
def N8 (r:R2)(ta tb:TE):TE:=fun σ H Q=>ta σ H fun x H1=>tb σ H1 fun y H2=>r x y H2 Q
def Xf (r:V->Hp->VK->Prop)(ta:TE):TE:=fun σ H Q=>ta σ H fun x H1=>r x H1 Q
inductive rI (C:Int->Int->Prop)(g:Int->Int->V)(x:V)(y:V)(H:Hp)(Q:VK):Prop
 | mk:∀ i j,(x=.int i)->(y=.int j)->(C i j)->(Q (g i j) H)->rI C g x y H Q
inductive GX (g:Int->Int->V)(x:V)(y:V)(H:Hp)(Q:VK):Prop
 | mk:∀ i j,(x=.int i)->(y=.int j)->(Q (g i j) H)->GX g x y H Q
inductive rU (g:Int->V)(x:V)(H:Hp)(Q:VK):Prop
 | mk:∀ i,(x=.int i)->(Q (g i) H)->rU g x H Q
section
variable {X:Cx}{a b c:Expr}{ta tb tc:TE}{pos:Pos}
theorem KH (ha:PE X a ta)(hb:PE X b tb){pins:List (Addr × Obj)}{s:Shared}{σ:St}{H:Hp}{R:V->V->Hp->Prop}(I:Inv X pins σ H s)
  (h:ta σ H fun x H1=>tb σ H1 fun y H2=>R x y H2) {Q:Value->Shared->Prop}{f:Value->Value->Sem Value}
  (hf:∀ v u s2 x y H2,Inv X pins σ H2 s2->RelV x v->RelV y u->R x y H2->wpAny (model X.prog X.w) X.A (f v u) Q X.xe s2) :
  wpAny (model X.prog X.w) X.A (eval a X.env) (fun v s₁=>wpAny (model X.prog X.w) X.A (eval b X.env) (fun u s₂=>wpAny (model X.prog X.w) X.A (f v u) Q X.xe s₂) X.xe s₁) X.xe s:=by
 refine dC (ha pins s σ H _ I h) fun v s1 ⟨x,H1,I1,r1,q1⟩=>?_
 refine dC (hb pins s1 σ H1 _ I1 q1) fun u s2 ⟨y,H2,I2,r2,q2⟩=>?_
 exact hf v u s2 x y H2 I2 r1 r2 q2
theorem aj {op:Operator}{r:R2}(ho:mz X (binaryOp op) r)(ha:PE X a ta)(hb:PE X b tb):PE X (.BinOp a op b pos) (N8 r ta tb):=by
 intro pins s σ H Q I h
 exact wpAny_BinOp (KH ha hb I h fun v u s2 x y H2 I2 rx ry q=>ho pins s2 σ H2 x y v u Q I2 rx ry q)
theorem jq {op:UnaryOp}{r:V->Hp->VK->Prop}(ho:SD X (unaryOp op) r)(ha:PE X a ta):PE X (.UnaryOp op a pos) (Xf r ta):=by
 intro pins s σ H Q I h
 exact UnaryOp_ (dC (ha pins s σ H _ I h) fun v s1 ⟨x,H1,I1,r1,q1⟩=>ho pins s1 σ H1 x v Q I1 r1 q1)
theorem Nj {f:Value->Value->Sem Value}{C:Int->Int->Prop}{g:Int->Int->Int}
  (rule:∀ (i j:Int) (t u:Tok) (s:Shared) (Q:Value->Shared->Prop) (E:Value->Shared->Prop),C i j->Q (.int (g i j) s.toks) { s with toks:=s.toks+1 }->wpAny (model X.prog X.w) X.A (f (.int i t) (.int j u)) Q E s) :
  mz X f (rI C fun i j=>.int (g i j)):=by
 intro pins s σ H x y v u Q I rx ry h
 obtain⟨i,j,rfl,rfl,hc,q⟩:=h
 obtain⟨t,rfl⟩:=rx
 obtain⟨t',rfl⟩:=ry
 exact rule i j t t' s _ _ hc ⟨.int (g i j),H,I.tok _,⟨_,rfl⟩,q⟩
theorem KI {f:Value->Value->Sem Value}{g:Int->Int->Int}
  (rule:∀ (i j:Int) (t u:Tok) (s:Shared) (Q:Value->Shared->Prop) (E:Value->Shared->Prop),Q (.int (g i j) s.toks) { s with toks:=s.toks+1 }->wpAny (model X.prog X.w) X.A (f (.int i t) (.int j u)) Q E s) :
  mz X f (GX fun i j=>.int (g i j)):=by
 intro pins s σ H x y v u Q I rx ry h
 obtain⟨i,j,rfl,rfl,q⟩:=h
 obtain⟨t,rfl⟩:=rx
 obtain⟨t',rfl⟩:=ry
 exact rule i j t t' s _ _ ⟨.int (g i j),H,I.tok _,⟨_,rfl⟩,q⟩
theorem KJ {f:Value->Value->Sem Value}{g:Int->Int->Bool}
  (rule:∀ (i j:Int) (t u:Tok) (s:Shared) (Q:Value->Shared->Prop) (E:Value->Shared->Prop),Q (.bool (g i j)) s->wpAny (model X.prog X.w) X.A (f (.int i t) (.int j u)) Q E s) :
  mz X f (GX fun i j=>.bl (g i j)):=by
 intro pins s σ H x y v u Q I rx ry h
 obtain⟨i,j,rfl,rfl,q⟩:=h
 obtain⟨t,rfl⟩:=rx
 obtain⟨t',rfl⟩:=ry
 exact rule i j t t' s _ _ ⟨.bl (g i j),H,I,rfl,q⟩
def SE (i j:Int):Prop:=0<j/\j<1073741824
theorem xP (k:Nat):(0:Int)<=2^k:=by
 rw[two_pow_cast]
 exact Int.natCast_nonneg _
theorem bG:mz X (binaryOp .Add) (GX fun i j=>.int (i+j)):=KI fun _ _ _ _ _ _ _ q=>add_int q
theorem bM:mz X (binaryOp .Sub) (GX fun i j=>.int (i-j)):=KI fun _ _ _ _ _ _ _ q=>sub_int q
theorem gK:mz X (binaryOp .FloorDiv) (rI SE fun i j=>.int (i / j)):=Nj fun i j _ _ _ _ _ hc q=>by
 have h1:(0:Int)<j:=hc.1
 have h2:j<1073741824:=hc.2
 exact floordiv_int (by omega) (by rw[Int.fdiv_eq_ediv_of_nonneg i (by omega)];exact q) (.inl (PyProof.noPylong_small (by omega)))
theorem bj:mz X (binaryOp .Mod) (rI (fun _ j=>0<j) fun i j=>.int (i%j)):=Nj fun i j _ _ _ _ _ hc q=>by
 have h1:(0:Int)<j:=hc
 exact mod_int' (by omega) (by rw[Int.fmod_eq_emod_of_nonneg i (by omega)];exact q)
theorem zF:mz X (binaryOp .Mod) (rI (fun _ j=>j≠0) fun i j=>.int (i.fmod j)):=Nj fun _ _ _ _ _ _ _ hc q=>mod_int' hc q
theorem KL:mz X (binaryOp .RShift) (rI (fun _ j=>0<=j) fun i j=>.int (i / 2^j.toNat)):=Nj fun i j _ _ _ _ _ hc q=>
 rshift_int hc (by rw[Int.fdiv_eq_ediv_of_nonneg i (xP _)];exact q)
theorem KN:mz X (binaryOp .BitAnd) (GX fun i j=>.int (Builtin.bitAnd i j)):=KI fun _ _ _ _ _ _ _ q=>and_int q
theorem Xg {f:Value->Sem Value}{g:Int->Int}
  (rule:∀ (i:Int) (t:Tok) (s:Shared) (Q:Value->Shared->Prop) (E:Value->Shared->Prop),Q (.int (g i) s.toks) { s with toks:=s.toks+1 }->wpAny (model X.prog X.w) X.A (f (.int i t)) Q E s) :
  SD X f (rU fun i=>.int (g i)):=by
 intro pins s σ H x v Q I rx h
 obtain⟨i,rfl,q⟩:=h
 obtain⟨t,rfl⟩:=rx
 exact rule i t s _ _ ⟨.int (g i),H,I.tok _,⟨_,rfl⟩,q⟩
theorem fi:SD X (unaryOp .USub) (rU fun i=>.int (-i)):=Xg fun _ _ _ _ _ q=>neg_int q
end
def N9:V->V->Bool
 | .eI,.eI=>true|.eI,.int _=>true|.int _,.eI=>true|.eI,.bl _=>true|.bl _,.eI=>true|.eI,.str _=>true|.str _,.eI=>true
 | .int _,.int _=>true|.bl _,.bl _=>true|.str _,.str _=>true|.Cy _,.Cy _=>true
 | .int _,.str _=>true|.str _,.int _=>true|.bl _,.str _=>true|.str _,.bl _=>true
 | _,_=>false
def Xh:R2:=fun x y H Q=>N9 x y=true/\Q (.bl (decide (x=y))) H
def Xi:R2:=fun x y H Q=>N9 x y=true/\Q (.bl (!decide (x=y))) H
theorem zG {i j:Int}:decide (V.int i=V.int j)=(i==j):=by
 rw[acy]
 simp
theorem CW {i j:Bool}:decide (V.bl i=V.bl j)=(i==j):=by
 rw[acy]
 simp
theorem zH {i j:Str}:decide (V.str i=V.str j)=(i==j):=by
 rw[acy]
 simp
theorem zI {i j:Array UInt8}:decide (V.Cy i=V.Cy j)=(i.toList==j.toList):=by
 rw[acy]
 cases i
 cases j
 simp
section
variable {X:Cx}{a b c:Expr}{ta tb tc:TE}{pos:Pos}
theorem a7 {pins:List (Addr × Obj)}{σ:St}{H:Hp}{s:Shared}{Q:VK}{k k':Bool}(I:Inv X pins σ H s)(q:Q (.bl k) H)(e:k=k'):EP X pins σ Q (.bool k') s:=by
 subst e
 exact⟨.bl k,H,I,rfl,q⟩
theorem bB:mz X (compareOp .Eq) Xh:=by
 intro pins s σ H x y v u Q I rx ry h
 obtain⟨hs,q⟩:=h
 cases x with
 | eI=>
  cases rx
  cases y with
  | eI=>cases ry;exact PySem.EqNone.eq_none_none (a7 I q (by simp))
  | bl j=>cases ry;exact PySem.EqNone.eq_none_bool (a7 I q (by simp))
  | int j=>obtain⟨t',rfl⟩:=ry;exact PySem.EqNone.eq_none_int (a7 I q (by simp))
  | str j=>obtain⟨t',rfl⟩:=ry;exact PySem.EqNone.eq_none_str (a7 I q (by simp))
  | _=>exact absurd (show false=true from hs) aaj
 | bl i=>
  cases rx
  cases y with
  | eI=>cases ry;exact PySem.EqNone.eq_bool_none (a7 I q (by simp))
  | bl j=>cases ry;exact eq_bool (a7 I q CW)
  | str j=>obtain⟨t',rfl⟩:=ry;exact PySem.EqMixed.eq_bool_str (a7 I q (by simp))
  | _=>exact absurd (show false=true from hs) aaj
 | int i=>
  obtain⟨t,rfl⟩:=rx
  cases y with
  | eI=>cases ry;exact PySem.EqNone.eq_int_none (a7 I q (by simp))
  | int j=>obtain⟨t',rfl⟩:=ry;exact eq_int (a7 I q zG)
  | str j=>obtain⟨t',rfl⟩:=ry;exact PySem.EqMixed.eq_int_str (a7 I q (by simp))
  | _=>exact absurd (show false=true from hs) aaj
 | str i=>
  obtain⟨t,rfl⟩:=rx
  cases y with
  | eI=>cases ry;exact PySem.EqNone.eq_str_none (a7 I q (by simp))
  | bl j=>cases ry;exact PySem.EqMixed.eq_str_bool (a7 I q (by simp))
  | int j=>obtain⟨t',rfl⟩:=ry;exact PySem.EqMixed.eq_str_int (a7 I q (by simp))
  | str j=>obtain⟨t',rfl⟩:=ry;exact eq_str (a7 I q zH)
  | _=>exact absurd (show false=true from hs) aaj
 | Cy i=>
  obtain⟨t,rfl⟩:=rx
  cases y with
  | Cy j=>obtain⟨t',rfl⟩:=ry;exact W.eq_bytes (a7 I q zI)
  | _=>exact absurd (show false=true from hs) aaj
 | _=>cases y<;>exact absurd (show false=true from hs) aaj
theorem kG:mz X (compareOp .NotEq) Xi:=by
 intro pins s σ H x y v u Q I rx ry h
 obtain⟨hs,q⟩:=h
 cases x with
 | eI=>
  cases rx
  cases y with
  | eI=>cases ry;exact PySem.EqNone.ne_none_none (a7 I q (by simp))
  | bl j=>cases ry;exact PySem.EqNone.ne_none_bool (a7 I q (by simp))
  | int j=>obtain⟨t',rfl⟩:=ry;exact PySem.EqNone.ne_none_int (a7 I q (by simp))
  | str j=>obtain⟨t',rfl⟩:=ry;exact PySem.EqNone.ne_none_str (a7 I q (by simp))
  | _=>exact absurd (show false=true from hs) aaj
 | bl i=>
  cases rx
  cases y with
  | eI=>cases ry;exact PySem.EqNone.ne_bool_none (a7 I q (by simp))
  | bl j=>cases ry;exact ne_bool (a7 I q (aa2 not CW))
  | str j=>obtain⟨t',rfl⟩:=ry;exact PySem.EqMixed.ne_bool_str (a7 I q (by simp))
  | _=>exact absurd (show false=true from hs) aaj
 | int i=>
  obtain⟨t,rfl⟩:=rx
  cases y with
  | eI=>cases ry;exact PySem.EqNone.ne_int_none (a7 I q (by simp))
  | int j=>obtain⟨t',rfl⟩:=ry;exact ne_int (a7 I q (aa2 not zG))
  | str j=>obtain⟨t',rfl⟩:=ry;exact PySem.EqMixed.ne_int_str (a7 I q (by simp))
  | _=>exact absurd (show false=true from hs) aaj
 | str i=>
  obtain⟨t,rfl⟩:=rx
  cases y with
  | eI=>cases ry;exact PySem.EqNone.ne_str_none (a7 I q (by simp))
  | bl j=>cases ry;exact PySem.EqMixed.ne_str_bool (a7 I q (by simp))
  | int j=>obtain⟨t',rfl⟩:=ry;exact PySem.EqMixed.ne_str_int (a7 I q (by simp))
  | str j=>obtain⟨t',rfl⟩:=ry;exact ne_str (a7 I q (aa2 not zH))
  | _=>exact absurd (show false=true from hs) aaj
 | Cy i=>
  obtain⟨t,rfl⟩:=rx
  cases y with
  | Cy j=>obtain⟨t',rfl⟩:=ry;exact W.ne_bytes (a7 I q (aa2 not zI))
  | _=>exact absurd (show false=true from hs) aaj
 | _=>cases y<;>exact absurd (show false=true from hs) aaj
theorem jC:mz X (compareOp .Lt) (GX fun i j=>.bl (decide (i<j))):=KJ fun _ _ _ _ _ _ _ q=>lt_int q
theorem zJ:mz X (compareOp .LtE) (GX fun i j=>.bl (decide (i<=j))):=KJ fun _ _ _ _ _ _ _ q=>le_int q
theorem pK:mz X (compareOp .Gt) (GX fun i j=>.bl (decide (j<i))):=KJ fun _ _ _ _ _ _ _ q=>gt_int q
theorem aG (b:Expr){op:CmpOp}(h:op≠.In:=by decide)(h2:op≠.NotIn:=by decide):behindInMarks op b=false:=by
 have e1:(op==CmpOp.In)=false:=by cases op<;>first|rfl|exact absurd rfl h
 have e2:(op==CmpOp.NotIn)=false:=by cases op<;>first|rfl|exact absurd rfl h2
 cases b<;>simp[behindInMarks,e1,e2]
theorem dF {op:CmpOp}{r:R2}(ho:mz X (compareOp op) r)(ha:PE X a ta)(hb:PE X b tb)(hm:behindInMarks op b=false):PE X (.Compare a [op] [b] pos) (N8 r ta tb):=by
 intro pins s σ H Q I h
 exact wpAny_Compare1 (KH ha hb I h fun v u s2 x y H2 I2 rx ry q=>ho pins s2 σ H2 x y v u Q I2 rx ry q) hm
inductive CY (Q:Bool->Hp->Prop)(x:V)(H':Hp):Prop
 | mk:∀ k,(x=.bl k)->(Q k H')->CY Q x H'
def Oa (t:TE):TT:=fun σ H Q=>t σ H fun x H'=>CY Q x H'
theorem aE {op:CmpOp}{r:R2}(ho:mz X (compareOp op) r)(ha:PE X a ta)(hb:PE X b tb)(hm:behindInMarks op b=false):PT X (.Compare a [op] [b] pos) (Oa (N8 r ta tb)):=by
 intro pins s σ H Q I h
 refine wpAny_isTrue_Compare1 (dC (ha pins s σ H _ I h) fun v s1 ⟨x,H1,I1,r1,q1⟩=>dC (hb pins s1 σ H1 _ I1 q1) fun u s2 ⟨y,H2,I2,r2,q2⟩=>
  dC (ho pins s2 σ H2 x y v u _ I2 r1 r2 q2) fun c s3 ⟨z,H3,I3,r3,k,e,q3⟩=>?_) hm
 subst e
 cases r3
 exact acN ⟨H3,I3,q3⟩
theorem pL:(sizeLine:Nat)<2^63:=by rw[sizeLine_eq];decide
theorem vals1 {x:V}{us:List Value}(r:Vals [x] us):∃ u,us=[u]/\RelV x u:=by
 cases r with
 | cons r1 r2=>cases r2;exact⟨_,rfl,r1⟩
theorem lN:ff X (.builtin "abs") (fun xs H Q=>∃ i,xs=[.int i]/\Q (.int (if i<0 then -i else i)) H):=by
 intro pins s σ H xs us Q I r h
 obtain⟨i,rfl,q⟩:=h
 obtain⟨u,rfl,t,rfl⟩:=vals1 r
 exact call_abs_int fun u tk=>⟨.int (if i<0 then -i else i),H,I.tok _,⟨_,rfl⟩,q⟩
theorem A9:ff X (.type "int") (fun xs H Q=>(∃ i,xs=[.int i]/\Q (.int i) H)\/∃ k,xs=[.bl k]/\Q (.int (if k then 1 else 0)) H):=by
 intro pins s σ H xs us Q I r h
 rcases h with ⟨i,rfl,q⟩|⟨k,rfl,q⟩
 ·obtain⟨u,rfl,t,rfl⟩:=vals1 r
  exact call_int_int ⟨.int i,H,I,⟨_,rfl⟩,q⟩
 ·obtain⟨u,rfl,r1⟩:=vals1 r
  cases r1
  exact call_int_bool ⟨.int (if k then 1 else 0),H,I.tok _,⟨_,rfl⟩,q⟩
end
structure KO (h:Heap)(x dx C:Addr)(mA:Str->Option Value):Prop where
 obj:h.get? x=some (W.instObj C dx)
 ns:h.Ns1 dx mA
 ne:dx≠x
theorem Ba {h:Heap}{dx:Addr}{mA:Str->Option Value}(n:h.Ns1 dx mA):∃ od,h.get? dx=some od/\∀ name,W.lookIn name od=some (mA name):=by
 obtain⟨o,es,ep,ho,hd,hk,_,hm⟩:=n
 refine⟨o,ho,fun name=>?_⟩
 have e:=hm name
 unfold nsFind findBy at e
 rw[<- Array.find?_toList] at e
 unfold W.lookIn
 rw[hd]
 dsimp only
 split
 ·rename_i y q
  rw[q] at e
  exact aa2 some e
 ·rename_i q
  rw[q] at e
  have a:es.toList.any (·.refKey)=false:=by
   rw[List.any_eq_false]
   intro y hy
   obtain⟨z,t,xQ⟩:=hk y (Array.mem_toList_iff.mp hy)
   simp[DictEntry.refKey,xQ]
  have a':¬ es.toList.any (·.refKey)=true:=by rw[a];exact aaj
  rw[aar a']
  exact aa2 some e
theorem KO.look {h:Heap}{x dx C:Addr}{mA:Str->Option Value}(I:KO h x dx C mA):∃ od,W.InstAt h x (W.instObj C dx) C (some od)/\∀ name,W.lookIn name od=some (mA name):=
 let ⟨od,ho,hl⟩:=Ba I.ns
 ⟨od,⟨I.obj,rfl,rfl,ho⟩,hl⟩
section
variable {prog:Program}{w:World}{A:Around}{E:Value->Shared->Prop}{s:Shared}{K:W.Frag}{x dx C f:Addr}{mA:Str->Option Value}{name:Str}{v:Value}
end
theorem xJ.some_of {v:V}{o:Option Value}(r:xJ (some v) o):∃ u,o=some u/\RelV v u:=by
 cases o with
 | none=>exact (show False from r).elim
 | some u=>exact⟨u,rfl,r⟩
theorem Bb {v:V}{u:Value}(r:RelV v u):W.handedIn u=true:=by
 cases v with
 | eI=>cases (show u=Value.none from r);rfl
 | bl b=>cases (show u=Value.bool b from r);rfl
 | int i=>obtain⟨t,e⟩:=(show ∃ t,u=Value.int i t from r);cases e;rfl
 | str x=>obtain⟨t,e⟩:=(show ∃ t,u=Value.str x t from r);cases e;rfl
 | Cy b=>obtain⟨t,e⟩:=(show ∃ t,u=Value.bytes b t from r);cases e;rfl
 | Kl b=>obtain⟨t,e⟩:=(show ∃ t,u=Value.float b t from r);cases e;rfl
 | ref a=>cases (show u=Value.ref a from r);rfl
 | ty n=>cases (show u=Value.type n from r);rfl
section
variable {P:Program}{w:World}{H H':Hp}{h h':Heap}{a C dx:Addr}{fs Nc:List (Str × V)}
theorem GY (bE:kD P w H h)(e:H a=some (.ins C dx fs)):∃ mA,KO h a dx C mA/\(∀ f,xJ (fs.lookup f) (mA f))/\PySem.Within mA (fs.map (·.1))/\fs.length<=1000/\H dx=some (.own a):=by
 obtain⟨d,z,ne,ob,mA,n,r,q⟩:=(show bJ P w H h a (.ins C dx fs) from bE a _ e)
 exact⟨mA,⟨ob,n,ne⟩,r,q,z,d⟩
end
structure SG (K:W.Frag)(C:Addr):Prop where
 pg:W.plainGet K C Str.empty=true
 hd:W.hasDictIn K C=true
 po:W.plainOver K C=true
 sa:W.findIn K (.ref C) "__setattr__"=some (some (.builtin "object.__setattr__"))
theorem SG.get {K:W.Frag}{C:Addr}(c:SG K C)(f:Str):W.plainGet K C f=true:=c.pg
section
variable {X:Cx}{pins:List (Addr × Obj)}{σ:St}{H:Hp}{s:Shared}{a C dx:Addr}{fs:List (Str × V)}{f:Str}{v:V}{A:Around}{E:Value->Shared->Prop}
theorem GZ {prog:Program}{w:World}{env:Env}{e:Expr}{f:Str}{pos:Pos}{s:Shared}{Q:Value->Shared->Prop}(hb:attributeBase e f env (eval e env)=eval e env)
  (h:wpAny (model prog w) A (eval e env) (fun o s₁=>wpAny (model prog w) A (getAttr o f true) Q E s₁) E s):wpAny (model prog w) A (eval (.Attribute e f pos) env) Q E s:=
 Attribute_any_ h (by rw[arm_eval_Attribute,hb])
end
section
variable {X:Cx}{o e value:Expr}{f:Str}{pos pos' SH:Pos}{ta tv:TE}
end
section
variable {X:Cx}{pins:List (Addr × Obj)}{σ:St}{H:Hp}{s:Shared}{A:Around}{E:Value->Shared->Prop}{Q:Value->Shared->Prop}{c:Value}{b:Bool}
inductive mB (K:W.Frag)(H:Hp):V->Value->Prop where
 | eI:mB K H .eI (.type "NoneType")
 | bl (x:Bool):mB K H (.bl x) (.type "bool")
 | int (i:Int):mB K H (.int i) (.type "int")
 | str (x:Str):mB K H (.str x) (.type "str")
 | Kl (x:UInt64):mB K H (.Kl x) (.type "float")
 | lst {a:Addr}{xs:List V} (e:H a=some (.lst xs)):mB K H (.ref a) (.type "list")
 | mw {a:Addr}{o:Obj}{xs:List V} (e:H a=some (.mw o (.lst xs))):mB K H (.ref a) (.type "list")
 | tup {a:Addr}{xs:List V} (e:H a=some (.tup xs)):mB K H (.ref a) (.type "tuple")
 | dK {a:Addr}{mq:List (Key × V)} (e:H a=some (.dK mq)):mB K H (.ref a) (.type "dict")
 | dT {a:Addr}{mq:List (List Key × V)} (e:H a=some (.dT mq)):mB K H (.ref a) (.type "dict")
 | ins {a C dx:Addr}{fs:List (Str × V)} (e:H a=some (.ins C dx fs)) (cl:SG K C) (ha:W.findIn K (.ref C) "__class__"=some (some (.builtin "object.__class__")))
   (hn:W.specialIn K (.builtin "object.__class__") "__get__"=some (some (.builtin "getset_descriptor.__get__"))) (VF:W.takesIn K (.builtin "object.__class__")=some true)
   (hm:W.mroIn K C (.type "object")=some true):mB K H (.ref a) (.ref C)
theorem Bc {x:V}{u t:Value}(I:Inv X pins σ H s)(rx:RelV x u)(ty:mB X.K H x t)(e:W.kitOne X.K t c=some b)(h:∀ tk,Q (.bool b) { s with toks:=tk }) :
  wpAny (model X.prog X.w) A (call (.builtin "isinstance") [u,c]) Q E s:=by
 cases ty with
 | eI=>cases (show u=Value.none from rx);exact acJ W.kitx_none I.kA True.intro e (fun z=>nomatch z) h
 | bl y=>cases (show u=Value.bool y from rx);exact acJ W.kitx_bool I.kA True.intro e (fun z=>nomatch z) h
 | int i=>obtain⟨t,q⟩:=(show ∃ t,u=Value.int i t from rx);cases q;exact acJ W.kitx_int I.kA True.intro e (fun z=>nomatch z) h
 | str y=>obtain⟨t,q⟩:=(show ∃ t,u=Value.str y t from rx);cases q;exact acJ W.kitx_str I.kA True.intro e (fun z=>nomatch z) h
 | Kl y=>obtain⟨t,q⟩:=(show ∃ t,u=Value.float y t from rx);cases q;exact acJ W.kitx_float I.kA True.intro e (fun z=>nomatch z) h
 | @lst a xs ea=>
  cases (show u=Value.ref a from rx)
  obtain⟨_,_,n,_,h1⟩:=(show bJ X.prog X.w H s.heap a (.lst xs) from I.bE a _ ea)
  exact acJ W.kitx_list I.kA ⟨_,h1,rfl⟩ e (fun z=>nomatch z) h
 | @mw a ob xs ea=>
  cases (show u=Value.ref a from rx)
  obtain⟨_,_,_,n,_,h1⟩:=(show bJ X.prog X.w H s.heap a (.mw ob (.lst xs)) from I.bE a _ ea)
  exact acJ W.kitx_list I.kA ⟨_,h1,rfl⟩ e (fun z=>nomatch z) h
 | @tup a xs ea=>
  cases (show u=Value.ref a from rx)
  obtain⟨_,_,_,p⟩:=(show bJ X.prog X.w H s.heap a (.tup xs) from I.bE a _ ea)
  obtain⟨o,h1,h2,_⟩:=p
  exact acJ W.kitx_tuple I.kA ⟨o,h1,h2⟩ e (fun z=>nomatch z) h
 | @dK a mq ea=>
  cases (show u=Value.ref a from rx)
  obtain⟨_,_,vs,_,p⟩:=(show bJ X.prog X.w H s.heap a (.dK mq) from I.bE a _ ea)
  obtain⟨o,es,ep,h1,h2,_⟩:=p
  exact acJ W.kitx_dict I.kA ⟨o,h1,h2.1⟩ e (fun z=>nomatch z) h
 | @dT a mq ea=>
  cases (show u=Value.ref a from rx)
  obtain⟨_,_,xs,_,o,es,ep,h1,h2,_⟩:=(show bJ X.prog X.w H s.heap a (.dT mq) from I.bE a _ ea)
  exact acJ W.kitx_dict I.kA ⟨o,h1,h2.1⟩ e (fun z=>nomatch z) h
 | @ins a C dx fs ea cl ha hn VF hm=>
  cases (show u=Value.ref a from rx)
  obtain⟨mA,O,_⟩:=GY I.bE ea
  obtain⟨od,J,_⟩:=O.look
  exact acJ (W.kitx_own (cl.get _) cl.hd ha hn VF hm) I.kA J e (fun z=>nomatch z) h
end
structure eL (k:Nat)(A:Around):Prop where
 hd:A.handled=none
 dp:A.depth+3*k+5<recursionLimit
 un:A.units+16*k+200<cLine
theorem eL.mono {j k:Nat}{A:Around}(r:eL k A)(h:j<=k):eL j A:=⟨r.hd,by have:=r.dp;omega,by have:=r.un;omega⟩
theorem eL.deeper {k:Nat}{A:Around}(r:eL (k+1) A)(env:Env):eL k (A.deeper env):=
 ⟨r.hd,by have:=r.dp;show A.depth+1+3*k+5<_;omega,by have:=r.un;show A.units+3+16*k+200<_;omega⟩
theorem xR {A:Around}{C:Addr}{us:List Value}{kw:List (Str × Value)}:(A.under (.builtin "type.__call__" ⟨.ref C::us,kw⟩)).depth=A.depth+1:=by
 first|rfl|simp[Around.under,Code.weight,Code.isCreation,Code.isGuard,Code.isCaller,Code.frames,Code.isFrame,guardIds]
theorem xS {A:Around}{C:Addr}{us:List Value}{kw:List (Str × Value)}:(A.under (.builtin "type.__call__" ⟨.ref C::us,kw⟩)).units=A.units+1:=by
 first|rfl|simp[Around.under,Code.cUnits,Code.frames,Code.isFrame]
theorem eL.make {k:Nat}{A:Around}(r:eL (k+1) A)(C:Addr)(us:List Value)(kw:List (Str × Value)):eL k (A.under (.builtin "type.__call__" ⟨.ref C::us,kw⟩)):=
 ⟨r.hd,by have:=r.dp;rw[xR];omega,by have:=r.un;rw[xS];omega⟩
theorem eL.depth {k:Nat}{A:Around}(r:eL k A):A.depth<recursionLimit:=by have:=r.dp;omega
def SI:TA:=fun _ H Q=>Q [] H
def Ob (ta:TE)(tr:TA):TA:=fun σ H Q=>ta σ H fun x H1=>tr σ H1 fun xs H2=>Q (x::xs) H2
section
variable {X:Cx}{e:Expr}{es:List Expr}{te:TE}{t:TA}{pos:Pos}
theorem af:PA X [] SI:=fun _ _ _ _ H Q I h=>Calls.spliced_nil ⟨[],H,I,.nil,h⟩
theorem aa (ha:PE X e te)(hr:PA X es t)(hs:starEach (e::es) X.env=(false,eval e X.env)::starEach es X.env:=by rfl):PA X (e::es) (Ob te t):=by
 intro pos pins s σ H Q I h
 rw[hs]
 show wpAny _ _ (spliced ((false,eval e X.env)::backTo pos (starEach es X.env))) _ _ s
 refine Calls.spliced_cons (dC (ha pins s σ H _ I h) fun u s1 ⟨x,H1,I1,r1,q1⟩=>?_)
 exact dC (hr pos pins s1 σ H1 _ I1 q1) fun us s2 ⟨xs,H2,I2,r2,q2⟩=>⟨x::xs,H2,I2,.cons r1 r2,q2⟩
def SJ (t:TA):TE:=fun σ H Q=>t σ H fun xs H1=>xs.length<=sizeLine/\∀ p,H1 p=none->Q (.ref p) (upd H1 p (.tup xs))
def SK (t:TA):TE:=fun σ H Q=>t σ H fun xs H1=>xs.length<=sizeLine/\∀ p,H1 p=none->Q (.ref p) (upd H1 p (.lst xs))
theorem aJ {x1}(h:PA X es t):PE X (.Tuple es x1 pos) (SJ t):=by
 intro pins s σ H Q I hq
 refine wpAny_Tuple_spliced (dC (h pos pins s σ H _ I hq) fun us s1 ⟨xs,H1,I1,r,z,q⟩=>⟨by rw[<- r.length];exact z,?_⟩)
 have hf:H1 s1.heap.objs.size=none:=I1.bE.fresh (aai _)
 refine⟨.ref s1.heap.objs.size,upd H1 s1.heap.objs.size (.tup xs),I1.laid (t':=s1.toks) (fun b u e=>aab _ e) (aai _) ?_,rfl,q _ hf⟩
 exact⟨z,us,r,⟨_,aap _ rfl,rfl,_,rfl⟩⟩
theorem cE (h:PA X es t):PE X (.List es pos) (SK t):=by
 intro pins s σ H Q I hq
 refine wpAny_List_spliced (dC (h pos pins s σ H _ I hq) fun us s1 ⟨xs,H1,I1,r,z,q⟩=>⟨by rw[<- r.length];exact z,?_⟩)
 have hf:H1 s1.heap.objs.size=none:=I1.bE.fresh (aai _)
 refine⟨.ref s1.heap.objs.size,upd H1 s1.heap.objs.size (.lst xs),I1.laid (t':=s1.toks) (fun b u e=>aab _ e) (aai _) ?_,rfl,q _ hf⟩
 exact⟨z,us,0,r,aap _ rfl⟩
end
abbrev Sp:=List V->Hp->VK->XK->Prop
abbrev xF:=List Env->Hp->Shared->XK->Value->Shared->Prop
structure rL (P:Program)(w:World)(K:W.Frag)(mg:Str->Option Value)(base:Heap)(A:Around)(outer:List Env)(s:Shared)(H:Hp):Prop where
 frames:A.frames=some outer
 mod:Mod K mg base
 bs:∀ b o,base.get? b=some o->s.heap.get? b=some o/\H b=none
 pF:base.objs.size<=s.heap.objs.size
 iu:s.heap.FunFrames base outer
 r9:∀ b∈gI outer,H b=none
 bE:kD P w H s.heap
 bare:AllBare s.gens
def CE (outer:List Env)(P:Program)(w:World)(H:Hp)(s:Shared)(Q:VK)(u:Value)(s':Shared):Prop:=
 ∃ v H',s'.os=s.os/\AllBare s'.gens/\Un (gI outer) [] H H' s.heap s'.heap/\kD P w H' s'.heap/\RelV v u/\Q v H'
def CR (CX:xF)(outer:List Env)(P:Program)(w:World)(H:Hp)(s:Shared)(Q:VK)(E:XK)(r:Result)(s':Shared):Prop:=
 match r with
 | .ok (.ret u)=>CE outer P w H s Q u s'
 | .ok _=>False
 | .error e=>CX outer H s E e s'
structure kB (P:Program)(w:World)(K:W.Frag)(mg:Str->Option Value)(base:Heap)(CX:xF)(k:Nat)(f:Addr)(fd:FuncData)(ps:List Str)(sp:Sp):Prop where
 len:∀ vs H Q E,sp vs H Q E->vs.length=ps.length
 run:∀ (A:Around) (outer:List Env) (s:Shared) (H:Hp) (args:Args) (us:List Value) (vs:List V) (Q:VK) (E:XK),eL k A->rL P w K mg base A outer s H->BindsTo s fd args (ps.zip us)->Vals vs us->sp vs H Q E ->
  codeAny (model P w) A (.call (.ref f) args) (CR CX outer P w H s Q E) s
theorem rL.make {P:Program}{w:World}{K:W.Frag}{mg:Str->Option Value}{base:Heap}{A:Around}{outer:List Env}{s:Shared}{H:Hp}(e:rL P w K mg base A outer s H)(C:Addr)(us:List Value)(kw:List (Str × Value)) :
  rL P w K mg base (A.under (.builtin "type.__call__" ⟨.ref C::us,kw⟩)) outer s H:=⟨by first|exact e.frames|(simpa [Around.under,Code.envs,Code.isFrame,pushEnvs] using e.frames),e.mod,e.bs,e.pF,e.iu,e.r9,e.bE,e.bare⟩
section
variable {X:Cx}{pins:List (Addr × Obj)}{σ:St}{H:Hp}{s s':Shared}
theorem Inv.G0 (I:Inv X pins σ H s):rL X.prog X.w X.K X.mg X.base X.A X.stack s H:=
 ⟨I.ok.frames,I.ok.mod,I.bs,aag I.ok.pF I.sz,I.stack,I.kf,I.bE,I.bare⟩
theorem Inv.after {Q:VK}{u:Value}(I:Inv X pins σ H s)(h:CE X.stack X.prog X.w H s Q u s'):EP X pins σ Q u s':=by
 obtain⟨v,H',os,bare,un,bE,r,q⟩:=h
 obtain⟨hh,g,d,t,SM⟩:=s'
 obtain rfl:SM=s.os:=os
 exact⟨v,H',I.call (h':=hh) (g':=g) (d':=d) (t':=t) (ch:=[]) un bE bare (fun b z=>absurd z (by simp)),r,q⟩
end
def zK (sp:Sp)(zL:List V)(E:XK)(t:TA):TE:=fun σ H Q=>t σ H fun vs H1=>sp (vs++zL) H1 Q E
def Binds (K:W.Frag)(fd:FuncData)(ps:List Str)(ds:List Value):Prop:=
 ∀ (s:Shared) (us:List Value),K.In s.heap->(us++ds).length=ps.length->BindsTo s fd ⟨us,[]⟩ (ps.zip (us++ds))
theorem Binds.all {K:W.Frag}{fd:FuncData}{ps:List Str}(h:∀ us:List Value,us.length=ps.length->bindArgs fd ⟨us,[]⟩=pure (ps.zip us)):Binds K fd ps []:=fun s us _ hl=>by
 rw[abi] at hl ⊢
 exact .of_eq (h us hl)
def Passes (CX:xF)(X:Cx)(E:XK):Prop:=∀ (pins:List (Addr × Obj)) (σ:St) (H:Hp) (s:Shared) (e:Value) (s':Shared),Inv X pins σ H s->CX X.stack H s E e s'->X.xe e s'
section
variable {X:Cx}{CX:xF}{k:Nat}{f C:Addr}{fd:FuncData}{ps:List Str}{sp:Sp}{zL:List V}{ds:List Value}{E:XK}{x m:Str}{p pos apos:Pos}{e o:Expr}{es:List Expr}{ta:TE}{t:TA}
theorem KP {pins:List (Addr × Obj)}{σ:St}{H:Hp}{s:Shared}{Q:VK}{us:List Value}{vs:List V}(F:kB X.prog X.w X.K X.mg X.base CX k f fd ps sp)(hr:eL k X.A)(hb:Binds X.K fd ps ds)(hd:Vals zL ds)(hx:Passes CX X E)
  (I:Inv X pins σ H s) (r:Vals vs us) (h:sp (vs++zL) H Q E):wpAny (model X.prog X.w) X.A (call (.ref f) us) (EP X pins σ Q) X.xe s:=by
 have r2:Vals (vs++zL) (us++ds):=r.append hd
 have hl:(us++ds).length=ps.length:=by rw[<- r2.length];exact F.len _ _ _ _ h
 refine acA (acI (F.run X.A X.stack s H ⟨us,[]⟩ (us++ds) (vs++zL) Q E hr I.G0 (hb s us I.kA hl) r2 h) fun r s' hq=>?_)
 cases r with
 | error e=>exact hx pins σ H s e s' I hq
 | ok fl=>
  cases fl with
  | ret u=>exact I.after hq
  | next=>exact False.elim hq
  | brk=>exact False.elim hq
  | cont=>exact False.elim hq
theorem G4 (F:kB X.prog X.w X.K X.mg X.base CX k f fd ps sp)(hr:eL k X.A)(hg:Gl X x)(hm:X.mg x=some (.ref f))(hk:W.keepIn X.K (.ref f)=true)(hb:Binds X.K fd ps ds)(hd:Vals zL ds)(hx:Passes CX X E)
  (ha:PA X (e::es) t) (tJ:(x==("__debug__":Str))=false:=by decide) (he:starEach (e::es) X.env=(false,eval e X.env)::starEach es X.env:=by rfl) (kH:(backTo pos (starEach es X.env)).any (·.1)=false:=by rfl) :
  PE X (.Call (.Name x p) (e::es) [] pos) (zK sp zL E t):=by
 intro pins s σ H Q I h
 refine ac6 (iM I hg hm ?_ tJ)
 refine W.callWith_K (h₀:=X.base) I.ok.mod.Ko hk (dC (ha pos pins s σ H _ I h) fun us s1 ⟨vs,H1,I1,r,q⟩=>⟨I1.kA,?_⟩) he kH
 exact KP F hr hb hd hx I1 r q
end
section
variable {X:Cx}{CX:xF}{k:Nat}{f C:Addr}{fd:FuncData}{ps ks:List Str}{sp:Sp}{E:XK}{x m:Str}{p pos apos Xj:Pos}{e o:Expr}{es:List Expr}{kws:List Keyword}{te ta:TE}{t tk:TA}{nm:Option Str}
variable {g:List Value->List Value->List Value}{gV:List V->List V->List V}
end
structure ay (N P:List Str)(sc:Scope):Prop where
 kind:sc.kind=.function
 co:sc.isCoroutine=false
 gen:sc.isGenerator=false
 nd:N.Nodup
 pre:N.take P.length=P
 par:∀ x∈P,sc.names.lookup x=some .local\/sc.names.lookup x=some .cell
 KQ:∀ y∈sc.names,y.2≠.free
theorem sh {kindOf:Str->Option NameKind}{x:Str}:∀ {binds:List (Str × Value)}{m:Str->Option Value},(∀ v,(x,v)∉binds)->bindL kindOf binds m x=m x
 | [],_,_=>rfl
 | (n,v)::r,m,h=>by
  unfold bindL
  rw[sh fun w hw=>h w (aaL _ hw)]
  split
  ·have:x≠n:=by rintro rfl;exact h v aaR
   simp[this]
  ·rfl
theorem si {kindOf:Str->Option NameKind}{x:Str}:∀ {binds:List (Str × Value)}{m:Str->Option Value},(∀ v,(x,v)∉binds)->bindC kindOf binds m x=m x
 | [],_,_=>rfl
 | (n,v)::r,m,h=>by
  unfold bindC
  rw[si fun w hw=>h w (aaL _ hw)]
  split
  ·rfl
  ·have:x≠n:=by rintro rfl;exact h v aaR
   simp[this]
theorem sj {kindOf:Str->Option NameKind}{x:Str}{v:Value}:∀ {P:List Str}{vs:List Value}{i:Nat}{m:Str->Option Value},P.Nodup->P[i]?=some x->vs[i]?=some v->kindOf x=some .local ->
  bindL kindOf (P.zip vs) m x=some v
 | [],_,_,_,_,h,_,_=>by simp at h
 | _::_,[],_,_,_,_,h,_=>by simp at h
 | p::P,w::vs,0,m,nd,h1,h2,hk=>by
  simp at h1 h2;subst h1;subst h2
  show bindL kindOf ((p,w)::P.zip vs) m p=_
  unfold bindL
  rw[sh fun v hv=>(acd.mp nd).1 (ad2 hv).1,aaz hk]
  simp
 | p::P,w::vs,i+1,m,nd,h1,h2,hk=>by
  show bindL kindOf ((p,w)::P.zip vs) m x=_
  unfold bindL
  exact sj (i:=i) (acd.mp nd).2 (by simpa using h1) (by simpa using h2) hk
theorem sk {kindOf:Str->Option NameKind}{x:Str}{v:Value}:∀ {P:List Str}{vs:List Value}{i:Nat}{m:Str->Option Value},P.Nodup->P[i]?=some x->vs[i]?=some v->kindOf x≠some .local ->
  bindC kindOf (P.zip vs) m x=some v
 | [],_,_,_,_,h,_,_=>by simp at h
 | _::_,[],_,_,_,_,h,_=>by simp at h
 | p::P,w::vs,0,m,nd,h1,h2,hk=>by
  simp at h1 h2;subst h1;subst h2
  show bindC kindOf ((p,w)::P.zip vs) m p=_
  unfold bindC
  rw[si fun v hv=>(acd.mp nd).1 (ad2 hv).1,aar hk]
  simp
 | p::P,w::vs,i+1,m,nd,h1,h2,hk=>by
  show bindC kindOf ((p,w)::P.zip vs) m x=_
  unfold bindC
  exact sk (i:=i) (acd.mp nd).2 (by simpa using h1) (by simpa using h2) hk
def start (N:List Str)(vs:List V):St:=vs.map some++List.replicate (N.length-vs.length) none
def fV (CX:xF)(P:Program)(w:World)(K:W.Frag)(mg:Str->Option Value)(base:Heap)(N:List Str)(qual:Str)(scope:Scope)(f:Addr)(cd:Value)(A:Around)(outer:List Env)(s:Shared)(H:Hp)(E:XK):Cx where
 prog:=P
 w:=w
 K:=K
 mg:=mg
 base:=base
 A:=A.deeper (envOfC qual scope s.heap.objs.size f cd)
 N:=N
 s₀:=s
 H₀:=H
 env:=envOfC qual scope s.heap.objs.size f cd
 outer:=outer
 stack:=envOfC qual scope s.heap.objs.size f cd::outer
 ex:=[]
 calm:=true
 bq:=true
 fz:=[]
 fn:=fun _=>true
 pn:=[]
 xe:=fun e s'=>wpAny (model P w) (A.deeper (envOfC qual scope s.heap.objs.size f cd)) (leaving (envOfC qual scope s.heap.objs.size f cd) e) (fun _ KR=>CX outer H s E e KR) (fun e' KR=>CX outer H s E e' KR) s'
theorem vL {sc:Scope}{n:Nat}{x:Str}(h:sc.names.lookup x=some .cell):∃ c,(cellsFrom n sc.names []).lookup x=some c:=by
 have q:=aeS sc.names n [] (.inl h)
 exact abS.mp q
theorem sm {CX:xF}{P:Program}{w:World}{K:W.Frag}{mg:Str->Option Value}{base:Heap}{N ps:List Str}{qual:Str}{scope:Scope}{f:Addr}{cd:Value}{A:Around}{outer:List Env}{s s1:Shared}{H:Hp}{E:XK}{us:List Value}{vs:List V}
  (S:ay N ps scope) (hd:A.handled=none) (e0:rL P w K mg base A outer s H) (hl:vs.length=ps.length) (r:Vals vs us)
  (x:InCallC s s.heap.objs.size (bindL (envOfC qual scope s.heap.objs.size f cd).kindOf (ps.zip us) fun _=>none) (cellsFrom (s.heap.objs.size+1) scope.names []) (bindC (envOfC qual scope s.heap.objs.size f cd).kindOf (ps.zip us) fun _=>none) s1) :
  Inv (fV CX P w K mg base N qual scope f cd A outer s H E) [] (start N vs) H s1:=by
 have kH:ps.length<=N.length:=by have:=aa2 List.length S.pre;rw[abU] at this;omega
 obtain⟨h1,tk,rfl,hk⟩:=x.done
 have Oc:∀ b:Addr,b∉(fV CX P w K mg base N qual scope f cd A outer s H E).ex:=fun b z=>absurd (show b∈([]:List Addr) from z) (by simp)
 refine⟨⟨e0.mod,S.kind,rfl,rfl,aai _,fun y z c h1 h2=>?_,fun y hy=>?_,fun y c _ h=>?_,fun _=>hd,fun _=>.inl hd,Around.frames_deeper e0.frames,.inr ⟨rfl,rfl⟩,fun b z=>absurd z (Oc b),e0.bs,e0.pF,fun b _ _=>Oc b,fun b z=>absurd z (Oc b),e0.iu,e0.r9⟩,
  (fun p hp=>nomatch hp),rfl,e0.bare,Un.kept hk,⟨_,x.toInCall.ns,fun i y v h1 h2 h3=>?_⟩,fun y c h=>⟨_,x.cell y c h⟩,e0.bE.fresh (aai _),fun y c h=>?_,fun p hp=>absurd (show p∈([]:List (Addr × Obj)) from hp) (by simp),e0.bE.kept hk,?_⟩
 ·exact name_of_addr x.apart (abq h1) (abq h2)
 ·have hy:scope.names.lookup y=some .cell\/scope.names.lookup y=some .free:=hy
  rcases hy with hy|hy
  ·exact vL hy
  ·exact absurd rfl (S.KQ _ (abq hy))
 ·exact adu (x.above y c (abq h))
 ·have hi:i<vs.length:=by
   unfold start at h2
   by_cases hi:i<vs.length
   ·exact hi
   ·rw[adp (by simpa using hi)] at h2
    rw[List.getElem?_replicate] at h2
    split at h2<;>cases h2
  have ha:vs[i]?=some v:=by
   unfold start at h2
   rw[List.getElem?_append_left (by simpa using hi),aaB] at h2
   cases e:vs[i]? with
   | none=>rw[e] at h2;cases h2
   | some a=>rw[e] at h2;cases h2;rfl
  obtain⟨u,hu,rv⟩:=r.get ha
  have hp:ps[i]?=some y:=by
   rw[<- S.pre,List.getElem?_take_of_lt (by omega)];exact h1
  have VG:ps.Nodup:=by rw[<- S.pre];exact S.nd.sublist (List.take_sublist _ _)
  refine⟨u,rv,?_⟩
  rcases S.par y (aaV hp) with k|k
  ·exact .inl ⟨k,sj VG hp hu k⟩
  ·obtain⟨c,e⟩:=vL (n:=s.heap.objs.size+1) k
   refine .inr ⟨.inl k,c,e,?_⟩
   have q:=x.cell y c e
   rw[sk VG hp hu (by show scope.names.lookup y≠_;rw[k];decide)] at q
   exact q
 ·exact e0.bE.fresh (adu (x.above y c (abq h)))
 ·unfold start
  show _=N.length
  rw[aaT,aas,List.length_replicate]
  omega
theorem Jv {CX:xF}{P:Program}{w:World}{K:W.Frag}{mg:Str->Option Value}{base:Heap}{k:Nat}{f:Addr}{name qual:Str}{params:Arguments}{body:List Stmt}{scope:Scope}{dV kV doc pm bh ct oc:Value}{an od:Option Addr}
  {vM:Array (Option Value)}{N ps:List Str}{sp:Sp} (lk:K.lookup f=some ⟨oc,od,.func (W.fnOf name qual params body scope dV kV doc pm an bh ct),vM⟩) (xD:W.codeIn K bh qual=true) (S:ay N ps scope)
  (len:∀ vs H Q E,sp vs H Q E->vs.length=ps.length)
  (fW:∀ (A:Around) (outer:List Env) (s:Shared) (H:Hp) (vs:List V) (Q:VK) (E:XK),eL k (A.deeper (envOfC qual scope s.heap.objs.size f bh))->sp vs H Q E ->
   ∃ t,oO (fV CX P w K mg base N qual scope f bh A outer s H E) body t/\t { nx:=fun _ H'=>Q .eI H',rt:=Q } (start N vs) H) :
  kB P w K mg base CX (k+1) f (W.fnOf name qual params body scope dV kV doc pm an bh ct) ps sp:=by
 refine⟨len,fun A outer s H args us vs Q E hr e0 hb r xT=>?_⟩
 have hl:=len _ _ _ _ xT
 have KX:K.In s.heap:=e0.mod.Ko.keeps fun b o e=>(e0.bs b o e).1
 have lim:s.heap.NoLimit:=e0.mod.nolimit.keeps fun b o e=>(e0.bs b o e).1
 have CZ:∀ y∈ps.zip us,scope.names.lookup y.1=some .local\/(scope.names.lookup y.1=some .cell/\((cellsFrom (s.heap.objs.size+1) scope.names []).lookup y.1).isSome=true):=fun ⟨n,v⟩ hy=>by
  rcases S.par n (ad2 hy).1 with q|q
  ·exact .inl q
  ·exact .inr ⟨q,aeS _ _ _ (.inl q)⟩
 refine codeAny_call_function hr.depth (KX _ _ lk) rfl S.co S.gen rfl (W.codeRec_of KX xD) (hb _ _ _ _ ?_)
 refine wpAny_newFunctionEnv_cells S.kind CZ fun env he s1 x=>?_
 subst he
 refine⟨lim.keeps x.toInCall.keep,codeAny_func ?_⟩
 obtain⟨t,ht,hq⟩:=fW A outer s H vs Q E (hr.deeper _) xT
 have I:Inv (fV CX P w K mg base N qual scope f bh A outer s H E) [] (start N vs) H s1:=sm S hr.hd e0 hl r x
 refine aav (ht [] s1 (start N vs) H _ I hq) (fun fl s' hs=>?_) fun e s' hs=>hs
 have fin:∀ {σ':St}{H':Hp}{v:V}{u:Value},Inv (fV CX P w K mg base N qual scope f bh A outer s H E) [] σ' H' s'->RelV v u->Q v H'->CE outer P w H s Q u s':=
  fun {σ' H' v u} J rv q=>⟨v,H',J.os,J.bare,J.base,J.bE,rv,q⟩
 cases fl with
 | ret u=>
  obtain⟨v,σ',H',J,rv,q⟩:=hs
  exact fin J rv q
 | next=>
  obtain⟨σ',H',J,q⟩:=hs
  exact fin (v:=V.eI) (u:=Value.none) J rfl q
 | brk=>
  obtain⟨_,_,_,q⟩:=hs
  exact False.elim q
 | cont=>
  obtain⟨_,_,_,q⟩:=hs
  exact False.elim q
section
variable {X:Cx}{x:Str}{p pos:Pos}{e:Expr}{es:List Expr}{t:TA}{id T:String}{r:List V->Hp->VK->Prop}
def VH (r:List V->Hp->VK->Prop)(t:TA):TE:=fun σ H Q=>t σ H fun vs H1=>r vs H1 Q
theorem aS (hc:ff X (.builtin id) r)(hg:Gl X x)(hm:X.mg x=none)(hv:bootBuiltins x=some (.builtin id))(ha:PA X (e::es) t)(hn:x≠"__name__":=by decide)(tJ:(x==("__debug__":Str))=false:=by decide)
  (he:starEach (e::es) X.env=(false,eval e X.env)::starEach es X.env:=by rfl) (kH:(backTo pos (starEach es X.env)).any (·.1)=false:=by rfl):PE X (.Call (.Name x p) (e::es) [] pos) (VH r t):=by
 intro pins s σ H Q I h
 refine ac6 (mx I hg hm hv ?_ hn tJ)
 exact PyProof.Rows.callWith_builtin1 (dC (ha pos pins s σ H _ I h) fun us s1 ⟨vs,H1,I1,r1,q1⟩=>hc pins s1 σ H1 vs us Q I1 r1 q1) he kH
theorem cT (hc:ff X (.type T) r)(hg:Gl X x)(hm:X.mg x=none)(hv:bootBuiltins x=some (.type T))(ha:PA X (e::es) t)(hn:x≠"__name__":=by decide)(tJ:(x==("__debug__":Str))=false:=by decide)
  (he:starEach (e::es) X.env=(false,eval e X.env)::starEach es X.env:=by rfl) (kH:(backTo pos (starEach es X.env)).any (·.1)=false:=by rfl):PE X (.Call (.Name x p) (e::es) [] pos) (VH r t):=by
 intro pins s σ H Q I h
 refine ac6 (mx I hg hm hv ?_ hn tJ)
 exact acv (dC (ha pos pins s σ H _ I h) fun us s1 ⟨vs,H1,I1,r1,q1⟩=>hc pins s1 σ H1 vs us Q I1 r1 q1) he kH
end
end L2
namespace HT
open PySem PyProof.Rows
section
open PySem.SeqAt
open PySem.AutoSeq1 (wpAny_loadPart')
open PySem.MeetsSeq PySem.MeetsSeq2 PySem.MeetsSeq3
end
section
variable {prog:Program}{w:World}{A:Around}{E:Value->Shared->Prop}{s:Shared}
theorem G5 {t b:Addr}{vs ws:List Value}{Q:Value->Shared->Prop}(ht:IsTup s.heap t vs.toArray)(hb:IsTup s.heap b ws.toArray)(hv:vs≠[])
  (h1:ws=[]->Q (.ref t) s) (h2:ws≠[]->Q (.ref s.heap.objs.size) { s with heap:=s.heap.push { cls:=.type "tuple",data:=.seq (vs++ws).toArray } })
  (Jw:vs.length+ws.length<=sizeLine):wpAny (model prog w) A (binaryOp .Add (.ref t) (.ref b)) Q E s:=by
 obtain⟨⟨cls,dd,data,sl⟩,ho,hc,n,hd⟩:=id ht
 obtain⟨⟨Xk,VI,data2,Nk⟩,Nl,zM,n2,hd2⟩:=id hb
 simp only at hc hd zM hd2
 subst hc hd zM hd2
 have e:vs.toArray++ws.toArray=(vs++ws).toArray:=by simp
 by_cases hw:ws=[]
 ·exact concat_meets ⟨_,ho,rfl⟩ ⟨_,Nl,rfl⟩ noFill_tuple_add seq_tuple_add PySem.F.slot_tuple_add PySem.F.entry_tuple_add (PySem.F.args_tuple_add_2 _ _)
   (tuple_addW1 t b vs.toArray ws.toArray n n2 dd VI sl Nk (by simpa using hv) (by simp[hw])) ⟨ho,Nl,h1 hw⟩
 ·refine concat_meets ⟨_,ho,rfl⟩ ⟨_,Nl,rfl⟩ noFill_tuple_add seq_tuple_add PySem.F.slot_tuple_add PySem.F.entry_tuple_add (PySem.F.args_tuple_add_2 _ _)
   (tuple_addW2 t b vs.toArray ws.toArray n n2 dd VI sl Nk (by simpa using hv) (by simpa using hw) (by rw[aau,aau];exact Jw)) ⟨ho,Nl,?_⟩
  rw[e]
  exact h2 hw
def iB (n d:Nat):Option Int->Nat
 | none=>d
 | some v=>if v<0 then (v+(n:Int)).toNat else min v.toNat n
theorem KS (n d:Nat)(hd:d<=n)(o:Option Int):iB n d o<=n:=by
 cases o with
 | none=>exact hd
 | some v=>
  show (if v<0 then (v+(n:Int)).toNat else min v.toNat n)<=n
  by_cases hv:v<0
  ·rw[aaz hv];omega
  ·rw[aar hv];exact Nat.min_le_right _ _
theorem zN (v:Int)(n d:Nat):(if v<0 then max (v+(n:Int)) 0 else min v (n:Int))=((iB n d (some v):Nat):Int):=by
 show (if v<0 then max (v+(n:Int)) 0 else min v (n:Int))=(((if v<0 then (v+(n:Int)).toNat else min v.toNat n):Nat):Int)
 by_cases hv:v<0
 ·simp only[aaz hv];omega
 ·simp only[aar hv];omega
theorem xU (lo hi:Option Int)(n:Nat):Builtin.Slice.sliceAdjust lo hi 1 (n:Int)=(((iB n 0 lo:Nat):Int),((iB n n hi:Nat):Int)):=by
 have h1:¬ ((1:Int)<0):=by omega
 unfold Builtin.Slice.sliceAdjust
 simp only[h1,adq]
 refine Prod.ext ?_ ?_
 ·cases lo with
  | none=>rfl
  | some v=>exact zN v n 0
 ·cases hi with
  | none=>rfl
  | some v=>exact zN v n n
theorem xV (i j:Nat):Builtin.Slice.slicePlaces (i:Int) (j:Int) 1=j-i:=by
 unfold Builtin.Slice.slicePlaces
 have h1:(1:Int) > 0:=by omega
 simp only[h1,aef,Int.ediv_one]
 split<;>omega
theorem pM {v:Value}{o:Option Int}{Q:Option Int->Shared->Prop}(p:IsPart v o)(h:Q o s):wpAny (model prog w) A (Builtin.Slice.slicePartIndex v) Q E s:=by
 cases p with
 | none=>exact slicePart_none h
 | int i t=>exact slicePart_int h
theorem mC {sl:Addr}{vl vu:Value}{lo hi:Option Int}{n:Nat}{Q:Int × Int × Nat->Shared->Prop}(hs:s.heap.IsSliceOf sl vl vu .none)(pl:IsPart vl lo)(pu:IsPart vu hi)
  (h:Q (((iB n 0 lo:Nat):Int),1,iB n n hi-iB n 0 lo) s):wpAny (model prog w) A (Builtin.Slice.sliceApplied (.ref sl) (pure (n:Int))) Q E s:=by
 obtain⟨os,zO,VJ,Be⟩:=id hs
 unfold Builtin.Slice.sliceApplied Builtin.Slice.sliceFields
 refine aaa (aaa (aaG zO Be (x:=vl) rfl (aaa (aaG zO Be (x:=vu) rfl (aaa (aaG zO Be (x:=.none) rfl (aad ?_)))))))
 refine aaa (slicePart_none ?_)
 show wpAny _ _ (if ((1:Int)==0)=true then _ else _) _ _ s
 rw[aar (by decide)]
 refine aaa (pM pl (aaa (pM pu (aaa (aad ?_)))))
 show wpAny _ _ (match Builtin.Slice.sliceAdjust lo hi 1 (n:Int) with|(lo,hi)=>pure (lo,(1:Int),Builtin.Slice.slicePlaces lo hi 1)) _ _ s
 rw[xU lo hi n]
 show wpAny _ _ (pure (((iB n 0 lo:Nat):Int),(1:Int),Builtin.Slice.slicePlaces ((iB n 0 lo:Nat):Int) ((iB n n hi:Nat):Int) 1)) _ _ s
 rw[xV]
 exact aad h
theorem C0 (xs:Array Value)(i k:Nat):((List.range k).filterMap fun (m:Nat)=>xs[((i:Int)+(m:Int)*1).toNat]?).toArray=((xs.toList.drop i).take k).toArray:=by
 have e:(fun (m:Nat)=>xs[((i:Int)+(m:Int)*1).toNat]?)=fun m=>xs[i+m]?:=by
  funext m
  have:((i:Int)+(m:Int)*1).toNat=i+m:=by omega
  rw[this]
 rw[e]
 have:=pick_run xs i k
 rw[List.filterMap_map] at this
 have e2:((fun x=>xs[x]?) ∘ fun x=>i+x)=fun m=>xs[i+m]?:=rfl
 rw[e2] at this
 rw[this]
theorem lO {t sl:Addr}{items:Array Value}{vl vu:Value}{lo hi:Option Int}{Q:Value->Shared->Prop}(ht:IsTup s.heap t items)(hs:s.heap.IsSliceOf sl vl vu .none)(pl:IsPart vl lo)(pu:IsPart vu hi)
  (hw:¬ (iB items.size 0 lo=0/\iB items.size items.size hi=items.size))
  (h:Q (.ref s.heap.objs.size) { s with heap:=s.heap.push { cls:=.type "tuple",data:=.seq ((items.toList.drop (iB items.size 0 lo)).take (iB items.size items.size hi-iB items.size 0 lo)).toArray } })
  (Jw:items.size<=sizeLine):wpAny (model prog w) A (getItem (.ref t) (.ref sl)) Q E s:=by
 have zP:sizeOk (.seq ((items.toList.drop (iB items.size 0 lo)).take (iB items.size items.size hi-iB items.size 0 lo)).toArray):=by
  show ((items.toList.drop (iB items.size 0 lo)).take (iB items.size items.size hi-iB items.size 0 lo)).toArray.size<=sizeLine
  rw[aau,abU,aey,aaU]
  omega
 have hj:iB items.size items.size hi<=items.size:=KS _ _ (aai _) hi
 obtain⟨os,zO,VJ,Be⟩:=id hs
 have Xl:s.TypeIs (.ref sl) "slice":=⟨os,zO,VJ⟩
 unfold getItem
 try with_reducible refine aaW ?_
 first|refine aaa (aad ?_)|skip
 refine aaa (wpAny_sequenceKey ht.typeIs (by decide) ?_)
 refine aaa (aaJ (name:=Str.ofString "__getitem__") ht.typeIs PyProof.Rows.slot_tuple_getitem
  (aa3 PyProof.Rows.slot_tuple_getitem ht.typeIs entry_tuple_getitem ?_ (args_tuple_getitem _ _)))
 show wpAny _ _ (Builtin.Tuple.tupleItemsOf (.ref t) >>= _) _ _ s
 refine aaa (tupleItemsOf_ ht ?_)
 refine aaa (aeR Xl ?_)
 rw[aaz (by decide)]
 refine aaa (mC hs pl pu ?_)
 have Xm:¬ ((((iB items.size 0 lo:Nat):Int)==0&&(1:Int)==1&&(iB items.size items.size hi-iB items.size 0 lo)==items.size)=true):=by
  intro q
  rw[ab8,ab8] at q
  have q1:((iB items.size 0 lo:Nat):Int)=0:=eq_of_beq q.1.1
  have q2:iB items.size items.size hi-iB items.size 0 lo=items.size:=eq_of_beq q.2
  exact hw ⟨by omega,by omega⟩
 show wpAny _ _ (if (((iB items.size 0 lo:Nat):Int)==0&&(1:Int)==1&&(iB items.size items.size hi-iB items.size 0 lo)==items.size)=true then _ else _) _ _ s
 rw[aar Xm,C0]
 first
  | exact aaa (m:=Builtin.Tuple.tupleExact _) (aa1 (aad ⟨_,rfl,aad h⟩) zP)
  | exact aaa (m:=Builtin.Tuple.tupleExact _) (aa1 (aaa (aad (aad ⟨_,rfl,aad h⟩))) zP)
  | exact aaa (aaa (m:=Builtin.Tuple.tupleExact _) (aa1 (aad (aad ⟨_,rfl,aad h⟩)) zP))
  | exact aaa (aaa (m:=Builtin.Tuple.tupleExact _) (aa1 (aad ⟨_,rfl,aad h⟩) zP))
end
end HT
namespace L2
open PySem PySem.Spec PyProof.Rows
abbrev TO:=St->Hp->(Option Int->Hp->Prop)->Prop
def PO (X:Cx)(e:Option Expr)(t:TO):Prop:=
 ∀ (pins:List (Addr × Obj)) (s:Shared) (σ:St) (H:Hp) (Q:Option Int->Hp->Prop),Inv X pins σ H s->t σ H Q ->
  wpAny (model X.prog X.w) X.A (evalPart e X.env) (fun u s'=>∃ o H',Inv X pins σ H' s'/\IsPart u o/\Q o H') X.xe s
def G6:TO:=fun _ H Q=>Q none H
inductive C3 (Q:Option Int->Hp->Prop)(x:V)(H1:Hp):Prop
 | mk:∀ i,(x=.int i)->(Q (some i) H1)->C3 Q x H1
def Od (t:TE):TO:=fun σ H Q=>t σ H fun x H1=>C3 Q x H1
section
variable {X:Cx}{e:Expr}{te:TE}{lo hi:Option Expr}{tl th:TO}{pos p2:Pos}
theorem zQ:PO X none G6:=by
 intro pins s σ H Q I h
 rw[evalPart_none]
 exact aad ⟨none,H,I,.none,h⟩
theorem zR (h:PE X e te):PO X (some e) (Od te):=by
 intro pins s σ H Q I hw
 rw[evalPart_some]
 refine dC (h pins s σ H _ I hw) fun u s1 ⟨x,H1,I1,r1,q1⟩=>?_
 obtain⟨i,rfl,q⟩:=q1
 obtain⟨t,rfl⟩:=r1
 exact⟨some i,H1,I1,.int i t,q⟩
def SN (X:Cx)(r:V->Option Int->Option Int->Hp->VK->Prop):Prop:=
 ∀ (pins:List (Addr × Obj)) (s:Shared) (σ:St) (H:Hp) (x:V) (v vl vu:Value) (lo hi:Option Int) (sl:Addr) (Q:VK),Inv X pins σ H s->RelV x v->s.heap.IsSliceOf sl vl vu .none->IsPart vl lo->IsPart vu hi->r x lo hi H Q ->
  ∃ T id,typeLookup (.type T) "__getitem__"=pure (some (.builtin id))/\s.TypeIs v T/\wpAny (model X.prog X.w) X.A (getItem v (.ref sl)) (EP X pins σ Q) X.xe s
def Xn (r:V->Option Int->Option Int->Hp->VK->Prop)(te:TE)(tl th:TO):TE:=fun σ H Q=>te σ H fun x H1=>tl σ H1 fun l H2=>th σ H2 fun u H3=>r x l u H3 Q
theorem vN {r:V->Option Int->Option Int->Hp->VK->Prop}(hr:SN X r)(he:PE X e te)(hl:PO X lo tl)(hu:PO X hi th):PE X (.Subscript e (.Slice lo hi none p2) pos) (Xn r te tl th):=by
 intro pins s σ H Q I h
 refine Subscript_ (dC (he pins s σ H _ I h) fun v s1 ⟨x,H1,I1,r1,q1⟩=>?_)
 refine wpAny_Slice (dC (hl pins s1 σ H1 _ I1 q1) fun vl s2 ⟨l,H2,I2,pl,q2⟩=>dC (hu pins s2 σ H2 _ I2 q2) fun vu s3 ⟨u,H3,I3,pu,q3⟩=>?_)
 rw[evalPart_none]
 refine aad ?_
 have I4:Inv X pins σ H3 { s3 with heap:=s3.heap.push { cls:=.type "slice",data:=.fields #[vl,vu,.none] } }:=I3.kept (t':=s3.toks) fun b ob q=>aab _ q
 obtain⟨T,id,hT,ht,hg⟩:=hr pins { s3 with heap:=s3.heap.push { cls:=.type "slice",data:=.fields #[vl,vu,.none] } } σ H3 x v vl vu l u s3.heap.objs.size Q I4 r1 (Heap.IsSliceOf.new ..) pl pu q3
 show wpAny (model X.prog X.w) X.A (subscriptTail e (.Slice lo hi none p2) v (.ref s3.heap.objs.size)) (EP X pins σ Q) X.xe { s3 with heap:=s3.heap.push { cls:=.type "slice",data:=.fields #[vl,vu,.none] } }
 exact tail_any (ops:=[.ref s3.heap.objs.size,v]) ht hT hg (by with_unfolding_all rfl)
def G7 (xs:List V)(lo hi:Option Int):List V:=(xs.drop (HT.iB xs.length 0 lo)).take (HT.iB xs.length xs.length hi-HT.iB xs.length 0 lo)
theorem vO (xs:List V)(lo hi:Option Int):(G7 xs lo hi).length<=xs.length:=by
 unfold G7
 rw[abU,aey]
 omega
inductive KU (K:W.Frag)(x:V)(lo:Option Int)(hi:Option Int)(H:Hp)(Q:VK):Prop
 | mk:∀ a xs,(x=.ref a)->(aF K H a xs)->(¬ (HT.iB xs.length 0 lo=0/\HT.iB xs.length xs.length hi=xs.length))->(∀ p,H p=none->Q (.ref p) (upd H p (.tup (G7 xs lo hi))))->KU K x lo hi H Q
theorem KW:SN X (KU X.K):=by
 intro pins s σ H x v vl vu lo hi sl Q I rx hs pl pu h
 obtain⟨a,xs,rfl,hx,hw,q⟩:=h
 cases rx
 obtain⟨aK,r,ht,hz⟩:=I.tuple hx
 have hlen:aK.toArray.size=xs.length:=by rw[aau];exact r.length.symm
 refine⟨"tuple",_,PyProof.Rows.slot_tuple_getitem.lookup,ht.typeIs,?_⟩
 refine HT.lO ht hs pl pu (by rw[hlen];exact hw) ?_ (by rw[hlen];exact hz)
 rw[hlen]
 refine⟨.ref s.heap.objs.size,_,I.laid (t':=s.toks) (o:=.tup (G7 xs lo hi)) (fun b ob q=>aab _ q) (aai _) ?_,rfl,q _ (I.bE.fresh (aai _))⟩
 exact⟨aag (vO xs lo hi) hz,_,(r.drop (HT.iB xs.length 0 lo)).take (HT.iB xs.length xs.length hi-HT.iB xs.length 0 lo),IsTup.new _ _⟩
inductive C4 (K:W.Frag)(x:V)(y:V)(H:Hp)(Q:VK):Prop
 | mk:∀ a b xs ys,(x=.ref a)->(y=.ref b)->(aF K H a xs)->(aF K H b ys)->(xs≠[])->(xs.length+ys.length<=sizeLine)->((ys=[]->Q (.ref a) H))->((ys≠[]->∀ p,H p=none->Q (.ref p) (upd H p (.tup (xs++ys)))))->C4 K x y H Q
theorem Vals.tK {xs:List V}{us:List Value}(r:Vals xs us):us=[]↔xs=[]:=by
 cases r with
 | nil=>simp
 | cons _ _=>simp
theorem G8:mz X (binaryOp .Add) (C4 X.K):=by
 intro pins s σ H x y v u Q I rx ry h
 obtain⟨a,b,xs,ys,rfl,rfl,ha,hb,hx,hz,q1,q2⟩:=h
 cases rx
 cases ry
 obtain⟨aK,r1,p1,_⟩:=I.tuple ha
 obtain⟨vP,r2,p2,_⟩:=I.tuple hb
 refine HT.G5 p1 p2 (fun z=>hx (r1.tK.mp z)) (fun z=>⟨.ref a,H,I,rfl,q1 (r2.tK.mp z)⟩) (fun z=>?_) (by rw[<- r1.length,<- r2.length];exact hz)
 refine⟨.ref s.heap.objs.size,_,I.laid (t':=s.toks) (o:=.tup (xs++ys)) (fun b ob q=>aab _ q) (aai _) ?_,rfl,q2 (fun w=>z (r2.tK.mpr w)) _ (I.bE.fresh (aai _))⟩
 exact⟨by rw[aaT];exact hz,_,r1.append r2,IsTup.new _ _⟩
end
def KY (n:Nat)(i:Int):Option Nat:=if 0<=i then (if i<n then some i.toNat else none) else if -(n:Int)<=i then some (i+n).toNat else none
def xG {α:Type}(xs:List α)(i:Int):Option α:=(KY xs.length i).bind fun j=>xs[j]?
theorem zS {n:Nat}{i:Int}{j:Nat}(h:KY n i=some j):seqIndex? i n=some j/\j<n/\-(n:Int)<=i/\i<n:=by
 unfold KY at h
 by_cases h0:0<=i
 ·rw[aaz h0] at h
  by_cases h1:i<n
  ·rw[aaz h1] at h
   have e:i.toNat=j:=aac h
   exact⟨by rw[seqIndex_of h0 h1,e],by omega,by omega,h1⟩
  ·rw[aar h1] at h;cases h
 ·rw[aar h0] at h
  by_cases h1:-(n:Int)<=i
  ·rw[aaz h1] at h
   have e:(i+n).toNat=j:=aac h
   exact⟨by rw[seqIndex_neg (by omega) h1,e],by omega,h1,by omega⟩
  ·rw[aar h1] at h;cases h
theorem tL {α:Type}{xs:List α}{i:Int}{v:α}(h:xG xs i=some v):∃ j,seqIndex? i xs.length=some j/\xs[j]?=some v/\j<xs.length/\-(xs.length:Int)<=i/\i<xs.length:=by
 unfold xG at h
 cases e:KY xs.length i with
 | none=>rw[e] at h;cases h
 | some j=>
  rw[e] at h
  obtain⟨h1,h2,h3,h4⟩:=zS e
  exact⟨j,h1,h,h2,h3,h4⟩
theorem zT {α:Type}{xs:List α}{j:Nat}{v:α}(h:xs[j]?=some v):xG xs (j:Int)=some v:=by
 have hj:j<xs.length:=(abm.mp h).1
 have e:KY xs.length (j:Int)=some j:=by
  unfold KY
  rw[aaz (by omega),aaz (by omega)];simp
 unfold xG;rw[e];exact h
def zU (b:Expr):Prop:=∀ o i,subscripted b false o i=operate [o,i] (getItem o i)
def Bf (X:Cx)(r:R2):Prop:=
 ∀ (value slice:Expr) (pins:List (Addr × Obj)) (s:Shared) (σ:St) (H:Hp) (x y:V) (v u:Value) (Q:VK),Inv X pins σ H s->RelV x v->RelV y u->r x y H Q ->
  subscripted slice false v u=operate [v,u] (getItem v u)->wpAny (model X.prog X.w) X.A (subscriptTail value slice v u) (EP X pins σ Q) X.xe s
def VL (X:Cx)(id:String)(r:V->List V->Hp->VK->Prop):Prop:=
 ∀ (pins:List (Addr × Obj)) (s:Shared) (σ:St) (H:Hp) (x:V) (xs:List V) (v:Value) (us:List Value) (Q:VK),Inv X pins σ H s->RelV x v->Vals xs us->r x xs H Q ->
  wpAny (model X.prog X.w) X.A (call (.builtin id) (v::us)) (EP X pins σ Q) X.xe s
section
variable {X:Cx}{a b:Expr}{ta tb:TE}{pos:Pos}
theorem Bf.or {r r':R2}(h:Bf X r)(h':Bf X r'):Bf X (fun x y H Q=>r x y H Q\/r' x y H Q):=by
 intro value slice pins s σ H x y v u Q I rx ry q hs
 rcases q with q|q
 ·exact h value slice pins s σ H x y v u Q I rx ry q hs
 ·exact h' value slice pins s σ H x y v u Q I rx ry q hs
theorem Oe {r:R2}(hr:Bf X r)(ha:PE X a ta)(hb:PE X b tb)(hs:zU b):PE X (.Subscript a b pos) (N8 r ta tb):=by
 intro pins s σ H Q I h
 exact Subscript_ (KH ha hb I h fun v u s2 x y H2 I2 rx ry q=>hr a b pins s2 σ H2 x y v u Q I2 rx ry q (hs _ _))
inductive G9 (K:W.Frag)(x:V)(y:V)(H:Hp)(Q:VK):Prop
 | mk:∀ p xs i v,(x=.ref p)->(y=.int i)->(aM K H p xs)->(xG xs i=some v)->(Q v H)->G9 K x y H Q
inductive Ha (K:W.Frag)(x:V)(y:V)(H:Hp)(Q:VK):Prop
 | mk:∀ p xs i v,(x=.ref p)->(y=.int i)->(aF K H p xs)->(xG xs i=some v)->(Q v H)->Ha K x y H Q
inductive KZ (x:V)(y:V)(H:Hp)(Q:VK):Prop
 | mk:∀ z i c,(x=.str z)->(y=.int i)->(z.length<=sizeLine)->(xG z.cps.toList i=some c)->(Q (.str ⟨#[c]⟩) H)->KZ  x y H Q
theorem zV:Bf X (G9 X.K):=by
 intro value slice pins s σ H x y v u Q I rx ry h hs
 obtain⟨p,xs,i,z,rfl,rfl,hq,he,q⟩:=h
 cases rx
 obtain⟨t,rfl⟩:=ry
 obtain⟨aK,r,pl,hz⟩:=I.list hq
 obtain⟨j,h1,h2,h3,h4,h5⟩:=tL he
 obtain⟨w,ew,Jr⟩:=r.get h2
 have hl:=r.length
 have hn:=pL
 have fin:EP X pins σ Q w s:=⟨z,H,I,Jr,q⟩
 by_cases h0:0<=i
 ·have hj:i.toNat=j:=by
   rw[seqIndex_of h0 h5] at h1
   exact aac h1
  exact item_listR pl.isList h0 (by omega) (by rw[hj];simpa using ew) fin hs
 ·have hj:(i+(aK.toArray.size:Int)).toNat=j:=by
   rw[seqIndex_neg (by omega) h4] at h1
   rw[aau,<- hl]
   exact aac h1
  exact subscriptTail_builtinR (x:=w) pl.isList.typeIs slot_list_getitem.lookup
   (wpAny_getItem_list_neg (Q:=fun r s'=>r=w/\EP X pins σ Q r s') pl.isList (by omega) (by rw[aau]<;>omega) (by omega) (by rw[hj];simpa using ew) ⟨rfl,fin⟩) hs
theorem C5:Bf X (Ha X.K):=by
 intro value slice pins s σ H x y v u Q I rx ry h hs
 obtain⟨p,xs,i,z,rfl,rfl,hq,he,q⟩:=h
 cases rx
 obtain⟨t,rfl⟩:=ry
 obtain⟨aK,r,pl,hz⟩:=I.tuple hq
 obtain⟨j,h1,h2,h3,h4,h5⟩:=tL he
 obtain⟨w,ew,Jr⟩:=r.get h2
 have hl:=r.length
 have hn:=pL
 have fin:EP X pins σ Q w s:=⟨z,H,I,Jr,q⟩
 exact subscriptTail_builtinR (x:=w) pl.typeIs slot_tuple_getitem.lookup
  (getItem_tuple (j:=j) (Q:=fun r s'=>r=w/\EP X pins σ Q r s') pl (by omega) (by omega) (by rw[aau,<- hl];exact h1) (by simpa using ew) ⟨rfl,fin⟩) hs
theorem K0:Bf X KZ:=by
 intro value slice pins s σ H x y v u Q I rx ry h hs
 obtain⟨z,i,c,rfl,rfl,hz,he,q⟩:=h
 obtain⟨t,rfl⟩:=rx
 obtain⟨t',rfl⟩:=ry
 obtain⟨j,h1,h2,h3,h4,h5⟩:=tL he
 have hl:z.cps.toList.length=z.length:=by simp[Str.length]
 rw[hl] at h1 h4 h5
 have hn:=pL
 exact tail_any (typeIs_str s z t) slot_str_getitem.lookup (getItem_str (c:=c) (by
  have e1:decide (i < -(2^63:Int))=false:=aa5 (by omega)
  have e2:decide (i >= 2^63)=false:=aa5 (by omega)
  rw[e1,e2,Bool.or_false]) (by rw[h1];simpa using h2) ⟨.str ⟨#[c]⟩,H,I.tok _,⟨_,rfl⟩,q⟩) hs
def SO (K:W.Frag):R2:=fun x y H Q=>G9 K x y H Q\/Ha K x y H Q\/KZ x y H Q
theorem K1:Bf X (SO X.K):=zV.or (C5.or K0)
theorem xW (aK:List Value)(n j:Nat)(u:Value):Obj.mapSeq (·.setIfInBounds j u) { cls:=.type "list",data:=.seq aK.toArray n }={ cls:=.type "list",data:=.seq (aK.set j u).toArray n }:=by
 simp[Obj.mapSeq]
theorem Inv.lst {pins:List (Addr × Obj)}{σ:St}{H:Hp}{s:Shared}{p:Addr}{xs:List V}(I:Inv X pins σ H s)(h:H p=some (.lst xs)) :
  ∃ (aK:List Value) (n:Nat),Vals xs aK/\s.heap.get? p=some { cls:=.type "list",data:=.seq aK.toArray n }/\xs.length<=sizeLine:=by
 obtain⟨z,aK,n,r,e⟩:=I.bE p _ h
 exact⟨aK,n,r,e,z⟩
theorem Inv.K2 {pins:List (Addr × Obj)}{σ:St}{H:Hp}{s:Shared}{p:Addr}{xs ys:List V}{aK its':List Value}{n n':Nat}{f:Obj->Obj}(I:Inv X pins σ H s)(h:H p=some (.lst xs))
  (ho:s.heap.get? p=some { cls:=.type "list",data:=.seq aK.toArray n }) (hf:f { cls:=.type "list",data:=.seq aK.toArray n }={ cls:=.type "list",data:=.seq its'.toArray n' }) (r:Vals ys its') (hz:ys.length<=sizeLine) (t:Nat) :
  Inv X pins σ (upd H p (.lst ys)) { s with heap:=s.heap.update p f,toks:=t }:=by
 have e:(s.heap.update p f).get? p=some { cls:=.type "list",data:=.seq its'.toArray n' }:=by
  rw[aa4 f ho (by rw[hf]<;>rfl),hf]
 refine I.write (x:=p) (e:=p) (by rw[h];trivial) (.inl rfl) (fun b u hb q=>(abc _ _ (Ne.symm hb)).trans q) ⟨_,e⟩ ?_
 exact⟨hz,its',n',r,e⟩
inductive Jx (o:V)(i:V)(v:V)(H:Hp)(Q:Hp->Prop):Prop
 | mk:∀ p xs k j,(o=.ref p)->(i=.int k)->(H p=some (.lst xs))->(KY xs.length k=some j)->(Q (upd H p (.lst (xs.set j v))))->Jx  o i v H Q
theorem set_list:N5 X Jx:=by
 intro pins s σ H o i v ov iv u Q I ro ri rv h
 obtain⟨p,xs,k,j,rfl,rfl,hp,hj,q⟩:=h
 cases ro
 obtain⟨t,rfl⟩:=ri
 obtain⟨aK,n,r,ho,hz⟩:=I.lst hp
 obtain⟨h1,h2,h3,h4⟩:=zS hj
 have hl:=r.length
 have hn:=pL
 have I':Inv X pins σ (upd H p (.lst (xs.set j v))) { s with heap:=s.heap.update p (Obj.mapSeq (·.setIfInBounds j u)) }:=
  I.K2 hp ho (xW aK n j u) (r.set rv j) (by rw[List.length_set];exact hz) s.toks
 by_cases h0:0<=k
 ·have hk:k.toNat=j:=by
   rw[seqIndex_of h0 h4] at h1
   exact aac h1
  exact W.ki_setAt ho h0 (by omega) (by rw[aau,<- hl];exact h4) (by rw[hk];exact⟨_,I',q⟩)
 ·have hk:(k+(aK.toArray.size:Int)).toNat=j:=by
   rw[seqIndex_neg (by omega) h3] at h1
   rw[aau,<- hl]
   exact aac h1
  exact W.ki_setBack ho (by omega) (by rw[aau,<- hl];exact h3) (by omega) (by rw[hk];exact⟨_,I',q⟩)
def nN:V->Bool
 | .eI=>true
 | .bl _=>true
 | .int _=>true
 | .str _=>true
 | _=>false
def Hb:V->V->Bool
 | .eI,.eI=>true
 | .bl a,.bl b=>a==b
 | .bl a,.int b=>(if a then 1 else 0)==b
 | .int a,.bl b=>a==(if b then 1 else 0)
 | .int a,.int b=>a==b
 | .str a,.str b=>a==b
 | _,_=>false
theorem K3 {A:Around}{s:Shared}{y x:V}{u v:Value}(ry:RelV y u)(rx:RelV x v)(fy:nN y=true)(fx:nN x=true):SeqAt.EqAt A s u v (Hb y x):=by
 cases y with
 | eI=>
  cases ry
  cases x with
  | eI=>cases rx;exact SeqAt.EqAt.same _
  | bl b=>cases rx;exact SeqAt.EqAt.none_bool b
  | int b=>obtain⟨t,rfl⟩:=rx;exact SeqAt.EqAt.none_int b t
  | str b=>obtain⟨t,rfl⟩:=rx;exact SeqAt.EqAt.none_str b t
  | _=>exact absurd (show false=true from fx) aaj
 | bl a=>
  cases ry
  cases x with
  | eI=>cases rx;exact SeqAt.EqAt.bool_none a
  | bl b=>cases rx;exact SeqAt.EqAt.bool_bool a b
  | int b=>obtain⟨t,rfl⟩:=rx;exact SeqAt.EqAt.bool_int a b t
  | str b=>obtain⟨t,rfl⟩:=rx;exact SeqAt.EqAt.bool_str a b t
  | _=>exact absurd (show false=true from fx) aaj
 | int a=>
  obtain⟨t',rfl⟩:=ry
  cases x with
  | eI=>cases rx;exact SeqAt.EqAt.int_none a t'
  | bl b=>cases rx;exact SeqAt.EqAt.int_bool a t' b
  | int b=>obtain⟨t,rfl⟩:=rx;exact SeqAt.EqAt.int_int a t' b t
  | str b=>obtain⟨t,rfl⟩:=rx;exact SeqAt.EqAt.int_str a t' b t
  | _=>exact absurd (show false=true from fx) aaj
 | str a=>
  obtain⟨t',rfl⟩:=ry
  cases x with
  | eI=>cases rx;exact SeqAt.EqAt.str_none a t'
  | bl b=>cases rx;exact SeqAt.EqAt.str_bool a t' b
  | int b=>obtain⟨t,rfl⟩:=rx;exact SeqAt.EqAt.str_int a t' b t
  | str b=>obtain⟨t,rfl⟩:=rx;exact SeqAt.EqAt.str_str a t' b t
  | _=>exact absurd (show false=true from fx) aaj
 | _=>exact absurd (show false=true from fy) aaj
def Hc (x:V)(u:Value):Bool:=match u with
 | .none=>Hb .eI x
 | .bool b=>Hb (.bl b) x
 | .int i _=>Hb (.int i) x
 | .str z _=>Hb (.str z) x
 | _=>false
theorem C6 {x y:V}{u:Value}(r:RelV y u)(f:nN y=true):Hc x u=Hb y x:=by
 cases y with
 | eI=>cases r;rfl
 | bl b=>cases r;rfl
 | int i=>obtain⟨t,rfl⟩:=r;rfl
 | str z=>obtain⟨t,rfl⟩:=r;rfl
 | _=>exact absurd (show false=true from f) aaj
theorem tM {x:V}:∀ {xs:List V}{us:List Value},Vals xs us->xs.all nN=true->us.any (Hc x)=xs.any fun y=>Hb y x
 | _,_,.nil,_=>rfl
 | y::xs,u::us,.cons r t,f=>by
  rw[List.all_cons,ab8] at f
  rw[List.any_cons,List.any_cons,C6 r f.1,tM t f.2]
theorem pN {A:Around}{s:Shared}{x:V}{v:Value}(rx:RelV x v)(fx:nN x=true):∀ {xs:List V}{us:List Value},Vals xs us->xs.all nN=true->∀ u∈us,SeqAt.EqAt A s u v (Hc x u)
 | _,_,.nil,_=>fun u hu=>by cases hu
 | y::xs,u::us,.cons r t,f=>fun u' hu=>by
  rw[List.all_cons,ab8] at f
  rcases aaf.mp hu with rfl|hu
  ·rw[C6 r f.1];exact K3 r rx f.1 fx
  ·exact pN rx fx t f.2 u' hu
def Jy (x:V)(xs:List V):Bool:=xs.any fun y=>Hb y x
inductive VM (K:W.Frag)(neg:Bool)(x:V)(y:V)(H:Hp)(Q:VK):Prop
 | mk:∀ p xs,(y=.ref p)->((aM K H p xs\/aF K H p xs))->(nN x=true)->(xs.all nN=true)->(Q (.bl (if neg then !Jy x xs else Jy x xs)) H)->VM K neg x y H Q
theorem su:mz X (compareOp .In) (VM X.K false):=by
 intro pins s σ H x y v u Q I rx ry h
 obtain⟨p,xs,rfl,hq,fx,fs,q⟩:=h
 cases ry
 rcases hq with hq|hq
 ·obtain⟨aK,r,pl,hz⟩:=I.list hq
  refine SeqAt.in_listAt (Hc x) pl.isList (fun w hw=>pN rx fx r fs w (by simpa using hw)) ⟨.bl _,H,I,rfl,?_⟩
  rw[show aK.toArray.any (Hc x)=aK.any (Hc x) by simp,tM r fs]
  exact q
 ·obtain⟨aK,r,pl,hz⟩:=I.tuple hq
  refine SeqAt.in_tupleAt (Hc x) pl (fun w hw=>pN rx fx r fs w (by simpa using hw)) ⟨.bl _,H,I,rfl,?_⟩
  rw[show aK.toArray.any (Hc x)=aK.any (Hc x) by simp,tM r fs]
  exact q
theorem iO:ff X (.builtin "len") (fun xs H Q=>∃ p ys,xs=[.ref p]/\(aM X.K H p ys\/aF X.K H p ys)/\Q (.int ys.length) H):=by
 intro pins s σ H xs us Q I r h
 obtain⟨p,ys,rfl,hq,q⟩:=h
 obtain⟨u,rfl,rx⟩:=vals1 r
 cases rx
 have hn:=pL
 rcases hq with hq|hq
 ·obtain⟨aK,r',pl,hz⟩:=I.list hq
  have hlen:=r'.length
  exact Calls.call_len_list pl.isList (by simp only[aau]<;>omega) ⟨.int ys.length,H,I.tok _,⟨s.toks+1,by rw[aau,hlen]⟩,q⟩
 ·obtain⟨aK,r',pl,hz⟩:=I.tuple hq
  have hlen:=r'.length
  exact len_tuple pl (by simp only[aau]<;>omega) ⟨.int ys.length,H,I.tok _,⟨s.toks+1,by rw[aau,hlen]⟩,q⟩
theorem tN:ff X (.type "list") (fun xs H Q=>∃ p ys,xs=[.ref p]/\(aM X.K H p ys\/aF X.K H p ys)/\∀ l,H l=none->Q (.ref l) (upd H l (.lst ys))):=by
 intro pins s σ H xs us Q I r h
 obtain⟨p,ys,rfl,hq,q⟩:=h
 obtain⟨u,rfl,rx⟩:=vals1 r
 cases rx
 have fin:∀ (aK:List Value),Vals ys aK->ys.length<=sizeLine->∀ (h':Heap) (c':Nat),(∀ b o',s.heap.get? b=some o'->h'.get? b=some o') ->
   h'.get? s.heap.objs.size=some { cls:=.type "list",dict:=none,data:=.seq aK.toArray c',slots:=#[] }->EP X pins σ Q (.ref s.heap.objs.size) { s with heap:=h' }:=fun aK r' hz h' c' kp e=>
  ⟨.ref s.heap.objs.size,_,I.laid (t':=s.toks) kp (aai _) (show bJ X.prog X.w _ h' _ (.lst ys) from ⟨hz,aK,c',r',e⟩),rfl,q _ (I.bE.fresh (aai _))⟩
 rcases hq with hq|hq
 ·obtain⟨aK,r',pl,hz⟩:=I.list hq
  have hlen:=r'.length
  obtain⟨o,ho,hc,n,hd⟩:=pl.isList
  exact call_list_seq p (.inl rfl) ho hc hd (fun h' c' kp e=>fin aK r' hz h' c' kp e) (by simp only[aau]<;>omega)
 ·obtain⟨aK,r',pl,hz⟩:=I.tuple hq
  have hlen:=r'.length
  obtain⟨o,ho,hc,n,hd⟩:=pl
  exact call_list_seq p (.inr rfl) ho hc hd (fun h' c' kp e=>fin aK r' hz h' c' kp e) (by simp only[aau]<;>omega)
theorem cU:ff X (.type "tuple") (fun xs H Q=>∃ p ys,xs=[.ref p]/\((aM X.K H p ys/\∀ l,H l=none->Q (.ref l) (upd H l (.tup ys)))\/(aF X.K H p ys/\Q (.ref p) H))):=by
 intro pins s σ H xs us Q I r h
 obtain⟨p,ys,rfl,h⟩:=h
 obtain⟨u,rfl,rx⟩:=vals1 r
 cases rx
 rcases h with ⟨hq,q⟩|⟨hq,q⟩
 ·obtain⟨aK,r',pl,hz⟩:=I.list hq
  have hlen:=r'.length
  refine call_tuple_list pl.isList (fun h' kp=>?_) (by simp only[aau]<;>omega)
  have I1:Inv X pins σ H { s with heap:=h' }:=I.kept (t':=s.toks) kp
  have I2:Inv X pins σ (upd H h'.objs.size (.tup ys)) { s with heap:=h'.push { cls:=.type "tuple",data:=.seq aK.toArray } }:=
   I1.laid (t':=s.toks) (fun b o e=>aab _ e) (aai _) (show bJ X.prog X.w _ _ _ (.tup ys) from ⟨hz,aK,r',IsTup.new _ _⟩)
  exact⟨.ref h'.objs.size,_,I2,rfl,q _ (I1.bE.fresh (aai _))⟩
 ·obtain⟨aK,r',pl,hz⟩:=I.tuple hq
  exact call_tuple_same pl ⟨.ref p,H,I,rfl,q⟩
def VN (K:W.Frag)(T:String)(x:V)(H:Hp):Prop:=match x with
 | .str _=>T="str"
 | .int _=>T="int"
 | .ref p=>(T="list"/\∃ xs,aM K H p xs)\/(T="tuple"/\∃ o,K.lookup p=some o/\o.cls=.type "tuple"/\o.dict=none) \/
   (T="dict"/\((∃ mq,H p=some (.dK mq))\/∃ mq,H p=some (.dT mq)))\/(T="set"/\∃ S n,H p=some (.set S n))
 | _=>False
theorem K4 {pins:List (Addr × Obj)}{σ:St}{H:Hp}{s:Shared}{T:String}{x:V}{v:Value}(I:Inv X pins σ H s)(r:RelV x v)(ty:VN X.K T x H) :
  s.TypeIs v T/\∀ a,v=.ref a->∃ ob,s.heap.get? a=some ob/\ob.dict=none:=by
 cases x with
 | str z=>
  obtain⟨t,rfl⟩:=r
  cases (show T="str" from ty)
  exact⟨typeIs_str s z t,fun _ e=>nomatch e⟩
 | int i=>
  obtain⟨t,rfl⟩:=r
  cases (show T="int" from ty)
  exact⟨typeIs_int s i t,fun _ e=>nomatch e⟩
 | ref p=>
  cases r
  rcases ty with ⟨rfl,xs,hq⟩|⟨rfl,o,hk,hc,hd⟩|⟨rfl,hk⟩|⟨rfl,S,n,hk⟩
  ·obtain⟨aK,_,pl,_⟩:=I.list hq
   refine⟨pl.isList.typeIs,fun a e=>?_⟩
   cases e
   obtain⟨o,n,e,c,hd,_⟩:=pl
   exact⟨o,e,hd⟩
  ·refine⟨⟨o,I.kA p o hk,hc⟩,fun a e=>?_⟩
   cases e
   exact⟨o,I.kA _ o hk,hd⟩
  ·have z:∃ o,s.heap.get? p=some o/\o.ExactDict:=by
    rcases hk with ⟨mq,hk⟩|⟨mq,hk⟩
    ·obtain⟨_,_,_,_,o,_,_,e,ex,_⟩:=I.bE p _ hk
     exact⟨o,e,ex⟩
    ·obtain⟨_,_,_,_,o,_,_,e,ex,_⟩:=I.bE p _ hk
     exact⟨o,e,ex⟩
   obtain⟨o,e,ex⟩:=z
   refine⟨⟨o,e,ex.1⟩,fun a e2=>?_⟩
   cases e2
   exact⟨o,e,ex.2.1⟩
  ·obtain⟨o,_,_,_,e,ex,_⟩:=I.bE p _ hk
   refine⟨⟨o,e,ex.1⟩,fun a e2=>?_⟩
   cases e2
   exact⟨o,e,ex.2.1⟩
 | _=>exact False.elim ty
def Xo (K:W.Frag)(T:String)(r:V->List V->Hp->VK->Prop)(to:TE)(t:TA):TE:=fun σ H Q=>to σ H fun x H1=>VN K T x H1/\t σ H1 fun xs H2=>r x xs H2 Q
variable {o e:Expr}{es:List Expr}{to:TE}{t:TA}{name:Str}{apos iP:Pos}{T id:String}{r:V->List V->Hp->VK->Prop}
theorem pO (pa:PlainAttrs T)(slot:Slot T name id)(Xp:typeOf (.builtin id)=pure (.type "method_descriptor"))(hm:VL X id r)(ho:PE X o to)(ha:PA X (e::es) t)
  (Of:attributeBase o name X.env (eval o X.env)=eval o X.env:=by rfl)
  (SQ:((backTo iP (starEach (e::es) X.env)).all (fun x=>!x.1)&&(backToKw iP (keywordEach [] X.env)).all (fun x=>x.1.isSome)
  &&decide ((e::es).length+([]:List Keyword).length+(if ([]:List Keyword).isEmpty then 0 else 1)<30))=true:=by rfl)
  (Og:(apos.endLine==iP.line)=true:=by rfl) (hs:starEach (e::es) X.env=(false,eval e X.env)::starEach es X.env:=by rfl) (xX:(backTo iP (starEach es X.env)).any (·.1)=false:=by rfl) :
  PE X (.Call (.Attribute o name apos) (e::es) [] iP) (Xo X.K T r to t):=by
 intro pins s σ H Q I h
 refine wpAny_Call_method_late Of SQ Og rfl (dC (ho pins s σ H _ I h) fun v s1 ⟨x,H1,I1,r1,ty,q1⟩=>?_)
 obtain⟨h1,h2⟩:=K4 I1 r1 ty
 refine⟨T,id,pa,slot,Xp,h1,h2,?_⟩
 have hA:=ha iP pins s1 σ H1 _ I1 q1
 rw[hs] at hA ⊢
 refine Calls.callWith_builtin (by show (false || (backTo iP (starEach es X.env)).any (·.1))=false;rw[xX]<;>rfl) (Calls.evalArgs_plain ?_)
 exact dC hA fun us s2 ⟨vs,H2,I2,r2,q2⟩=>hm pins s2 σ H2 x vs v us Q I2 r1 r2 q2
/- xs.append(e),list.index on a C7 tuple .. are VL facts of 06m -/
end
def VO (X:Cx)(id:String)(r:V->List V->Hp->VK->Prop):Prop:=
 ∀ (pins:List (Addr × Obj)) (s:Shared) (σ:St) (H:Hp) (x:V) (xs:List V) (v:Value) (us:List Value) (Q:VK),Inv X pins σ H s->RelV x v->Vals xs us->r x xs H Q ->
  wpAny (model X.prog X.w) X.A (call (.builtin id) (v::us)) (EP X pins σ Q) X.xe s
theorem Vals.one:∀ {x:V}{us:List Value},Vals [x] us->∃ u,us=[u]/\RelV x u
 | _,_,.cons r .nil=>⟨_,rfl,r⟩
theorem Vals.two:∀ {x y:V}{us:List Value},Vals [x,y] us->∃ u v,us=[u,v]/\RelV x u/\RelV y v
 | _,_,_,.cons r (.cons q .nil)=>⟨_,_,rfl,r,q⟩
theorem Vals.rep {xs:List V}{us:List Value}(h:Vals xs us):∀ k:Nat,Vals (List.replicate k xs).flatten (List.replicate k us).flatten
 | 0=>.nil
 | k+1=>by
  rw[acP,acP,adG,adG]
  exact Vals.append h (Vals.rep h k)
theorem foldl_rep (aK:List Value):∀ (k:Nat) (acc:List Value),
  List.foldl (fun x1 x2=>x1++x2) acc.toArray (List.replicate k aK.toArray)=(acc++(List.replicate k aK).flatten).toArray
 | 0,acc=>by simp
 | k+1,acc=>by
  have e:acc.toArray++aK.toArray=(acc++aK).toArray:=by simp
  have e2:(acc++aK)++(List.replicate k aK).flatten=acc++(List.replicate (k+1) aK).flatten:=by
   rw[acP,adG,adH]
  rw[<- e2,<- foldl_rep aK k (acc++aK),<- e,acP,List.foldl_cons]
section
variable {X:Cx}{pins:List (Addr × Obj)}{σ:St}{H:Hp}{s:Shared}{l b:Addr}{xs ys zs:List V}
theorem Inv.Oh {aK its':List Value}{n:Nat}{f:Array Value->Array Value}{t':Nat}(I:Inv X pins σ H s)(hH:H l=some (.lst xs))
  (e:s.heap.get? l=some { cls:=.type "list",data:=.seq aK.toArray n }) (hf:f aK.toArray=its'.toArray) (hv:Vals ys its') (hz:ys.length<=sizeLine) :
  Inv X pins σ (upd H l (.lst ys)) { s with heap:=s.heap.update l (Obj.mapSeq f),toks:=t' }:=by
 have q:=PySem.IsL.update e f
 rw[hf] at q
 refine I.write (x:=l) (e:=l) (by rw[hH];exact trivial) (.inl rfl) (fun b' u hb hu=>(abc s.heap (Obj.mapSeq f) (Ne.symm hb)).trans hu) ⟨_,q⟩ ?_
 exact⟨hz,its',_,hv,q⟩
theorem Inv.Oi {aK:List Value}{t':Nat}(I:Inv X pins σ H s)(hv:Vals ys aK)(hz:ys.length<=sizeLine) :
  Inv X pins σ (upd H s.heap.objs.size (.lst ys)) { s with heap:=s.heap.push { cls:=.type "list",data:=.seq aK.toArray },toks:=t' }:=
 I.laid (fun _ _ q=>aab _ q) (aai _) ⟨hz,aK,0,hv,aap _ rfl⟩
theorem Inv.fresh (I:Inv X pins σ H s):H s.heap.objs.size=none:=I.bE.fresh (aai _)
theorem Inv.vQ (I:Inv X pins σ H s)(hH:H l=some (.lst xs)):xs.length<=sizeLine/\∃ (aK:List Value) (n:Nat),Vals xs aK/\xs.length=aK.length/\s.heap.get? l=some { cls:=.type "list",data:=.seq aK.toArray n }:=by
 obtain⟨z,aK,n,r,e⟩:=I.bE l _ hH
 exact⟨z,aK,n,r,r.length,e⟩
theorem vR {n:Nat}(h:n<=sizeLine):Builtin.List.listTooLong n=false:=by
 unfold Builtin.List.listTooLong
 exact aa5 (by omega)
end
section
variable {X:Cx}
inductive zW (x:V)(vs:List V)(H:Hp)(Q:VK):Prop
 | mk:∀ l xs y,(x=.ref l)->(vs=[y])->(H l=some (.lst xs))->(xs.length<sizeLine)->(Q .eI (upd H l (.lst (xs++[y]))))->zW  x vs H Q
theorem dQ:VO X "list.append" zW:=by
 intro pins s σ H x vs v us Q I rx rv h
 obtain⟨l,xs,y,rfl,rfl,hH,hz,q⟩:=h
 cases rx
 obtain⟨u,rfl,ru⟩:=rv.one
 obtain⟨z,aK,n,r,hl,e⟩:=I.vQ hH
 refine call_meets F.slot_list_append ⟨_,e,rfl⟩ F.entry_list_append (F.args_list_append_2 _ _) (PySem.list_append l aK.toArray n u (by rw[aau];omega)) ⟨e,?_⟩
 refine⟨.eI,_,I.Oh (its':=aK++[u]) hH e (by simp) (r.append (.cons ru .nil)) ?_,rfl,q⟩
 rw[aaT,List.length_singleton]
 omega
inductive zX (x:V)(vs:List V)(H:Hp)(Q:VK):Prop
 | mk:∀ l b xs zs,(x=.ref l)->(vs=[.ref b])->(H l=some (.lst xs))->(H b=some (.lst zs))->(xs.length+zs.length<=sizeLine)->(Q .eI (upd H l (.lst (xs++zs))))->zX  x vs H Q
theorem mD:VO X "list.extend" zX:=by
 intro pins s σ H x vs v us Q I rx rv h
 obtain⟨l,b,xs,zs,rfl,rfl,hH,hB,hz,q⟩:=h
 cases rx
 obtain⟨u,rfl,ru⟩:=rv.one
 cases ru
 obtain⟨z,aK,n,r,hl,e⟩:=I.vQ hH
 obtain⟨z2,vP,n2,r2,rM,e2⟩:=I.vQ hB
 have Jw:aK.toArray.size+vP.toArray.size<=sizeLine:=by rw[aau,aau];omega
 have C8:¬ (!aK.toArray.isEmpty&&Builtin.List.listTooLong (aK.toArray.size+vP.toArray.size))=true:=by
  rw[vR Jw,aeQ]
  exact aaj
 refine call_meets F.slot_list_extend ⟨_,e,rfl⟩ F.entry_list_extend (F.args_list_extend_2 _ _)
  (AutoSeq1.list_extend_list_list_0 l aK.toArray n b vP.toArray n2 C8 (by rw[aau];omega) (by omega)) ⟨e,e2,?_⟩
 refine⟨.eI,_,I.Oh (its':=aK++vP) hH e (by simp) (r.append r2) ?_,rfl,q⟩
 rw[aaT]
 omega
inductive K5 (x:V)(y:V)(H:Hp)(Q:VK):Prop
 | mk:∀ l b xs zs,(x=.ref l)->(y=.ref b)->(H l=some (.lst xs))->(H b=some (.lst zs))->(xs.length+zs.length<=sizeLine)->(∀ p,H p=none->Q (.ref p) (upd H p (.lst (xs++zs))))->K5  x y H Q
theorem pP:mz X (binaryOp .Add) K5:=by
 intro pins s σ H x y v u Q I rx ry h
 obtain⟨l,b,xs,zs,rfl,rfl,hH,hB,hz,q⟩:=h
 cases rx
 cases ry
 obtain⟨z,aK,n,r,hl,e⟩:=I.vQ hH
 obtain⟨z2,vP,n2,r2,rM,e2⟩:=I.vQ hB
 refine PySem.P.add_list e e2 ?_ (by rw[aau,aau];omega)
 have ea:aK.toArray++vP.toArray=(aK++vP).toArray:=by simp
 rw[ea]
 exact⟨.ref _,_,I.Oi (t':=s.toks) (r.append r2) (by rw[aaT];omega),rfl,q _ I.fresh⟩
inductive Oj (x:V)(y:V)(H:Hp)(Q:VK):Prop
 | mk:∀ l k xs,(x=.ref l)->(y=.int k)->(H l=some (.lst xs))->(-(2^63)<=k)->(k<2^63)->(xs.length*k.toNat<=sizeLine)->(∀ p,H p=none->Q (.ref p) (upd H p (.lst (List.replicate k.toNat xs).flatten)))->Oj  x y H Q
theorem len_rep {α:Type}(xs:List α)(k:Nat):(List.replicate k xs).flatten.length=k*xs.length:=by
 induction k with
 | zero=>simp
 | succ k ih=>rw[acP,adG,aaT,ih,Nat.succ_mul,aer]
theorem K6:mz X (binaryOp .Mult) Oj:=by
 intro pins s σ H x y v u Q I rx ry h
 obtain⟨l,k,xs,rfl,rfl,hH,h1,h2,hz,q⟩:=h
 cases rx
 obtain⟨t,rfl⟩:=ry
 obtain⟨z,aK,n,r,hl,e⟩:=I.vQ hH
 have hlen:aK.toArray.size*k.toNat<=sizeLine:=by rw[aau,<- hl];exact hz
 have SR:¬ aK.toArray.size*k.toNat > (2^63-1) / 8:=by
  have:(sizeLine:Nat)<=(2^63-1) / 8:=by decide
  omega
 have SS:¬ (!Builtin.List.listFitsIndex k)=true:=by
  rw[fitsIndex_both h1 h2]
  exact aaj
 have C8:¬ Builtin.List.listTooLong (aK.toArray.size*k.toNat)=true:=by
  rw[vR hlen]
  exact aaj
 have SU:List.foldl (fun x1 x2=>x1++x2) #[] (List.replicate (if aK.toArray.isEmpty=true then 0 else k.toNat) aK.toArray)=(List.replicate k.toNat aK).flatten.toArray:=by
  have f0:∀ m:Nat,List.foldl (fun x1 x2=>x1++x2) #[] (List.replicate m aK.toArray)=(List.replicate m aK).flatten.toArray:=fun m=>by
   have:=foldl_rep aK m []
   rw[List.nil_append] at this
   exact this
  rw[f0]
  cases aK with
  | nil=>simp
  | cons a r'=>rw[aar (by simp)]
 refine wpAny_binaryOp_repeat_ref (T:="list") (U:="int") (by decide) ⟨_,e,rfl⟩ (fun s'=>typeIs_int s' k t) noFill_list_mul F.fills_int_mul F.slot_int_rmul repeat_list F.slot_int_index.lookup
  (call_meets F.slot_int_rmul (typeIs_int s k t) F.entry_int_rmul (F.args_int_rmul_2 _ _) (int___rmul___int_list k t l aK.toArray n)
   ⟨e,rfl,⟨_,e,rfl⟩,call_meets F.slot_list_mul ⟨_,e,rfl⟩ F.entry_list_mul (F.args_list_mul_2 _ _) (AutoListH.list___mul___list_int_3 l aK.toArray n k t SS SR C8) ⟨e,?_⟩⟩)
 rw[SU]
 exact⟨.ref _,_,I.Oi (t':=s.toks) (r.rep k.toNat) (by rw[len_rep,adt];exact hz),rfl,q _ I.fresh⟩
end
section
variable {prog:Program}{w:World}{A:Around}{E:Value->Shared->Prop}{s:Shared}
end
section
variable {X:Cx}
end
end L2
namespace SV
open PySem PySem.W PySem.Calls PyProof.Rows
theorem oA {P:Params}{h:Heap}:∀ (ns:List Int) (vs:List Value),WellAll P h vs (ns.map WData.int)->IntsAre vs ns:=by
 intro ns
 induction ns with
 | nil=>
  intro vs w
  rw[ae1] at w
  cases w
  exact .nil
 | cons n ns ih=>
  intro vs w
  rw[adN] at w
  cases w with
  | cons a b=>
   cases a
   exact .cons _ _ (ih _ b)
theorem Bg {l:OpenLaw}{n:Nat}(hn:l.most=some n){P:Params}{h:Heap}{args:List WData}{vals:List Value}
  (Hd:l.row.toRowW.claim.pre args=true) (SW:WellAll P h vals args) :
  ∃ a vs ns,vals=[Value.ref a]/\args=[WData.list (ns.map WData.int)]/\h.get? a=some { cls:=.type "list",data:=.seq vs.toArray }/\IntsAre vs ns/\ns.length<=n:=by
 have Xq:WShape.hasAll [] args [.list .int]=true:=(pre_splitW Hd).1
 have hc:l.pre.holds [] { args:=args }=true:=(pre_splitW Hd).2
 obtain⟨d,r,rfl,h1,h2⟩:=hasAllW_cons Xq
 obtain rfl:=hasAllW_nil h2
 obtain⟨xs,rfl,h3⟩:=hasW_list h1
 obtain⟨ns,rfl⟩:=items_int h3
 have hlen:ns.length<=n:=by
  unfold OpenLaw.pre at hc
  have h4:(WTm.not (.lt (.lit (.int (n:Int))) (.len (.arg 0)))).holds [] { args:=[.list (ns.map .int)] }=true:=by
   have h4:=(holds_andW hc).1
   rw[hn] at h4
   exact h4
  have h5:=condW_of h4 (w_not (w_lt w_lit (w_len_list (w_arg rfl))))
  rw[aas] at h5
  refine Nat.le_of_not_lt fun q=>?_
  have q':(n:Int)<((ns.length:Nat):Int):=by omega
  first
   | (rw[abr q'] at h5;exact absurd h5 (by decide))
   | (simp at h5;omega)
 cases SW with
 | cons w1 w2=>
  cases w2
  cases w1 with
  | list ho SX=>exact⟨_,_,ns,rfl,rfl,ho,oA ns _ SX,hlen⟩
theorem Bh (l:OpenLaw)(args:List WData):l.row.toRowW.claim.post args (.bool true) args=true:=
 postW_of (r:=l.row.toRowW) (X:=(true==true))
  (show WShape.has [] (.bool true) .bool=true by first|rfl|decide|simp[WShape.has,WShape.arms,WShape.armsAll])
  (show (WTm.eq .res (.lit (.bool true))).value [] { args:=args,res:=some (.bool true),after:=args }=some (.bool (true==true)) from w_eq_bool (w_res rfl) w_lit) rfl
section
variable {prog:Program}{w:World}{A:Around}{E:Value->Shared->Prop}{s:Shared}{K:Frag}
end
end SV
namespace L2
open PySem PySem.Spec PyProof.Rows
theorem sv:∀ {vs:List Value}{ns:List Int},IntsAre vs ns->Vals (ns.map V.int) vs
 | _,_,.nil=>.nil
 | _,_,.cons n t h=>.cons ⟨t,rfl⟩ (sv h)
def Ol (H:Hp):Prop:=∀ b,H b=none\/∃ o xs,H b=some (.mw o (.lst xs))
theorem C9 {P:Program}{w:World}{K:W.Frag}{mg mb:Str->Option Value}{CX:xF}{k:Nat}{fa a:Addr}{fd:FuncData}{x:Str}{sp:Sp}{s₁:Shared}{vs:List Value}{ns:List Int}
  (KX:K.In s₁.heap) (GF:s₁.heap.Ns mainGlobals mg) (hb:s₁.heap.Ns builtinsNs mb) (Xr:∀ x:Str,x≠"__name__"->mb x=bootBuiltins x) (SY:s₁.heap.NoLimit) (hg:s₁.gens=#[])
  (ha:s₁.heap.get? a=some { cls:=.type "list",data:=.seq vs.toArray }) (hi:IntsAre vs ns) (hl:ns.length<=sizeLine) (hr:eL k callerA)
  (F:∀ base:Heap,K.In base->base.Ns mainGlobals mg->kB P w K mg base CX k fa fd [x] sp) (Om:∀ (s:Shared) (u:Value),BindsTo s fd ⟨[u],[]⟩ [(x,u)])
  (xT:∀ H:Hp,Ol H->aM K H a (ns.map V.int)->sp [.ref a] H (fun v _=>v=.bl true) fun _ _ _=>False)
  (S0:∀ H e s',CX [] H s₁ (fun _ _ _=>False) e s'->False) :
  codeAny (model P w) callerA (.call (.ref fa) ⟨[.ref a],[]⟩) (fun r s'=>r=.ok (.ret (.bool true))/\OldK s₁.heap s'.heap/\s'.os=s₁.os/\AllBare s'.gens) s₁:=by
 have rv:=sv hi
 have S2:=hi.length
 -- from an abstract heap in VP nothing but tD CH may be tracked
 have core:∀ H:Hp,Ol H->aM K H a (ns.map V.int)->kD P w H s₁.heap->(∀ b,H b≠none->b=a)->(H a≠none->K.lookup a=none) ->
   codeAny (model P w) callerA (.call (.ref fa) ⟨[.ref a],[]⟩) (fun r s'=>r=.ok (.ret (.bool true))/\OldK s₁.heap s'.heap/\s'.os=s₁.os/\AllBare s'.gens) s₁:=by
  intro H hO hS bE hA hK
  have zY:∀ {b:Addr}{o:Obj},s₁.heap.get? b=some o->H b=none->(tE s₁.heap H).get? b=some o:=fun e n=>CI e n
  have Oc:∀ {b:Addr}{o:Obj}{es:Array DictEntry}{ep:Nat},s₁.heap.get? b=some o->o.data=.dict es ep->H b=none:=fun {b o es ep} e d=>by
   cases q:H b with
   | none=>rfl
   | some u=>
    have e':b=a:=hA b (by rw[q];simp)
    subst e'
    rw[ha] at e;cases e
    have d':Data.seq vs.toArray _=Data.dict es ep:=d
    cases d'
  have Rz:∀ {b:Addr}{m:Str->Option Value},s₁.heap.Ns b m->(tE s₁.heap H).Ns b m:=fun {b m} ⟨o,es,ep,e,d,r⟩=>⟨o,es,ep,zY e (Oc e d),d,r⟩
  have VQ:K.In (tE s₁.heap H):=fun b o e=>zY (KX b o e) (by
   cases q:H b with
   | none=>rfl
   | some u=>
    have e':b=a:=hA b (by rw[q];simp)
    subst e'
    rw[hK (by rw[q];simp)] at e;cases e)
  have hM:Mod K mg (tE s₁.heap H):=⟨VQ,Rz GF,⟨mb,Rz hb,Xr⟩,let ⟨mc,h1,h2⟩:=SY;⟨mc,Rz h1,h2⟩⟩
  have e0:rL P w K mg (tE s₁.heap H) callerA [] s₁ H:=⟨rfl,hM,fun b o e=>GR e,Nat.le_of_eq (A6 _ _),trivial,fun b hb=>absurd (show b∈([]:List Addr) from hb) (by simp),bE,.of_eq hg⟩
  refine acI ((F _ VQ (Rz GF)).run callerA [] s₁ H ⟨[.ref a],[]⟩ [.ref a] [.ref a] _ _ hr e0 (Om s₁ (.ref a)) (.cons rfl .nil) (xT H hO hS)) fun r s' h=>?_
  cases r with
  | error e=>exact (S0 H e s' h).elim
  | ok fl=>
   cases fl with
   | next=>exact False.elim h
   | brk=>exact False.elim h
   | cont=>exact False.elim h
   | ret u=>
    obtain⟨v,H',os,bare,un,S4,r',q⟩:=h
    have q':v=.bl true:=q
    subst q'
    obtain rfl:u=Value.bool true:=r'
    refine⟨rfl,OldK.of_keep fun b o e=>?_,os,bare⟩
    cases q:H b with
    | none=>exact un.keep b o e q (by intro z;exact absurd (show b∈([]:List Addr) from z) (by simp)) (by simp)
    | some u=>
     rcases hO b with z|⟨ob,xs,z⟩
     ·rw[q] at z;cases z
     ·have z2:=un.gC b ob _ z
      obtain⟨e1,_⟩:=bE b _ z
      obtain⟨e2,_⟩:=S4 b _ z2
      rw[e] at e1;cases e1
      exact e2
 cases hk:K.lookup a with
 | some o=>
  -- tD CH is one of tD C7 own objects
  have e:=KX a o hk
  rw[ha] at e
  cases e
  refine core (fun _=>none) (fun _=>.inl rfl) (.inr ⟨_,vs.toArray,_,hk,rfl,rfl,rfl,by rw[aau,S2];exact hl,by simpa using rv⟩) (fun b u z=>by have z':(none:Option HO)=some u:=z;cases z') (fun b z=>absurd rfl z) fun z=>absurd rfl z
 | none=>
  refine core (fun b=>if b=a then some (.mw { cls:=.type "list",data:=.seq vs.toArray } (.lst (ns.map V.int))) else none) (fun b=>?_) (.inl (.inr ⟨{ cls:=.type "list",data:=.seq vs.toArray },aaz rfl⟩)) (fun b u z=>?_) (fun b z=>?_) fun _=>hk
  ·by_cases hb:b=a
   ·exact .inr ⟨_,_,aaz hb⟩
   ·exact .inl (aar hb)
  ·by_cases hb:b=a
   ·have z':=(aaz hb).symm.trans z
    cases z'
    subst hb
    exact⟨ha,by rw[aas];exact hl,vs,_,rv,ha⟩
   ·have z':=(aar hb).symm.trans z
    cases z'
  ·by_cases hb:b=a
   ·exact hb
   ·exact absurd (aar hb) z
def inClass (s:Stmt)(j:Nat):Stmt:=match s with
 | .ClassDef _ _ _ body _ _ _ _ _ _ _=>body.getD j (.Pass ⟨0,0,0,0⟩)
 | _=>.Pass ⟨0,0,0,0⟩
def gL (s:Stmt):Arguments:=match s with
 | .FunctionDef _ a _ _ _ _ _ _ _ _=>a
 | _=>{ posonlyargs:=[],args:=[],vararg:=none,kwonlyargs:=[],kw_defaults:=[],kwarg:=none,defaults:=[] }
def cX (s:Stmt):List Stmt:=match s with
 | .FunctionDef _ _ b _ _ _ _ _ _ _=>b
 | _=>[]
def aw (s:Stmt):Scope:=match s with
 | .FunctionDef _ _ _ _ _ _ sc _ _ _=>sc
 | _=>{ kind:=.function,names:=[],isGenerator:=false,isCoroutine:=false }
abbrev aU:xF:=fun _ _ _ _ _ _=>False
abbrev E0:XK:=fun _ _ _=>False
theorem aB {X:Cx}:Passes aU X E0:=fun _ _ _ _ _ _ _ h=>h.elim
structure CB (K:W.Frag)(x qual:Str)(st:Stmt)(f:Addr)(fd:FuncData):Prop where
 ex:∃ (oc:Value) (od:Option Addr) (kV doc pm:Value) (an:Option Addr) (bh ct:Value) (vM:Array (Option Value)),
  fd=W.fnOf x qual (gL st) (cX st) (aw st) .none kV doc pm an bh ct/\K.lookup f=some ⟨oc,od,.func fd,vM⟩/\W.codeIn K bh qual=true
 kp:W.keepIn K (.ref f)=true
section
variable {P:Program}{w:World}{K:W.Frag}{mg:Str->Option Value}{base:Heap}
theorem CB.ok {x qual:Str}{st:Stmt}{f:Addr}{fd:FuncData}{N ps:List Str}{k:Nat}{sp:Sp}(F:CB K x qual st f fd)(S:ay N ps (aw st))(len:∀ vs H Q E,sp vs H Q E->vs.length=ps.length)
  (fW:∀ (bh:Value) (A:Around) (outer:List Env) (s:Shared) (H:Hp) (vs:List V) (Q:VK) (E:XK),eL k (A.deeper (envOfC qual (aw st) s.heap.objs.size f bh))->sp vs H Q E ->
   ∃ t,oO (fV aU P w K mg base N qual (aw st) f bh A outer s H E).tG (cX st) t/\t { nx:=fun _ H'=>Q .eI H',rt:=Q } (start N vs) H):kB P w K mg base aU (k+1) f fd ps sp:=by
 obtain⟨oc,od,kV,doc,pm,an,bh,ct,vM,rfl,lk,xD⟩:=F.ex
 refine Jv lk xD S len fun A outer s H vs Q E hr xT=>?_
 obtain⟨t,h,q⟩:=fW bh A outer s H vs Q E hr xT
 exact⟨t,h.tG,q⟩
theorem CB.binds {x qual:Str}{st:Stmt}{f:Addr}{fd:FuncData}{ps:List Str}(F:CB K x qual st f fd)
  (h:∀ (kV doc pm:Value) (an:Option Addr) (bh ct:Value) (us:List Value),us.length=ps.length->bindArgs (W.fnOf x qual (gL st) (cX st) (aw st) .none kV doc pm an bh ct) ⟨us,[]⟩=pure (ps.zip us)):Binds K fd ps []:=by
 obtain⟨oc,od,kV,doc,pm,an,bh,ct,vM,rfl,lk,xD⟩:=F.ex
 exact .all (h kV doc pm an bh ct)
theorem Dd {x qual:Str}{st:Stmt}{f:Addr}{oc:Value}{od an:Option Addr}{vM:Array (Option Value)}{kV doc pm bh ct:Value}(l:K.lookup f=some ⟨oc,od,.func (W.fnOf x qual (gL st) (cX st) (aw st) .none kV doc pm an bh ct),vM⟩)
  (c:W.codeIn K bh qual=true) (k:W.keepIn K (.ref f)=true):CB K x qual st f (W.fnOf x qual (gL st) (cX st) (aw st) .none kV doc pm an bh ct):=⟨⟨oc,od,kV,doc,pm,an,bh,ct,vM,rfl,l,c⟩,k⟩
end
section
variable {X:Cx}
theorem pv (i:Nat){x:Str}{pos:Pos}(hN:X.N[i]?=some x:=by rfl)(hv:Kp X.env.scope x:=by first|exact Or.inl rfl|exact Or.inr (Or.inl rfl)|exact Or.inr (Or.inr rfl))(hd:(x==("__debug__":Str))=false:=by decide)
  (xD:(x==("__classdict__":Str))=false:=by decide):PE X (.Name x pos) (Kr i):=Ks hN hv hd xD
end
theorem gU {A B:Prop}(h:B):if false=true then A else B:=by
 rw[aar aaj]
 exact h
theorem lP {A B:Prop}(h:A):if true=true then A else B:=by
 rw[aaz rfl]
 exact h
theorem bK {c A B:Prop} [Decidable c] (h1:c->A)(h2:¬ c->B):if c then A else B:=by
 by_cases h:c
 ·rw[aaz h]
  exact h1 h
 ·rw[aar h]
  exact h2 h
theorem Jz {c A B:Prop} [Decidable c] (hc:c)(h:B):if (!decide c)=true then A else B:=by
 rw[abr hc]
 exact gU h
def av (H H':Hp):Prop:=∀ b o,H b=some o->H' b=some o
theorem av.refl (H:Hp):av H H:=fun _ _ h=>h
theorem av.trans {H H1 H2:Hp}(a:av H H1)(b:av H1 H2):av H H2:=fun c o h=>b c o (a c o h)
theorem av.free {H H':Hp}(e:av H H'){l:Addr}(h:H' l=Option.none):H l=Option.none:=by
 cases q:H l with
 | none=>rfl
 | some o=>
  rw[e l o q] at h
  cases h
theorem av.seq {K:W.Frag}{H H':Hp}{a:Addr}{xs:List V}(e:av H H')(h:aM K H a xs):aM K H' a xs:=by
 rcases h with (h|⟨o,h⟩)|h
 ·exact .inl (.inl (e _ _ h))
 ·exact .inl (.inr ⟨o,e _ _ h⟩)
 ·exact .inr h
section
variable {X:Cx}
theorem au:mz X (binaryOp .Mult) (rI IntMulOk fun i j=>.int (i*j)):=Nj fun _ _ _ _ _ _ _ hc q=>mul_int q hc
def Oo (_ j:Int):Prop:=j≠0/\j.natAbs.log2<9000
theorem cR:mz X (binaryOp .FloorDiv) (rI Oo fun i j=>.int (i.fdiv j)):=
 Nj fun _ _ _ _ _ _ _ hc q=>floordiv_int hc.1 q (.inl (PyProof.noPylong_of_log2 hc.2))
end
section
variable {P:Program}{w:World}{H H1 H2:Hp}{h h1 h2:Heap}{a:Addr}{o:HO}
theorem bJ.there (x:bJ P w H h a o):∃ ob,h.get? a=some ob:=by
 cases o with
 | lst xs=>obtain⟨_,_,_,_,e⟩:=x;exact⟨_,e⟩
 | tup xs=>obtain⟨_,_,_,ob,e,_⟩:=x;exact⟨_,e⟩
 | dK mq=>obtain⟨_,_,_,_,ob,_,_,e,_⟩:=x;exact⟨_,e⟩
 | dT mq=>obtain⟨_,_,_,_,ob,_,_,e,_⟩:=x;exact⟨_,e⟩
 | set S n=>obtain⟨ob,_,_,_,e,_⟩:=x;exact⟨_,e⟩
 | ins C dx fs=>obtain⟨_,_,_,e,_⟩:=x;exact⟨_,e⟩
 | own y=>exact x
 | xd fs=>obtain⟨_,⟨ob,_,_,e,_⟩,_⟩:=x;exact⟨_,e⟩
 | Ru lo hi=>obtain⟨_,_,_,e⟩:=x;exact⟨_,e⟩
 | mw ob u=>obtain⟨e,_⟩:=x;exact⟨_,e⟩
 | Jl ps=>exact⟨_,(show h.get? a=some _ from x)⟩
 | met f y=>exact⟨_,(show h.get? a=some _ from x)⟩
 | ext φ=>obtain⟨_,⟨ob,e⟩,_⟩:=x;exact⟨_,e⟩
theorem kD.iQ (x : kD P w H h1)(k : ∀ b ob, H b≠none -> h1.get? b = some ob -> h2.get? b = some ob) : kD P w H h2 := fun c u e =>
  (x c u e).rK (fun b v hb q => k b v (by rcases hb with rfl|hb <;> first | (rw[e];simp;done) | (rw[hb];simp;done)) q) (fun _ q => q) fun _ _ q => q
theorem Un.iQ {fs:List Addr}(u:Un fs [] H H1 h h1)(keep:∀ b ob,h1.get? b=some ob->b∉fs->(∃ o',h.get? b=some o')->h2.get? b=some ob)
  (slot:∀ b ob,h1.get? b=some ob->b∈fs->(∃ o',h.get? b=some o')->∃ sl,h2.get? b=some { ob with slots:=sl }):Un fs [] H H1 h h2 where
 keep:=fun b ob e n hb hx=>keep b ob (u.keep b ob e n hb hx) hb ⟨ob,e⟩
 slot:=fun b ob e n hb hx=>by
  obtain⟨sl,e1⟩:=u.slot b ob e n hb hx
  obtain⟨Nk,e2⟩:=slot b _ e1 hb ⟨ob,e⟩
  exact⟨Nk,e2⟩
 free:=u.free
 there:=fun b ob e hx=>by
  obtain⟨o1,e1⟩:=u.there b ob e hx
  by_cases hb:b∈fs
  ·obtain⟨sl,e2⟩:=slot b o1 e1 hb ⟨ob,e⟩
   exact⟨_,e2⟩
  ·exact⟨_,keep b o1 e1 hb ⟨ob,e⟩⟩
 iq:=u.iq
 gC:=u.gC
 ir:=u.ir
theorem Un.andThen {fs VR:List Addr}(a:Un fs [] H H1 h h1)(b:Un VR [] H1 H2 h1 h2)(hs:∀ c ob,h.get? c=some ob->c∈VR->c∈fs):Un fs [] H H2 h h2 where
 keep:=fun c ob q n hc hx=>b.keep c ob (a.keep c ob q n hc hx) (a.free c ob q n hx) (fun z=>hc (hs c ob q z)) hx
 slot:=fun c ob q n hc hx=>by
  obtain⟨sl,e1⟩:=a.slot c ob q n hc hx
  obtain⟨Nk,e2⟩:=b.any e1 (a.free c ob q n hx) hx
  exact⟨Nk,e2⟩
 free:=fun c ob q n hx=>by
  obtain⟨o1,e1⟩:=a.there c ob q hx
  exact b.free c o1 e1 (a.free c ob q n hx) hx
 there:=fun c ob q hx=>by
  obtain⟨o1,e1⟩:=a.there c ob q hx
  exact b.there c o1 e1 hx
 iq:=fun c xs q=>b.iq c xs (a.iq c xs q)
 gC:=fun c ob u q=>b.gC c ob u (a.gC c ob u q)
 ir:=fun c ps q=>by
  obtain⟨m1,e1⟩:=a.ir c ps q
  obtain⟨m2,e2⟩:=b.ir c _ e1
  exact⟨m1++m2,by rw[e2,Array.append_assoc]⟩
end
section
variable {P:Program}{w:World}{K:W.Frag}{mg:Str->Option Value}{base:Heap}{N:List Str}{qual:Str}{scope:Scope}{f:Addr}{cd:Value}{A:Around}{outer:List Env}{s0 s1:Shared}{H0 H1:Hp}{E:XK}
 {pins:List (Addr × Obj)}{σ:St}
theorem lQ {env:Env}{l:List Env}{b:Addr}(h:b∈gI l):b∈gI (env::l):=by
 unfold gI at h ⊢
 rw[adm]
 split
 ·exact h
 ·exact aaL _ h
end
end L2
namespace L2
open PySem PySem.Spec PyProof.Rows PySem.W PySem.Calls Builtin Builtin.ObjectAttr Builtin.Getset_descriptor
def ExcAt (C e:Addr)(h:Heap):Prop:=∃ o,h.get? e=some o/\o.cls=.ref C/\notCls o=true
theorem ExcAt.type {C e:Addr}{h:Heap}{M:Model}(x:ExcAt C e h):Looks M h (typeOf (.ref e)) (.ref C):=by
 obtain⟨o,a,b,_⟩:=x
 exact b▸(Looks.ld a).andThen .now
structure jD (K:Frag)(C:Addr):Prop where
 cls:(clsIn K C).isSome=true
 ga:findIn K (.ref C) "__getattribute__"=some (some (.builtin "BaseException.__getattribute__"))
 gt:findIn K (.ref C) "__getattr__"=some none
 cl:findIn K (.ref C) "__class__"=some (some (.builtin "object.__class__"))
 get:specialIn K (.builtin "object.__class__") "__get__"=some (some (.builtin "getset_descriptor.__get__"))
 tk:takesIn K (.builtin "object.__class__")=some true
 ob:mroIn K C (.type "object")=some true
 be:mroIn K C (.type "BaseException")=some true
section
variable {prog:Program}{w:World}{A:Around}{E:Value->Shared->Prop}{s:Shared}{K:Frag}{e C:Addr}
theorem De {M:Model}{h:Heap}(X:K.In h)(T:jD K C):Looks M h (Builtin.ObjectAttr.find (.ref e) (.ref C) "__class__") (.bind (.builtin "getset_descriptor.__get__") (.builtin "object.__class__")):=by
 have d:Looks M h (Builtin.ObjectAttr.dataDescriptor? (some (.builtin "object.__class__")) (some (.builtin "getset_descriptor.__get__"))) (some (.builtin "getset_descriptor.__get__",.builtin "object.__class__")):=(looks_takesIn X T.tk).andThen .now
 exact (ac4 X T.cl).andThen ((looks_specialIn X T.get).andThen (d.andThen (Looks.tag .now)))
theorem rN {R:Result->Shared->Prop}{tp:Value}(X:K.In s.heap)(I:ExcAt C e s.heap)(hm:mroIn K C (.type "object")=some true)
  (h:R (.ok (.ret (.ref C))) s):codeAny (model prog w) A (.call (.builtin "getset_descriptor.__get__") ⟨[.builtin "object.__class__",.ref e,tp],[]⟩) R s:=by
 obtain⟨hp,gs,dr,tk,os⟩:=s
 have l0:=I.type (M:=model prog w)
 have l1:=looks_mroIn (M:=model prog w) X hm
 refine aci KF.slot_gs.plain KF.entry_gs ?_
 refine KF.slot_gs.check _ _ _ _ _ _ _ _ KF.type_class (KF.args_gs _ _ _) ?_
 unfold Builtin.«getset_descriptor.__get__» descrGet
 rw[dga_obj]
 refine aaa (aad ?_)
 unfold descrGetter descrCheckInstance descrNameAndClass isInstance
 simp only[KF.owner_class]
 repeat lk
 refine⟨adS _ (by decide +kernel),acn KF.entry_class ?_⟩
 unfold Builtin.«object.__class__» shownTypeOf
 repeat lk
 exact h
theorem Bi {tk:Tok}{Q:PySem.Fin->Shared->Prop}(X:K.In s.heap)(T:jD K C)(I:ExcAt C e s.heap)(h:Q (.done (.ret (.ref C))) s) :
  wpAny (model prog w) A (Builtin.«object.__getattribute__» ⟨[.ref e,.str "__class__" tk],[]⟩) Q E s:=by
 obtain⟨hp,gs,dr,t,os⟩:=s
 have l0:=I.type (M:=model prog w)
 have l1:=De (e:=e) (M:=model prog w) X T
 unfold Builtin.«object.__getattribute__»
 repeat (first|with_reducible refine acA ?_|lk)
 refine rN X I T.ob ?_
 repeat lk
 exact h
theorem Bj {Q:Option Value->Shared->Prop}(X:K.In s.heap)(T:jD K C)(I:ExcAt C e s.heap)(h:Q (some (.ref C)) { s with toks:=s.toks+1 }):wpAny (model prog w) A (getAttr? (.ref e) "__class__") Q E s:=by
 obtain⟨hp,gs,dr,t,os⟩:=s
 have l0:=I.type (M:=model prog w)
 have l1:=ac4 (M:=model prog w) X T.ga
 have l2:=ac4 (M:=model prog w) X T.gt
 have l3:=looks_mroIn (M:=model prog w) X T.be
 unfold getAttr? getAttrBy? getAttrBy
 refine aaa (wpAny_mkText (aaa (abF (aaW (aaa (l0.at (aaa (l1.at ?_))))))))
 dsimp only
 have ne:(Value.builtin "BaseException.__getattribute__"==Value.builtin "object.__getattribute__")=false:=by decide +kernel
 rw[aar (by rw[ne,aeQ];exact aaj)]
 unfold getAttrByItsOwn hookBefore
 repeat (first|with_reducible refine acA ?_|with_reducible refine abF ?_|lk)
 have hk:builtinKind "BaseException.__getattribute__"=some .slot:=by decide +kernel
 have xY:splitId "BaseException.__getattribute__"=some ("BaseException","__getattribute__"):=by decide +kernel
 refine aci (by decide +kernel) F.entry_bexc_ga ?_
 have ha:=F.args_bexc_ga (.ref e) (.str (Str.ofString "__class__") t)
 show wpAny _ _ (checkBuiltinCall "BaseException.__getattribute__" ⟨[.ref e,.str (Str.ofString "__class__") t],[]⟩) _ _ _
 simp only[checkBuiltinCall,hk,xY]
 unfold isInstance
 refine aaa (aaa (l0.at (l3.at ?_)))
 simp only[ael,abL,adq]
 refine ad6 (show _=pure () from ha) ?_
 refine aav (Bi (E:=fun _ _=>False) (Q:=fun fin s'=>fin=.done (.ret (.ref C))/\s'=⟨hp,gs,dr,t+1,os⟩) X T I ⟨rfl,rfl⟩) (fun fin s' z=>?_) fun _ _ z=>z.elim
 obtain⟨rfl,rfl⟩:=z
 exact aad (aad h)
end
theorem vS {K:Frag}{e C:Addr}(T:jD K C):KitX K (.ref e) (.ref C) (ExcAt C e) where
 ty:=fun _ _ _ I=>I.type
 it:=fun M h X _=>by
  obtain⟨cd,hc⟩:=abS.mp T.cls
  unfold clsIn at hc
  split at hc
  ·rename_i c' d' Xs vH ho
   intro A' Q' E' s' k q
   unfold isType loadHead
   exact aaa (aeo (k _ _ (X _ _ ho)) (aad q))
  ·cases hc
 ne:=fun h tp dd aK n sl X Xt=>by
  obtain⟨cd,hc⟩:=abS.mp T.cls
  refine adI.mpr fun q=>?_
  have ee:C=tp:=Value.ref.inj (ab1.mp q)
  subst ee
  unfold clsIn at hc
  split at hc
  ·rename_i c' d' Xs vH ho
   have z:=(X _ _ ho).symm.trans Xt
   cases z
  ·cases hc
 ca:=fun X I k=>Bj X T I k
end L2
namespace L2
open PySem PySem.Spec PyProof.Rows
structure fB (k:Nat)(A:Around):Prop where
 dp:A.depth+3*k+5<recursionLimit
 un:A.units+16*k+200<cLine
theorem eL.q {k:Nat}{A:Around}(r:eL k A):fB k A:=⟨r.dp,r.un⟩
theorem fB.mark {k:Nat}{A:Around}(r:fB k A)(h:Option Value):fB k (A.mark h):=⟨r.dp,r.un⟩
theorem fB.mono {j k:Nat}{A:Around}(r:fB k A)(h:j<=k):fB j A:=⟨by have:=r.dp;omega,by have:=r.un;omega⟩
theorem fB.deeper {k:Nat}{A:Around}(r:fB (k+1) A)(env:Env):fB k (A.deeper env):=
 ⟨by have:=r.dp;show A.depth+1+3*k+5<_;omega,by have:=r.un;show A.units+3+16*k+200<_;omega⟩
section
variable {P:Program}{w:World}{K:W.Frag}{mg:Str->Option Value}{base:Heap}
end
section
variable {X:Cx}{k:Nat}{f:Addr}{fd:FuncData}{ps:List Str}{sp:Sp}{zL:List V}{ds:List Value}{x:Str}{p pos:Pos}{e:Expr}{es:List Expr}{t:TA}
end
theorem PS.tG {X:Cx}{st:Stmt}{t:TS}(h:PS X.tG st t):PS X st t:=fun pins s σ H D I hw=>
 aav (h pins s σ H D (I.ow _) hw) (fun _ _ q=>q.fT) fun _ _ z=>z.elim
abbrev iR:List Value:=[.type "ValueError",.type "Exception",.type "BaseException",.type "object"]
section
variable {P:Program}{w:World}{K:W.Frag}{mg:Str->Option Value}{base:Heap}{N:List Str}{qual:Str}{scope:Scope}{f:Addr}{cd:Value}{A:Around}{outer:List Env}{s0:Shared}{H0:Hp}{E:XK}
 {x:Str}{C:Addr}{np iP pos:Pos}{e:Expr}{es:List Expr}{t:TA}
end
abbrev Cx.marked (X:Cx)(e:Addr):Cx:={ X with A:=X.A.mark (some (.ref e)),calm:=false,bq:=false,xe:=fun _ _=>False }
theorem Cx.Ok.marked {X:Cx}(ok:X.Ok)(e:Addr):(X.marked e).Ok:=
 ⟨ok.mod,ok.kind,ok.glob,ok.blt,ok.above,ok.inj,ok.has,ok.Cz,(fun h=>by cases h),(fun h=>by cases h),ok.frames,ok.xK,ok.GS,ok.bs,ok.pF,ok.kO,ok.pG,ok.iu,ok.r9⟩
section
variable {X:Cx}{pins:List (Addr × Obj)}{σ:St}{H H':Hp}{s s':Shared}{e:Addr}
theorem Inv.marked (I:Inv X pins σ H s)(e:Addr):Inv (X.marked e) pins σ H s:=⟨I.ok.marked e,I.vC,I.os,I.bare,I.base,I.loc,I.cell,I.free,I.dY,I.pin,I.bE,I.len⟩
theorem Un.more {fs:List Addr}{H H1:Hp}{h h1:Heap}{a:Addr}{o:HO}(u:Un fs [] H H1 h h1)(n:h.get? a=none)(n1:H1 a=none):Un fs [] H (upd H1 a o) h h1 where
 keep:=u.keep
 slot:=u.slot
 free:=fun b ob q m hx=>by
  have ne:b≠a:=fun z=>by subst z;rw[n] at q;cases q
  rw[aH ne]
  exact u.free b ob q m hx
 there:=u.there
 iq:=fun b xs q=>by
  have z:=u.iq b xs q
  rw[aH (aN z n1)]
  exact z
 gC:=fun b ob v q=>by
  have z:=u.gC b ob v q
  rw[aH (aN z n1)]
  exact z
 ir:=fun b ps q=>by
  obtain⟨m,z⟩:=u.ir b ps q
  exact⟨m,by rw[aH (aN z n1)];exact z⟩
theorem kD.more {P:Program}{w:World}{H1:Hp}{h1:Heap}{a:Addr}{o:HO}(x:kD P w H1 h1)(n1:H1 a=none)(new:bJ P w (upd H1 a o) h1 a o):kD P w (upd H1 a o) h1:=fun b u e=>by
 by_cases hb:b=a
 ·subst hb;rw[ag] at e;cases e;exact new
 ·rw[aH hb] at e
  exact (x b u e).rK (fun _ _ _ q=>q) (fun c q=>by rw[aH (aN q n1)];exact q) fun c xs q=>by rw[aH (aN q n1)];exact q
variable {cls a0:Value}{ea C:Addr}{B h':Heap}{t':Nat}
theorem kh {M:Model}{A:Around}{E:Value->Shared->Prop}{i:Nat}{n:Str}{pos:Pos}{Q:Unit->Shared->Prop}(I:Inv X pins σ H s)(hN:X.N.Nodup)(hi:X.N[i]?=some n)(hk:X.env.scope.names.lookup n=some .local)
  (h:∀ s',Inv X pins (σ.set i none) H s'->Q () s'):wpAny M A (do bindName X.env n .none;unbindBehindTheSuite X.env n pos) Q E s:=by
 obtain⟨m,hn,hl⟩:=id I.loc
 have Kq:(X.env.scope.kind==.class || (X.env.scope.kind==.module&&X.env.locals != X.env.globals))=false:=by rw[I.ok.kind];rfl
 have CJ:=I.CJ
 obtain⟨oL,_,_,zD,_⟩:=id hn
 refine wpAny_nameGoes_keeps hk hn Kq fun h' v Ng hs=>?_
 have old:∀ b o,X.s₀.heap.get? b=some o->h'.get? b=s.heap.get? b:=fun b o e=>hs.2 b (aal (aak (aae e) I.ok.above))
 refine h _ ⟨I.ok,I.vC,I.os,I.bare,⟨fun b o e k hb hx=>(old b o e).trans (I.base.keep b o e k hb hx),fun b o e k hb hx=>?_,I.base.free,fun b o e hx=>?_,I.base.iq,I.base.gC,I.base.ir⟩,⟨_,Ng,fun j y v' e1 e2 e3=>?_⟩,fun y c e=>?_,I.free,I.dY,fun p hp=>?_,fun b ob e=>?_,by simpa using I.len⟩
 ·obtain⟨sl,e1⟩:=I.base.slot b o e k hb hx
  exact⟨sl,(old b o e).trans e1⟩
 ·obtain⟨o',e1⟩:=I.base.there b o e hx
  exact⟨o',(old b o e).trans e1⟩
 ·by_cases hj:j=i
  ·subst hj
   exfalso
   have eJ:j<σ.length:=by rw[I.len];exact (abm.mp hi).1
   rw[adZ eJ] at e2
   cases e2
  ·rw[ad8 (Ne.symm hj)] at e2
   obtain⟨u',r',q⟩:=hl j y v' e1 e2 e3
   refine⟨u',r',?_⟩
   rcases q with ⟨k,e⟩|⟨k,c,e,z⟩
   ·refine .inl ⟨k,?_⟩
    have ne:y≠n:=fun z=>hj (lM hN e1 (z▸hi))
    show (if y=n then v else m y)=some u'
    rw[aar ne]
    exact e
   ·exact .inr ⟨k,c,e,z.sameBut hs (CJ y c e)⟩
 ·obtain⟨w',z⟩:=I.cell y c e
  exact⟨w',z.sameBut hs (CJ y c e)⟩
 ·obtain⟨e,k,ne,nf,d⟩:=I.pin p hp
  exact⟨(hs.2 p.1 ne).trans e,k,ne,nf,d⟩
 ·refine (I.bE b ob e).rK (fun c w' hc q=>(hs.2 c ?_).trans q) (fun _ q=>q) fun _ _ q=>q
  rintro rfl
  rcases hc with rfl|hc
  ·rw[I.free] at e;cases e
  ·rw[I.free] at hc;cases hc
def Dh (D:Ends)(i:Nat):Ends:={ nx:=fun σ H=>D.nx (σ.set i none) H,rt:=D.rt,bk:=fun σ H=>D.bk (σ.set i none) H,ct:=fun σ H=>D.ct (σ.set i none) H }
end
section
variable {X:Cx}{k:Nat}{f C:Addr}{fd:FuncData}{ps:List Str}{sp:Sp}{g x n:Str}{p pos Di Bk np xZ:Pos}{e:Expr}{es:List Expr}{t:TA}{ts:TS}{b₀:Stmt}{lR:List Stmt}{i:Nat}
end
inductive RA (K:W.Frag)(H:Hp):V->Value->Prop where
 | of {x:V}{t:Value} (h:mB K H x t):RA K H x t
 | exc {e C:Addr} (T:jD K C) (h:H e=some (.ext (ExcAt C e))):RA K H (.ref e) (.ref C)
def valOf:V->Value
 | .ref a=>.ref a
 | .ty n=>.type n
 | _=>.none
inductive Oq (K:W.Frag)(xs:List V)(H:Hp)(Q:VK):Prop
 | mk:∀ x c t b,(xs=[x,c])->(((∃ a,c=.ref a)\/∃ n,c=.ty n))->(RA K H x t)->(W.kitOne K t (valOf c)=some b)->(Q (.bl b) H)->Oq K xs H Q
theorem jE {X:Cx}:ff X (.builtin "isinstance") (Oq X.K):=by
 intro pins s σ H xs us Q I rv h
 obtain⟨x,c,t,b,rfl,hc,ty,e,q⟩:=h
 obtain⟨u,uc,rfl,ru,rc⟩:=rv.two
 have S5:uc=valOf c:=by
  rcases hc with ⟨a,rfl⟩|⟨n,rfl⟩
  ·exact rc
  ·exact rc
 subst S5
 have fin:∀ tk,EP X pins σ Q (.bool b) { s with toks:=tk }:=fun tk=>⟨.bl b,H,I.tok tk,rfl,q⟩
 cases ty with
 | of ty=>exact Bc I ru ty e fin
 | @exc ea C T he=>
  have S7:u=Value.ref ea:=ru
  subst S7
  obtain⟨p,_,_⟩:=(show bJ X.prog X.w H s.heap ea (.ext (ExcAt C ea)) from I.bE ea _ he)
  exact acJ (vS T) I.kA p e (fun z=>nomatch z) fin
theorem vT {ns:List Int}(h:W.WData.layableAll [W.WData.list (ns.map W.WData.int)]=true):∀ n∈ns,Builtin.Int.intBits n<=1048576:=fun n hn=>by
 have h1:=(W.layW_cons h).1
 have h2:=W.layableW_item h1 (.int n) (abb.mpr ⟨n,hn,rfl⟩)
 have h3:PyData.layable0 (.int n)=true:=h2
 exact PyData.bits_of_layable h3
theorem K7 {l:W.OpenLaw}{n k:Nat}{q:Program}{loose:List Str}{XP:(Str->Option Value)->Heap->Prop}{YP:World->Heap->Prop}{d:DefRec}{K:Params->W.Frag}{CX:World->xF}{sp:World->Sp}{x:Str}
  (hn:l.most=some n) (He:n<=sizeLine) (JA:d.params.defaults=[]) (hr:eL k callerA)
  (hY:∀ (w:World) (h:Heap),YP w h->(K w.params).In h)
  (F:∀ (w:World) (mg:Str->Option Value) (fa:Addr) (h:Heap),(K w.params).In h->h.Ns mainGlobals mg->mg d.name=some (.ref fa) ->
   ∃ fd:FuncData,(∀ (s:Shared) (u:Value),BindsTo s fd ⟨[u],[]⟩ [(x,u)]) /\
    ∀ base:Heap,(K w.params).In base->base.Ns mainGlobals mg->kB l.prog w (K w.params) mg base (CX w) k fa fd [x] (sp w))
  (xT:∀ (w:World) (H:Hp) (a:Addr) (ns:List Int),ns.length<=n->(∀ m∈ns,Builtin.Int.intBits m<=1048576)->aM (K w.params) H a (ns.map V.int)->sp w [.ref a] H (fun v _=>v=.bl true) fun _ _ _=>False)
  (S0:∀ (w:World) (H:Hp) (s:Shared) (e:Value) (s':Shared),CX w [] H s (fun _ _ _=>False) e s'->False) :
  W.WalkO q loose XP YP l.row.toRowW d [] (fun f vs=>PySem.call f vs):=by
 intro w s₀ s₁ mg mb G Y fa o pm cd doc dV kV ho hd xD hD S8 hg args vals as Hd S9 hrd SW hlo
 obtain⟨a,vs,ns,rfl,rfl,Ta,hints,hlen⟩:=SV.Bg hn Hd SW
 have KX:=hY w _ Y
 obtain⟨fd,hb,hF⟩:=F w mg fa _ KX G.T.g S8
 have call:=C9 KX G.T.g G.T.b G.T.builtins G.T.nolimit hg Ta hints (aag hlen He) hr hF hb (fun H hO hS=>xT w H a ns hlen (vT S9) hS) fun H e s'=>S0 w H s₁ e s'
 refine W.enter_call (acI call fun r s' hq=>?_)
 obtain⟨rfl,h2,h3,h4⟩:=hq
 exact⟨.inl ⟨.bool true,.bool true,[],rfl,fun _=>rfl,.bool true,SV.Bh l _,fun _=>⟨List.Pairwise.nil,fun _ hm=>(nomatch hm)⟩⟩,h2,h3,h4⟩
inductive vU (K:W.Frag)(vs:List V)(H:Hp)(Q:VK)(bC:XK):Prop
 | mk:∀ (a:Addr) (ns:List Int),(vs=[.ref a])->(aM K H a (ns.map V.int))->(ns.length<=63)->((∀ m∈ns,Builtin.Int.intBits m<=1048576))->(∀ H',Q (.bl true) H')->vU K vs H Q bC
inductive Ot (t u:TS)(D:Ends)(σ:St)(H:Hp):Prop
 | mk:∀ (R:St->Hp->Prop),(t { D with nx:=R } σ H)->(∀ σ' H',R σ' H'->u D σ' H')->Ot t u D σ H
theorem dO {X:Cx}{st:Stmt}{rest:List Stmt}{t u:TS}(h1:PS X st t)(h2:oO X rest u):oO X (st::rest) (Ot t u):=by
 intro pins s σ H D I h
 obtain⟨R,h,k⟩:=h
 refine aeb (dC (h1 pins s σ H { D with nx:=R } I h) fun f s1 q=>?_)
 cases f with
 | next=>
  obtain⟨σ',H',I',q⟩:=q
  exact h2 pins s1 σ' H' D I' (k _ _ q)
 | ret v=>exact q
 | brk=>exact q
 | cont=>exact q
theorem lT {i:Int}{k:Nat}(h:i.natAbs<2^k)(hk:k<=1048576):Builtin.Int.intBits i<=1048576:=aag (intBits_le h) hk
theorem zZ {a b:Int}(ha:Builtin.Int.intBits a<=1048576)(hb:Builtin.Int.intBits b<=1048576):IntMulOk a b:=IntMulOk.of_bits ha hb
theorem log2_lt_of {i:Int}{k:Nat}(h:i.natAbs<2^k)(hk:0<k):i.natAbs.log2<k:=by
 by_cases h0:i.natAbs=0
 ·rw[h0];exact hk
 ·exact (Nat.log2_lt h0).mpr h
theorem cell_in {ns:List Int}{k:Int}(h0:0<=k)(h:k<((ns.map V.int).length:Nat)):xG (ns.map V.int) k=some (.int (ns.getD k.toNat 0)):=by
 rw[aas] at h
 have hk:k.toNat<ns.length:=by omega
 have ek:k=((k.toNat:Nat):Int):=by omega
 have q:xG (ns.map V.int) ((k.toNat:Nat):Int)=some (.int (ns.getD k.toNat 0)):=zT (by
  rw[aaB,aat hk,aaA,aat hk]
  rfl)
 rw[<- ek] at q
 exact q
inductive oR (vs:List V)(H:Hp)(Q:VK)(bC:XK):Prop
 | mk:∀ n,(vs=[.int n])->(Q (.bl true) H)->oR  vs H Q bC
theorem ai {H:Hp}{p:Addr}(h:H p=none)(o:HO):av H (upd H p o):=fun b u q=>by rw[aH (aN q h)];exact q
inductive aV (P:Program)(w:World)(K:W.Frag)(mg:Str->Option Value)(base:Heap)(CX:xF)(k:Nat)(x:Str)(ps:List Str)(sp:Sp):Prop
 | mk:∀ (f:Addr) (fd:FuncData),(kB P w K mg base CX k f fd ps sp)->(Binds K fd ps [])->(W.keepIn K (.ref f)=true)->(mg x=some (.ref f))->aV P w K mg base CX k x ps sp
theorem cZ {p:Prop} [Decidable p] (h:decide p=true):p:=acB h
theorem dX {p:Prop} [Decidable p] (h:¬ decide p=true):¬ p:=aei (adI.mpr h)
theorem aP {a b:Int}(h:V.int a=V.int b):a=b:=V.int.inj h
theorem Dj (o:Obj)(f:Array Value->Array Value):(o.mapFields f).dict=o.dict:=by
 unfold Obj.mapFields
 split<;>rfl
def Xu (h base:Heap)(e:Addr)(cls:Value)(dx:Option Addr)(fl:Value):Prop:=
 ∃ oe vs T oT ts,h.get? e=some oe/\(oe.cls=cls/\oe.dict=dx)/\oe.data=.fields vs/\vs[1]?=some (.ref T)/\vs[2]?=some .none/\base.get? T=none/\T≠e/\h.get? T=some oT/\oT.data=.fields ts/\ts[3]?=some fl
structure gM (base:Heap)(l:List Env)(e:Addr)(cls:Value)(dx:Option Addr)(fl:Value)(h:Heap):Prop where
 (stays:base.StaysIn h) (new:base.get? e=none) (RB:h.FunFrames base l) (tr:Xu h base e cls dx fl)
theorem gM.there {base h:Heap}{l:List Env}{e:Addr}{cls fl:Value}{dx:Option Addr}(x:gM base l e cls dx fl h):∃ ob,h.get? e=some ob/\ob.cls=cls/\ob.dict=dx/\∃ vs,ob.data=.fields vs:=by
 obtain⟨oe,vs,_,_,_,he,hc,hd,_⟩:=x.tr
 exact⟨oe,he,hc.1,hc.2,vs,hd⟩
section
variable {M:Model}{A:Around}{E:Value->Shared->Prop}{s:Shared}
theorem Dk {base:Heap}{env:Env}{outer:List Env}{L e:Addr}{oe:Obj}{vs:Array Value}{head:Value}{more:Bool}{Q:Unit->Shared->Prop}
  (fr:A.frames=some (env::outer)) (fl:s.heap.FunFrames base (env::outer)) (ef:env.frame=some L) (z5:s.heap.get? e=some oe) (sb:base.StaysIn s.heap) (nb:base.get? e=none) (od:oe.data=.fields vs) (z1:1<vs.size) (v2:vs[2]?=some .none)
  (k:∀ h',gM base (env::outer) e oe.cls oe.dict (rawInt L) h'->s.heap.UpToSlots h'->Q () { s with heap:=h' }) :
  wpAny M A (do let a <- frameOf env;let pl <- entryPlaceOf L more;let b <- EntryCells.newEntry head a .none (rawInt L) .none pl;setField (.ref e) 1 b) Q E s:=by
 have nf:e∉(env::outer).filterMap (·.frame):=fun m=>by
  obtain⟨_,o,h1,h2⟩:=fl.mem m
  rw[z5] at h1
  cases h1
  exact h2 vs od
 refine aaa (wpAny_frameOf_fun fr fl ef fun h1 q1=>aaa (wpAny_entryPlaceOf fun pl sp=>?_))
 unfold EntryCells.newEntry newFields
 refine aaa (aa1 ?_ (sp.sizeOk5 _ _ _ _ _))
 generalize Ou:([head,Value.ref L,.none,rawInt L,.none]++(if pl.isEmpty then List.replicate 6 Value.none else pl)).toArray=tb
 have e1:h1.get? e=some oe:=(q1.2.1 e nf).trans z5
 have s1:base.StaysIn h1:=fun b o x=>(q1.2.1 b fun m=>by rw[(fl.mem m).1] at x;cases x).trans (sb b o x)
 have e2:=aab (h:=h1) { cls:=.type "traceback",dict:=none,data:=.fields tb } e1
 have ne:h1.objs.size≠e:=abX (aae e1)
 have d3:=aa0 od (·.setIfInBounds 1 (Value.ref h1.objs.size))
 have e3:=aa4 (Obj.mapFields (·.setIfInBounds 1 (Value.ref h1.objs.size))) e2 (abG d3)
 have t3:=(abc (h1.push { cls:=.type "traceback",dict:=none,data:=.fields tb }) (Obj.mapFields (·.setIfInBounds 1 (Value.ref h1.objs.size))) (Ne.symm ne)).trans (aap h1 rfl)
 have kp:∀ b o,b≠e->h1.get? b=some o->((h1.push { cls:=.type "traceback",dict:=none,data:=.fields tb }).update e (Obj.mapFields (·.setIfInBounds 1 (Value.ref h1.objs.size)))).get? b=some o:=fun b o ne' x=>by
  rw[abc _ _ (Ne.symm ne')]
  exact aab _ x
 have nr:∀ b o,s.heap.get? b=some o->(∀ vs,o.data≠.fields vs)->b≠e:=fun b o x y z=>by
  rw[z,z5] at x
  cases x
  exact y vs od
 have f3:tb[3]?=some (rawInt L):=by
  rw[<- Ou]
  first|(simp;done)|(rcases sp with rfl|⟨_,_,_,_,_,_,_,rfl⟩<;>simp)
 refine abB e2 od z1 (k _ ⟨fun b o x=>kp b o (fun z=>by rw[z,nb] at x;cases x) (s1 b o x),nb,fl.of_keeps fun b o x y=>?_,⟨_,_,h1.objs.size,_,_,e3,⟨acO _ _,Dj _ _⟩,d3,by simp[z1],by simpa [Array.getElem?_setIfInBounds] using v2,s1.fresh,ne,t3,rfl,f3⟩⟩ fun b o x y=>?_)
 ·obtain⟨sl,z⟩:=q1.2.2 b o x
  exact⟨_,kp b _ (nr b o x y) z,rfl⟩
 ·obtain⟨sl,z⟩:=q1.2.2 b o x
  exact⟨sl,kp b _ (nr b o x y) z⟩
theorem x4 {base:Heap}{env:Env}{outer:List Env}{L e:Addr}{oe:Obj}{vs:Array Value}{Q:Unit->Shared->Prop}
  (fr:A.frames=some (env::outer)) (fl:s.heap.FunFrames base (env::outer)) (ef:env.frame=some L) (z5:s.heap.get? e=some oe) (sb:base.StaysIn s.heap) (nb:base.get? e=none) (od:oe.data=.fields vs) (v1:vs[1]?=some .none) (v2:vs[2]?=some .none)
  (k:∀ h',gM base (env::outer) e oe.cls oe.dict (rawInt L) h'->s.heap.UpToSlots h'->Q () { s with heap:=h' }):wpAny M A (noteFrame (.ref e) env) Q E s:=by
 unfold noteFrame
 simp only[ef]
 refine aaa (aaG z5 od v1 ?_)
 rw[aar (by decide)]
 exact Dk fr fl ef z5 sb nb od (ab6.mp v1).1 v2 k
theorem sx {base:Heap}{env:Env}{outer:List Env}{L e:Addr}{cls:Value}{dx:Option Addr}{Q:Unit->Shared->Prop}
  (fr:A.frames=some (env::outer)) (ef:env.frame=some L) (x:gM base (env::outer) e cls dx .none s.heap)
  (k:∀ h',gM base (env::outer) e cls dx (rawInt L) h'->s.heap.UpToSlots h'->Q () { s with heap:=h' }):wpAny M A (noteFrame (.ref e) env) Q E s:=by
 obtain⟨sb,nb,fl,oe,vs,T,oT,ts,z5,⟨rfl,rfl⟩,od,v1,v2,nT,ne,hT,dT,t3⟩:=x
 unfold noteFrame
 simp only[ef]
 refine aaa (aaG z5 od v1 ?_)
 rw[aaz (show (Value.ref T != Value.none)=true by simp)]
 refine aaa (aaG hT dT t3 ?_)
 rw[aar (show ¬ ((Value.none==rawInt L)=true) by simp[rawInt])]
 refine aaa (abB hT dT (ab6.mp t3).1 ?_)
 have ot:∀ b,b≠T->(s.heap.update T (Obj.mapFields (·.setIfInBounds 3 Value.none))).get? b=s.heap.get? b:=fun b z=>abc _ _ (Ne.symm z)
 have nr:∀ b o,s.heap.get? b=some o->(∀ vs,o.data≠.fields vs)->b≠T:=fun b o x y z=>by
  rw[z,hT] at x
  cases x
  exact y ts dT
 exact Dk fr (fl.of_keeps fun b o x y=>⟨o,(ot b (nr b o x y)).trans x,rfl⟩) ef ((ot e (Ne.symm ne)).trans z5) (fun b o x=>(ot b fun z=>by rw[z,nT] at x;cases x).trans (sb b o x)) nb od (ab6.mp v1).1 v2
  fun h' a b=>k h' a fun c o x y=>b c o ((ot c (nr c o x y)).trans x) y
theorem z6 {base:Heap}{l:List Env}{e:Addr}{cls fl:Value}{dx:Option Addr}{Q:Unit->Shared->Prop}(x:gM base l e cls dx fl s.heap)
  (k:∀ h',gM base l e cls dx .none h'->s.heap.UpToSlots h'->Q () { s with heap:=h' }):wpAny M A (setFlight (.ref e) none) Q E s:=by
 obtain⟨sb,nb,RB,oe,vs,T,oT,ts,z5,hc,od,v1,v2,nT,ne,hT,dT,t3⟩:=x
 have z3:3<ts.size:=(ab6.mp t3).1
 have ot:∀ b,b≠T->(s.heap.update T (Obj.mapFields (·.setIfInBounds 3 ((none:Option Addr).elim Value.none fun f=>rawInt f)))).get? b=s.heap.get? b:=fun b z=>abc _ _ (Ne.symm z)
 have nr:∀ b o,s.heap.get? b=some o->(∀ vs,o.data≠.fields vs)->b≠T:=fun b o x y z=>by
  rw[z,hT] at x
  cases x
  exact y ts dT
 unfold setFlight
 refine aaa (aaG z5 od v1 ?_)
 rw[aaz (show (Value.ref T != Value.none)=true by simp)]
 exact abB hT dT z3 (k _ ⟨fun b o x=>(ot b fun z=>by rw[z,nT] at x;cases x).trans (sb b o x),nb,RB.of_keeps fun b o x y=>⟨o,(ot b (nr b o x y)).trans x,rfl⟩,
  ⟨oe,vs,T,_,_,(ot e (Ne.symm ne)).trans z5,hc,od,v1,v2,nT,ne,aa4 _ hT (abG (aa0 dT _)),aa0 dT _,by simp[z3]⟩⟩ fun b o x y=>⟨o.slots,(ot b (nr b o x y)).trans x⟩)
theorem vV {base:Heap}{env:Env}{outer:List Env}{L e:Addr}{oe:Obj}{vs:Array Value}{Q:Unit->Shared->Prop}
  (fr:A.frames=some (env::outer)) (fl:s.heap.FunFrames base (env::outer)) (ef:env.frame=some L) (z5:s.heap.get? e=some oe) (sb:base.StaysIn s.heap) (nb:base.get? e=none) (od:oe.data=.fields vs) (v1:vs[1]?=some .none) (v2:vs[2]?=some .none)
  (k:∀ h',gM base outer e oe.cls oe.dict .none h'->s.heap.UpToSlots h'->Q () { s with heap:=h' }):wpAny M A (leaving env (.ref e)) Q E s:=by
 unfold leaving
 refine aaa (x4 fr fl ef z5 sb nb od v1 v2 fun h1 x1 u1=>?_)
 refine z6 (s:={ s with heap:=h1 }) x1 fun h2 x2 u2=>?_
 obtain⟨a,b,⟨_,_,c⟩,d⟩:=x2
 exact k h2 ⟨a,b,c,d⟩ (u1.trans u2)
theorem x5 {base:Heap}{env:Env}{outer:List Env}{L e:Addr}{cls:Value}{dx:Option Addr}{Q:Unit->Shared->Prop}
  (fr:A.frames=some (env::outer)) (ef:env.frame=some L) (x:gM base (env::outer) e cls dx .none s.heap)
  (k:∀ h',gM base outer e cls dx .none h'->s.heap.UpToSlots h'->Q () { s with heap:=h' }):wpAny M A (leaving env (.ref e)) Q E s:=by
 unfold leaving
 refine aaa (sx fr ef x fun h1 x1 u1=>?_)
 refine z6 (s:={ s with heap:=h1 }) x1 fun h2 x2 u2=>?_
 obtain⟨a,b,⟨_,_,c⟩,d⟩:=x2
 exact k h2 ⟨a,b,c,d⟩ (u1.trans u2)
end
end L2
namespace L2
open PySem PySem.Spec PyProof.Rows PySem.W PySem.Calls Builtin Builtin.ObjectAttr
def iS (C e dx:Addr)(h:Heap):Prop:=∃ o,h.get? e=some o/\o.cls=.ref C/\o.dict=some dx/\notCls o=true
theorem iS.exc {C e dx:Addr}{h:Heap}(x:iS C e dx h):ExcAt C e h:=let ⟨o,a,b,_,c⟩:=x;⟨o,a,b,c⟩
structure mE (K:Frag)(C:Addr)(f:Str):Prop where
 cls:jD K C
 no:findIn K (.ref C) f=some none
 hd:(clsIn K C).map (·.hasDict)=some true
section
variable {prog:Program}{w:World}{A:Around}{E:Value->Shared->Prop}{s:Shared}{K:Frag}{e C dx:Addr}{f:Str}
theorem Dl {M:Model}{h:Heap}{mA:Str->Option Value}{v:Value}(X:K.In h)(T:mE K C f)(I:iS C e dx h)(N:h.Ns dx mA)(hv:mA f=some v):Looks M h (Builtin.ObjectAttr.find (.ref e) (.ref C) f) (.value v):=by
 obtain⟨cd,hc⟩:∃ cd,clsIn K C=some cd:=by
  cases q:clsIn K C with
  | none=>have:=T.hd;rw[q] at this;cases this
  | some cd=>exact⟨cd,rfl⟩
 have hd:cd.hasDict=true:=by
  have:=T.hd
  rw[hc] at this
  exact aac this
 obtain⟨o,he,ho,z7,hn⟩:=I
 intro A Q E s k q
 have lc:=looks_clsIn (M:=M) X hc
 unfold Builtin.ObjectAttr.find
 refine aaa (ac4 (M:=M) X T.no A _ E s k ?_)
 unfold getOf dataDescriptor? ownThenClass inOwnDict ObjectAttr.ownDict
 refine aaa (aad (aaa (aad ?_)))
 refine aaa (aaa (aaa ?_))
 unfold loadHead
 refine aeo (k _ _ he) ?_
 have key:wpAny M A (instanceDict e false) (fun d s'=>d=some dx/\s'=s) E s:=by
  unfold instanceDict
  refine aaa (aeo (k _ _ he) ?_)
  rw[ho]
  refine aaa (lc A _ E s k ?_)
  simp only[hd,z7,ael,abL,adq]
  exact aad ⟨rfl,rfl⟩
 have Tb:wpAny M A (instanceDict e false) (fun d s'=>wpAny M A (inDict f d) (fun r KR=>wpAny M A (match r with|some v=>do rule "getattr.instance-dict";pure (Found.value v)|none=>do copiedAttributeGuard f (.ref e);byTheClass none none) Q E KR) E s') E s:=by
  refine aav key (fun d s' z=>?_) fun _ _ z=>z
  obtain⟨rfl,rfl⟩:=z
  unfold inDict
  refine wpAny_nsGet (let ⟨o',es,ep,a,b⟩:=N;⟨o',es,ep,k _ _ a,b⟩) ?_
  rw[hv]
  exact aaa (acb (aad q))
 unfold notCls at hn
 split at hn
 ·cases hn
 ·rename_i Xv
  split
  ·rename_i c nL
   exact absurd nL (Xv c)
  ·exact Tb
theorem Bl {tk:Tok}{Q:PySem.Fin->Shared->Prop}{mA:Str->Option Value}{v:Value}(X:K.In s.heap)(T:mE K C f)(I:iS C e dx s.heap)(N:s.heap.Ns dx mA)(hv:mA f=some v)(h:Q (.done (.ret v)) s) :
  wpAny (model prog w) A (Builtin.«object.__getattribute__» ⟨[.ref e,.str f tk],[]⟩) Q E s:=by
 obtain⟨hp,gs,dr,t,os⟩:=s
 have l0:=I.exc.type (M:=model prog w)
 have l1:=Dl (M:=model prog w) X T I N hv
 unfold Builtin.«object.__getattribute__»
 repeat (first|with_reducible refine acA ?_|lk)
 exact h
theorem Bm {Q:Value->Shared->Prop}{mA:Str->Option Value}{v:Value}(X:K.In s.heap)(T:mE K C f)(I:iS C e dx s.heap)(N:s.heap.Ns dx mA)(hv:mA f=some v)(hh:handedOut v=pure v)
  (h:Q v { s with toks:=s.toks+1 }):wpAny (model prog w) A (getAttr (.ref e) f true) Q E s:=by
 obtain⟨hp,gs,dr,t,os⟩:=s
 have l0:=I.exc.type (M:=model prog w)
 have l1:=ac4 (M:=model prog w) X T.cls.ga
 have l2:=ac4 (M:=model prog w) X T.cls.gt
 have l3:=looks_mroIn (M:=model prog w) X T.cls.be
 unfold getAttr getAttrBy
 refine aaa (wpAny_mkText (aaW (aaa (l0.at (aaa (l1.at ?_))))))
 dsimp only
 have ne:(Value.builtin "BaseException.__getattribute__"==Value.builtin "object.__getattribute__")=false:=by decide +kernel
 rw[aar (by rw[ne,aeQ];exact aaj)]
 unfold getAttrByItsOwn hookBefore
 repeat (first|with_reducible refine acA ?_|with_reducible refine abF ?_|lk)
 have hk:builtinKind "BaseException.__getattribute__"=some .slot:=by decide +kernel
 have xY:splitId "BaseException.__getattribute__"=some ("BaseException","__getattribute__"):=by decide +kernel
 refine aci (by decide +kernel) F.entry_bexc_ga ?_
 have ha:=F.args_bexc_ga (.ref e) (.str f t)
 show wpAny _ _ (checkBuiltinCall "BaseException.__getattribute__" ⟨[.ref e,.str f t],[]⟩) _ _ _
 simp only[checkBuiltinCall,hk,xY]
 unfold isInstance
 refine aaa (aaa (l0.at (l3.at ?_)))
 simp only[ael,abL,adq]
 refine ad6 (show _=pure () from ha) ?_
 refine aav (Bl (E:=fun _ _=>False) (Q:=fun fin s'=>fin=.done (.ret v)/\s'=⟨hp,gs,dr,t+1,os⟩) X T I N hv ⟨rfl,rfl⟩) (fun fin s' z=>?_) fun _ _ z=>z.elim
 obtain⟨rfl,rfl⟩:=z
 exact ad6 hh h
end
def pQ:List Value->Bool
 | .ref _::r=>pQ r
 | l=>l==iR
theorem sy (self:Value):∀ {l:List Value},pQ l=true->refuseLoop self "__setattr__" l=pure ()
 | .ref c::r,e=>by rw[refuseLoop_ref];exact sy self e
 | [],e=>by cases e
 | .type n::r,e=>by
  have:(Value.type n::r)=iR:=ab1.mp e
  rw[this]
  exact PySem.F.store_ValueError.passes self
 | .none::r,e=>by have:(Value.none::r)=iR:=ab1.mp e;cases this
 | .bool _::r,e=>by have:(_::r)=iR:=ab1.mp e;cases this
 | .int _ _::r,e=>by have:(_::r)=iR:=ab1.mp e;cases this
 | .str _ _::r,e=>by have:(_::r)=iR:=ab1.mp e;cases this
 | .bytes _ _::r,e=>by have:(_::r)=iR:=ab1.mp e;cases this
 | .float _ _::r,e=>by have:(_::r)=iR:=ab1.mp e;cases this
 | .ellipsis::r,e=>by have:(_::r)=iR:=ab1.mp e;cases this
 | .notImplemented::r,e=>by have:(_::r)=iR:=ab1.mp e;cases this
 | .builtin _::r,e=>by have:(_::r)=iR:=ab1.mp e;cases this
structure tO (K:Frag)(C:Addr)(f:Str):Prop where
 fld:mE K C f
 sa:findIn K (.ref C) "__setattr__"=some (some (.builtin "object.__setattr__"))
 over:(clsIn K C).any (fun cd=>pQ cd.mro)=true
section
variable {prog:Program}{w:World}{A:Around}{E:Value->Shared->Prop}{s:Shared}{K:Frag}{e C:Addr}{f:Str}{R:Result->Shared->Prop}
theorem sA {M:Model}{h:Heap}{o:Obj}(he:h.get? e=some o)(hc:o.cls=.ref C):Looks M h (typeOf (.ref e)) (.ref C):=hc▸(Looks.ld he).andThen .now
theorem Tc {vs:Array Value}{sl:Array (Option Value)}{tk:Tok}{v:Value}(X:K.In s.heap)(T:tO K C f)(he:s.heap.get? e=some ⟨.ref C,none,.fields vs,sl⟩)
  (h:∀ h',h'.get? e=some ⟨.ref C,some s.heap.objs.size,.fields vs,sl⟩->h'.Ns1 s.heap.objs.size (fun y=>if y=f then some v else none)->(∀ b o,b≠e->s.heap.get? b=some o->h'.get? b=some o)->R (.ok (.ret .none)) { s with heap:=h',toks:=s.toks+1 }) :
  codeAny (model prog w) A (.call (.builtin "object.__setattr__") ⟨[.ref e,.str f tk,v],[]⟩) R s:=by
 have SF:=PySem.F.store_object
 obtain⟨cd,hc,ho⟩:=any_some T.over
 have hd:cd.hasDict=true:=by
  have:=T.fld.hd
  rw[hc] at this
  exact aac this
 have l0:Looks (model prog w) s.heap (typeOf (.ref e)) (.ref C):=sA he rfl
 have sub:Looks (model prog w) s.heap (isInstance (.ref e) (.type "object")) true:=l0.andThen (looks_mroIn X T.fld.cls.ob)
 refine aci SF.slot.plain SF.entry (@check_slot (model prog w) _ _ s "object.__setattr__" "object" "__setattr__" (.ref e) [.str f tk,v] [] _ SF.kind SF.split sub (SF.args (.ref e) (.str f tk) v) ?_)
 have hm:Looks (model prog w) s.heap (mroOf (.ref C)) cd.mro:=(looks_clsIn X hc).andThen .now
 rw[osa_eq,refuse_eq]
 refine aaa (aaa (l0.here (aaa (hm.here ?_))))
 rw[sy _ ho]
 refine aad (aaa (l0.here (aaa ((ac4 X T.fld.no).here (aaa (aad ?_))))))
 have ns:e≠s.heap.objs.size:=aal (aae he)
 have h1:(s.heap.push { cls:=.type "dict",data:=.dict #[] }).get? e=some ⟨.ref C,none,.fields vs,sl⟩:=aab _ he
 show wpAny _ _ (storeInOwnDict (.ref e) (.ref C) (.str f tk) f v _) _ _ _
 unfold storeInOwnDict ownDictForStores instanceDict
 refine aaa (aad (aaa (aaa (aeo he (aaa ((looks_clsIn X hc).here ?_))))))
 simp only[hd,ael,abL,adq,typeHasDict,Bool.or_self]
 refine aaa (wpAny_alloc' ?_)
 refine aaa (wpAny_update' h1 ?_)
 have gd:((s.heap.push { cls:=.type "dict",data:=.dict #[] }).update e fun o=>{ cls:=o.cls,dict:=some s.heap.objs.size,data:=o.data,slots:=o.slots }).get? s.heap.objs.size=some { cls:=.type "dict",data:=.dict #[] }:=
  (aev _ _ _ _ (Ne.symm ns)).trans (abH rfl rfl)
 have nd:((s.heap.push { cls:=.type "dict",data:=.dict #[] }).update e fun o=>{ cls:=o.cls,dict:=some s.heap.objs.size,data:=o.data,slots:=o.slots }).Ns s.heap.objs.size (fun _=>none):=
  ⟨_,#[],_,gd,rfl,fun x hx=>absurd hx (by simp),fun _=>rfl⟩
 refine aad ?_
 show wpAny _ _ (storeInDict s.heap.objs.size (.str f tk) f v) _ _ _
 unfold storeInDict newKeyGuard
 refine aaa (aad (aaa (wpAny_nsSet1 (Heap.Ns1.of_empty nd) fun h' Ng hs=>?_)))
 obtain⟨oD,esD,epD,Xw,Xx,Xy⟩:=Ng.count (Within.cons f v Within.nil)
 refine aaa (wpAny_lookBehind Xw (by rw[Xx];exact pastItsLine_dict (aag Xy (by rw[aa8,List.length_nil,sizeLine_eq];omega))) ?_)
 refine aad (h h' ((hs.2 e ns).trans (aa4 _ h1 rfl)) Ng fun b o nb hb=>?_)
 exact (hs.2 b (aal (aae hb))).trans ((aev _ _ _ _ nb).trans (aab _ hb))
theorem Td {vs:Array Value}{sl:Array (Option Value)}{v:Value}{Q:Unit->Shared->Prop}(X:K.In s.heap)(T:tO K C f)(he:s.heap.get? e=some ⟨.ref C,none,.fields vs,sl⟩)
  (h:∀ h',h'.get? e=some ⟨.ref C,some s.heap.objs.size,.fields vs,sl⟩->h'.Ns1 s.heap.objs.size (fun y=>if y=f then some v else none)->(∀ b o,b≠e->s.heap.get? b=some o->h'.get? b=some o)->Q () { s with heap:=h',toks:=s.toks+1+1 }) :
  wpAny (model prog w) A (setAttr (.ref e) f v) Q E s:=by
 have l0:Looks (model prog w) s.heap (typeOf (.ref e)) (.ref C):=sA he rfl
 refine aaa (wpAny_mkText (aaa (aaa (aaa (l0 _ _ _ _ (fun _ _ e=>e) (ac4 X T.sa _ _ _ _ (fun _ _ e=>e) (aaW ?_)))))))
 rw[PySem.F.store_object.slot.bind]
 refine aaa (aad (aaa (acA ?_)))
 refine Tc (s:={ s with toks:=s.toks+1 }) X T he fun h' a b c=>?_
 exact aad (aad (h h' a b c))
end
end L2
namespace L2
open PySem PySem.Spec PyProof.Rows PySem.W PySem.Calls
def kS (K:Frag)(C fI:Addr):Bool:=match K.lookup C with
 | some ⟨.type "type",_,.cls cd,sl⟩=>(match cd.mro,sl.toList with
  | .ref C'::bm,[_,_,_,_,some (.builtin n),_]=>C'==C&&n=="ValueError.__new__"&&!cd.hasDel&&tailIn K iR bm&&nsOkIn K cd.ns&&nsIn K cd.ns "__init__"==some (some (.ref fI))
  | _,_=>false)
 | _=>false
theorem x6 {K:Frag}{h:Heap}{N:Addr}{mg:Str->Option Value}{n:Str}{v:Value}(X:K.In h)(G:h.Ns N mg)(e:nsIn K N n=some (some v)):mg n=some v:=by
 obtain⟨o,es,ep,ho,hd,_,hf⟩:=G
 unfold nsIn at e
 split at e
 ·rename_i q
  have z:=(X _ _ q).symm.trans ho
  cases z
  cases hd
  split at e
  ·rename_i en fe
   have ev:en.val=v:=aac (aac e)
   rw[<- hf n,<- ev]
   show Option.map _ (Array.find? _ es)=_
   rw[<- Array.find?_toList,fe]
   rfl
  ·split at e<;>cases e
 ·cases e
theorem lU {K:Frag}{h:Heap}{C fI:Addr}(X:K.In h)(q:kS K C fI=true) :
  ∃ bm N nm qn bs hdct sn sub ab col dd k0 k1 k2 k3 k5 mN,h.get? C=some (excClassObj nm qn C N bs bm hdct sn sub ab col dd k0 k1 k2 k3 k5 "ValueError.__new__")/\h.Ns N mN/\mN "__init__"=some (.ref fI)/\OwnTail h iR bm:=by
 unfold kS at q
 split at q
 ·rename_i dd cd sl ho
  split at q
  ·rename_i C' bm k0 k1 k2 k3 n k5 hm hs
   simp only[ab8,ab1,Bool.not_eq_true'] at q
   obtain⟨⟨⟨⟨⟨c1,c2⟩,c3⟩,c4⟩,c5⟩,c6⟩:=q
   subst c1 c2
   obtain⟨nm,bs,mro,ns,qn,hd,sn,sub,ab,col,del⟩:=cd
   dsimp only at hm c3 c5 c6
   subst hm c3
   obtain⟨l⟩:=sl
   have fF:l=[k0,k1,k2,k3,some (.builtin "ValueError.__new__"),k5]:=hs
   subst fF
   exact⟨bm,ns,nm,qn,bs,hd,sn,sub,ab,col,dd,k0,k1,k2,k3,k5,_,X _ _ ho,.of_isNs (W.isNs_of_in X c5),x6 X (.of_isNs (W.isNs_of_in X c5)) c6,W.tail_of_in X c4⟩
  ·cases q
 ·cases q
abbrev d7 (C t:Addr):Obj:={ cls:=.ref C,data:=.fields #[.ref t,.none,.none,.none,.bool false,.none] }
abbrev oS (C t dx:Addr):Obj:={ cls:=.ref C,dict:=some dx,data:=.fields #[.ref t,.none,.none,.none,.bool false,.none] }
section
variable {prog:Program}{w:World}{A:Around}{E:Value->Shared->Prop}{h:Heap}{g:Array GenState}{d:Drawn}{t:Nat}{os:OsState}
variable {nm q:Str}{C N:Addr}{bs bm:List Value}{hdct:Bool}{sn:List Str}{sub:List Value}{ab:Bool}{col:Option Bool}{dd:Option Addr}{k0 k1 k2 k3 k5:Option Value}
theorem x8 (T:OwnTail h iR bm){mN:Str->Option Value}{rest:List Value}{fI:Addr}{oI:Obj}{Q:Fin->Shared->Prop}
  (hC:h.get? C=some (excClassObj nm q C N bs bm hdct sn sub ab col dd k0 k1 k2 k3 k5 "ValueError.__new__")) (hn:h.Ns N mN) (hi:mN "__init__"=some (.ref fI)) (Ov:h.get? fI=some oI) (Ow:oI.cls=.type "function")
  (hq:wpAny (model prog w) A (call (.ref fI) (.ref (h.objs.size+1)::rest)) (fun r s'=>r=.none/\Q (.done (.ret (.ref (h.objs.size+1)))) s') E
   ⟨(h.push { cls:=.type "tuple",data:=.seq rest.toArray }).push (d7 C h.objs.size),g,d,t,os⟩) (Dm:rest.length<=sizeLine) :
  wpAny (model prog w) A (Builtin.«type.__call__» ⟨.ref C::rest,[]⟩) Q E ⟨h,g,d,t,os⟩:=by
 have BF:=PySem.F.excBase_ValueError
 have hB:iR.contains (.type "ValueError")=true:=by decide
 repeat (first|with_reducible refine adg hC ?_|with_reducible refine wpAny_madeBy_exc hC ?_|wp_step)
 refine codeAny_call_builtin_code (adS _ BF.quiet) (wpAny_check_new_subU BF hB T hC (codeAny_exc_new_subU BF hB BF T hC ?_ Dm))
 show wpAny _ _ _ _ _ _
 have p1:∀ b o,h.get? b=some o->((h.push { cls:=.type "tuple",data:=.seq rest.toArray }).push (d7 C h.objs.size)).get? b=some o:=fun b o z=>aab _ (aab _ z)
 have C1:=p1 _ _ hC
 have f1:=p1 _ _ Ov
 have n1:((h.push { cls:=.type "tuple",data:=.seq rest.toArray }).push (d7 C h.objs.size)).Ns N mN:=let ⟨o,es,ep,z,r⟩:=hn;⟨o,es,ep,p1 _ _ z,r⟩
 have g1:((h.push { cls:=.type "tuple",data:=.seq rest.toArray }).push (d7 C h.objs.size)).get? (h.objs.size+1)=some (d7 C h.objs.size):=by heap_get
 have cc:(Value.ref C::bm).contains (.ref C)=true:=by simp
 have T1:=T.keeps p1
 unfold isInstance
 repeat (first|with_reducible refine adg g1 ?_|(with_reducible refine wpAny_isSubtype_exc C1 ?_;rw[cc])|wp_step)
 show wpAny _ _ (typeLookup (.ref C) _) _ _ _
 refine wpAny_typeLookup_tail C1 n1 T1 BF.mroIs BF.init.lookup ?_
 rw[hi]
 refine aaW (aaa ?_)
 unfold bindSpecial
 refine aaa (aeR (T:="function") ⟨_,f1,Ow⟩ ?_)
 rw[aaz (by decide)]
 refine aad (aaa (aav hq (fun r s' hr=>?_) fun _ _ x=>x))
 obtain⟨rfl,z⟩:=hr
 wp_walk
 exact z
theorem x9 (T:OwnTail h iR bm){mN:Str->Option Value}{rest:List Value}{fI:Addr}{oI:Obj}{Q:Value->Shared->Prop}
  (hC:h.get? C=some (excClassObj nm q C N bs bm hdct sn sub ab col dd k0 k1 k2 k3 k5 "ValueError.__new__")) (hn:h.Ns N mN) (hi:mN "__init__"=some (.ref fI)) (Ov:h.get? fI=some oI) (Ow:oI.cls=.type "function")
  (hq:wpAny (model prog w) (A.under (.builtin "type.__call__" ⟨.ref C::rest,[]⟩)) (call (.ref fI) (.ref (h.objs.size+1)::rest)) (fun r s'=>r=.none/\Q (.ref (h.objs.size+1)) s') E
   ⟨(h.push { cls:=.type "tuple",data:=.seq rest.toArray }).push (d7 C h.objs.size),g,d,t,os⟩) (Dm:rest.length<=sizeLine) :
  wpAny (model prog w) A (call (.ref C) rest) Q E ⟨h,g,d,t,os⟩:=by
 have f1:=tc_lookup
 have f2:=tc_bind (.ref C)
 have hT:(⟨h,g,d,t,os⟩:Shared).TypeIs (.ref C) "type":=⟨_,hC,rfl⟩
 refine acA (aeY ?_)
 show wpAny _ _ (callAny (.ref C) _) _ _ _
 repeat (any_goals (first|assumption|with_reducible refine adg hC ?_|wp_step))
 refine⟨rfl,codeAny_call_builtin_at (adS _ (by decide +kernel)) entry_typeCall (wpAny_check_type_call_sub hC (x8 T hC hn hi Ov Ow ?_ Dm))⟩
 exact hq
theorem Bn (T:OwnTail h iR bm){e a:Addr}{x:Value}{Q:Value->Shared->Prop}(hC:h.get? C=some (excClassObj nm q C N bs bm hdct sn sub ab col dd k0 k1 k2 k3 k5 "ValueError.__new__"))(he:h.get? e=some (d7 C a))
  (hq:∀ h',h'.get? e=some (d7 C h.objs.size)->(∀ b o,b≠e->h.get? b=some o->h'.get? b=some o)->Q .none ⟨h',g,d,t,os⟩) :
  wpAny (model prog w) A (call (.builtin "ValueError.__init__") [.ref e,x]) Q E ⟨h,g,d,t,os⟩:=by
 have BF:=PySem.F.excBase_ValueError
 refine acA (aci BF.init.plain BF.initEntry (wpAny_check_init_subU BF T hC he rfl ?_))
 wp_walk
 refine hq _ ?_ fun b o nb hb=>?_
 ·rw[aa4 _ (aab _ he) rfl]
  rfl
 ·rw[abc _ _ (Ne.symm nb)]
  exact aab _ hb
end
def pR (C e:Addr)(h:Heap):Prop:=∃ a,h.get? e=some (d7 C a)
def tP (C e dx:Addr)(h:Heap):Prop:=∃ a,h.get? e=some (oS C a dx)
theorem okN {P:Program}{w:World}{H:Hp}{h:Heap}{C e a:Addr}(he:h.get? e=some (d7 C a)):bJ P w H h e (.ext (pR C e)):=⟨⟨a,he⟩,⟨_,he⟩,fun _ _ ⟨b,z⟩ k=>⟨b,k _ z⟩⟩
theorem Xz {P:Program}{w:World}{H:Hp}{h:Heap}{C e dx a:Addr}(he:h.get? e=some (oS C a dx)):bJ P w H h e (.ext (tP C e dx)):=⟨⟨a,he⟩,⟨_,he⟩,fun _ _ ⟨b,z⟩ k=>⟨b,k _ z⟩⟩
inductive Ox (K:Frag)(Q:VK)(vs:List V)(H1:Hp):Prop
 | mk:∀ e C fI x,(vs=[.ref e,x])->(H1 e=some (.ext (pR C e)))->(kS K C fI=true)->(Q .eI (upd H1 e (.ext (pR C e))))->Ox K Q vs H1
def XA (K:Frag)(ta:TA):TE:=fun σ H Q=>ta σ H fun vs H1=>Ox K Q vs H1
theorem yb {M:Model}{A:Around}{K:Frag}{pos:Pos}{env:Env}{n:String}{first:List Value}{e:Expr}{rest:List Expr}{Q:Value->Shared->Prop}{E:Value->Shared->Prop}{s:Shared}
  (h:wpAny M A (spliced (backTo pos (starEach (e::rest) env))) (fun vs s₁=>K.In s₁.heap/\wpAny M A (call (.builtin n) (first++vs)) Q E s₁) E s)
  (he:starEach (e::rest) env=(false,eval e env)::starEach rest env:=by rfl) (xX:(backTo pos (starEach rest env)).any (·.1)=false:=by rfl) :
  wpAny M A (callWith pos (.builtin n) first (backTo pos (starEach (e::rest) env)) []) Q E s:=by
 rw[he] at h ⊢
 exact W.callWith_of (by show ((false || (backTo pos (starEach rest env)).any (·.1)) || false)=false;rw[xX];rfl) (fun h (_:K.In h)=>⟨.machine,.inr (.inl rfl),.now⟩) (evalArgs_plain h)
section
variable {X:Cx}
theorem vW {cn:Str}{B:Addr}{np ap pos:Pos}{a:Expr}{es:List Expr}{t:TA}{pl:Sem Bool}(hg:Gl X cn)(hm:X.mg cn=some (.ref B))(h1:specialIn X.K (.ref B) "__getattribute__"=some (some (.builtin "type.__getattribute__")))
  (h2:readsIn X.K B (.type "type")=true) (h3:findCls X.K (.ref B) (.type "type") "__init__"=some (.val (.builtin "ValueError.__init__"))) (ha:PA X (a::es) t)
  (tJ:(cn==("__debug__":Str))=false:=by decide)
  (oQ:starEach (a::es) X.env=(false,eval a X.env)::starEach es X.env:=by rfl) (kH:(backTo pos (starEach es X.env)).any (·.1)=false:=by rfl)
  (ht:eval (.Call (.Attribute (.Name cn np) "__init__" ap) (a::es) [] pos) X.env=(do
   let ov <- eval (.Name cn np) X.env
   standAt ap.atName
   let (f,first) <- holding [ov] (getMethod ov "__init__" pl)
   callWith pos f first (backTo pos (starEach (a::es) X.env)) (backToKw pos (keywordEach [] X.env))):=by rfl) :
  PE X (.Call (.Attribute (.Name cn np) "__init__" ap) (a::es) [] pos) (XA X.K t):=by
 intro pins s σ H Q I h
 refine W.methodCall_KW (pl:=pl) (iM I hg hm ?_ tJ) ht
 refine method_cls I.kA h1 (cls_value I.kA h2 h3 (by decide +kernel) ?_)
 have I':=I.tok (s.toks+1)
 refine yb (K:=X.K) (first:=[]) (dC (ha pos pins _ σ H _ I' h) fun us s1 ⟨vs,H1,I1,r,q⟩=>⟨I1.kA,?_⟩) oQ kH
 obtain⟨e,C,fI,x,rfl,hH,hI,q⟩:=q
 obtain⟨u1,u2,rfl,r1,r2⟩:=r.two
 obtain rfl:u1=Value.ref e:=r1
 obtain⟨bm,Nn,nm,qn,bs,hdct,sn,sub,ab,col,dd,k0,k1,k2,k3,k5,mN,hC,Te,RC,TL⟩:=lU I1.kA hI
 obtain⟨⟨a0,he⟩,_,_⟩:=(show bJ X.prog X.w H1 s1.heap e (.ext (pR C e)) from I1.bE e _ hH)
 obtain⟨hp,gs,dr,tk,os⟩:=s1
 show wpAny _ _ (call (.builtin "ValueError.__init__") [.ref e,u2]) _ _ _
 refine Bn TL hC he fun h' Kg kp=>?_
 exact⟨.eI,_,I1.write (t':=tk) (x:=e) (e:=e) (by rw[hH];exact True.intro) (.inl rfl) (fun b u nb z=>kp b u nb z) ⟨_,Kg⟩ (okN Kg),rfl,q⟩
inductive Oy (K:Frag)(f:Str)(D:Ends)(σ:St)(y:V)(x:V)(H2:Hp):Prop
 | mk:∀ e C,(x=.ref e)->(H2 e=some (.ext (pR C e)))->(tO K C f)->(∀ dx,H2 dx=none->D.nx σ (upd (upd H2 dx (.xd [(f,y)])) e (.ext (tP C e dx))))->Oy K f D σ y x H2
def XB (K:Frag)(ta tv:TE)(f:Str):TS:=fun D σ H=>tv σ H fun y H1=>ta σ H1 fun x H2=>Oy K f D σ y x H2
theorem Bo {o value:Expr}{f:Str}{pos pos':Pos}{ta tv:TE}(ha:PE X o ta)(hv:PE X value tv)(hs:swapsWith value (some (.Attribute o f pos')) pos.line X.env=pure false):PS X (.Assign [.Attribute o f pos'] value pos) (XB X.K ta tv f):=by
 intro pins s σ H D I h
 refine plainObj_wpAny_Assign_Attribute (dC (hv pins s σ H _ I h) fun u s1 ⟨y,H1,I1,ry,q⟩=>dC (ha pins s1 σ H1 _ I1 q) fun ov s2 ⟨x,H2,I2,rx,e,C,ex,hH,T,q2⟩=>?_) hs
 subst ex
 obtain rfl:ov=Value.ref e:=rx
 obtain⟨⟨a0,he⟩,_,_⟩:=(show bJ X.prog X.w H2 s2.heap e (.ext (pR C e)) from I2.bE e _ hH)
 refine Td I2.kA T he fun h' Kg ns kp=>?_
 obtain⟨oD,es,ep,gD,dD⟩:=id ns
 have fr:H2 s2.heap.objs.size=none:=I2.bE.fresh (aai _)
 have ne:e≠s2.heap.objs.size:=aal (aae he)
 have XC:oD.isFreed=false:=by
  have:=(Heap.get?_some_iff.mp gD).2
  exact this
 have g1:(s2.heap.push oD).get? s2.heap.objs.size=some oD:=aap _ XC
 have n1:(s2.heap.push oD).Ns1 s2.heap.objs.size (fun y=>if y=f then some u else none):=⟨oD,es,ep,g1,dD⟩
 have J:=I2.laid (a:=s2.heap.objs.size) (o:=.xd [(f,y)]) (h':=s2.heap.push oD) (t':=s2.toks) (fun b v z=>aab _ z) (aai _) ⟨_,n1,fun g=>by
  show xJ (List.lookup g [(f,y)]) (if g=f then some u else none)
  by_cases c:g=f
  ·subst c
   rw[aaz rfl,List.lookup_cons_self]
   exact ry
  ·rw[aar c,aex]
   have:(g==f)=false:=by simpa using c
   rw[this]
   exact True.intro⟩
 have XE:(upd H2 s2.heap.objs.size (.xd [(f,y)])) e=some (.ext (pR C e)):=by rw[aH ne];exact hH
 have J2:=J.write (x:=e) (e:=e) (o:=.ext (tP C e s2.heap.objs.size)) (h':=h') (t':=s2.toks+1+1) (by rw[XE];exact True.intro) (.inl rfl) (fun b v nb z=>by
  by_cases c:b=s2.heap.objs.size
  ·subst c
   have z':(s2.heap.push oD).get? s2.heap.objs.size=some v:=z
   rw[g1] at z'
   cases z'
   exact gD
  ·have z':(s2.heap.push oD).get? b=some v:=z
   rw[Heap.get?_push_ne _ _ _ c] at z'
   exact kp b v nb z') ⟨_,Kg⟩ (Xz Kg)
 exact⟨σ,_,J2,q2 _ fr⟩
end
structure tQ (P:Program)(w:World)(outer:List Env)(H:Hp)(s:Shared)(cls:Value)(dx ea:Addr)(B:Heap)(H':Hp)(s':Shared):Prop where
 os:s'.os=s.os
 bare:AllBare s'.gens
 un:Un (gI outer) [] H H' s.heap s'.heap
 bE:kD P w H' s'.heap
 Dn:gM B outer ea cls (some dx) .none s'.heap
 r9:∀ b∈gI outer,H' b=none
 RD:∀ b o,s'.heap.get? b=some o->b∉gI outer->(H' b≠none\/∃ o',s.heap.get? b=some o')->B.get? b=some o
 he:H' ea=none
 hs:s.heap.get? ea=none
def XD (P:Program)(w:World):xF:=fun outer H s E e s'=>∃ (ea:Addr) (cls:Value) (dx:Addr) (B:Heap) (H':Hp),e=.ref ea/\tQ P w outer H s cls dx ea B H' s'/\E cls (some dx) H'
def without (H:Hp)(e:Addr):Hp:=fun b=>if b=e then none else H b
theorem cJ {H:Hp}{e b:Addr}(h:b≠e):without H e b=H b:=aar h
theorem kT {H:Hp}{e:Addr}:without H e e=none:=aaz rfl
theorem lV {H:Hp}{e b:Addr}{o:HO}(h:without H e b=some o):b≠e/\H b=some o:=by
 unfold without at h
 split at h
 ·cases h
 ·rename_i c;exact⟨c,h⟩
section
variable {P:Program}{w:World}{K:W.Frag}{mg:Str->Option Value}{base:Heap}{N:List Str}{qual:Str}{scope:Scope}{f:Addr}{cd:Value}{A:Around}{outer:List Env}{s0 s1:Shared}{H0 H1:Hp}{E:XK}
 {pins:List (Addr × Obj)}{σ:St}
theorem Bp {e C dx:Addr}(I:Inv (fV (XD P w) P w K mg base N qual scope f cd A outer s0 H0 E) pins σ H1 s1)(hH:H1 e=some (.ext (tP C e dx)))(h0:s0.heap.get? e=none)(hE:E (.ref C) (some dx) (without H1 e)) :
  (fV (XD P w) P w K mg base N qual scope f cd A outer s0 H0 E).xe (.ref e) s1:=by
 have st:s1.heap.FunFrames base (envOfC qual scope s0.heap.objs.size f cd::outer):=I.stack
 have fz:∀ b∈gI (envOfC qual scope s0.heap.objs.size f cd::outer),H1 b=none:=I.kf
 have sub:∀ b∈gI (envOfC qual scope s0.heap.objs.size f cd::outer),b=(envOfC qual scope s0.heap.objs.size f cd).locals\/b∈gI outer:=fun b hb=>aaf.mp (I.dJ b hb)
 have above:s0.heap.objs.size<=(envOfC qual scope s0.heap.objs.size f cd).locals:=I.ok.above
 have old:∀ b o,s0.heap.get? b=some o->b∉gI outer->b∉gI (envOfC qual scope s0.heap.objs.size f cd::outer):=fun b o q nb z=>by
  rcases sub b z with z|z
  ·subst z
   exact absurd (aak (aae q) above) (abo _)
  ·exact nb z
 obtain⟨⟨a,he⟩,_,_⟩:=(show bJ P w H1 s1.heap e (.ext (tP C e dx)) from I.bE e _ hH)
 show wpAny (model P w) (A.deeper (envOfC qual scope s0.heap.objs.size f cd)) (leaving (envOfC qual scope s0.heap.objs.size f cd) (.ref e)) _ _ _
 refine vV (base:=W.hideAll s1.heap (e::gI (envOfC qual scope s0.heap.objs.size f cd::outer))) I.ok.frames (W.funFrames_hide st fun Tf h' a ha=>aaL _ (List.mem_filterMap.mpr ⟨Tf,h',ha⟩)) rfl he (fun b o q=>W.of_hideAll _ q) (W.hideAll_none _ (aaR ..)) rfl rfl rfl fun VS fl ups=>?_
 have kept:∀ b o,s1.heap.get? b=some o->b≠e->b∉gI (envOfC qual scope s0.heap.objs.size f cd::outer)->VS.get? b=some o:=fun b o q ne nb=>fl.stays b o (W.hideAll_get _ q fun z=>by
  rcases aaf.mp z with z|z
  ·exact ne z
  ·exact nb z)
 have u:Un (gI outer) [] H0 H1 s0.heap s1.heap:=I.base
 have u':Un (gI outer) [] H0 (without H1 e) s0.heap s1.heap:=⟨u.keep,u.slot,fun b o q n hx=>by
   by_cases c:b=e
   ·subst c;exact kT
   ·rw[cJ c];exact u.free b o q n hx,u.there,fun b xs q=>by
   have z:=u.iq b xs q
   rw[cJ fun c=>by subst c;rw[hH] at z;cases z]
   exact z,fun b o v q=>by
   have z:=u.gC b o v q
   rw[cJ fun c=>by subst c;rw[hH] at z;cases z]
   exact z,fun b ps q=>by
   obtain⟨m,z⟩:=u.ir b ps q
   exact⟨m,by rw[cJ fun c=>by subst c;rw[hH] at z;cases z];exact z⟩⟩
 refine⟨e,.ref C,dx,_,without H1 e,rfl,⟨I.os,I.bare,u'.iQ (fun b o q nb Dp=>?_) (fun b o q hb Dp=>?_),fun c v hc=>?_,fl,fun b hb=>?_,fun b o q nb hc=>?_,kT,h0⟩,hE⟩
 ·obtain⟨o',q'⟩:=Dp
  exact kept b o q (fun z=>by subst z;rw[h0] at q';cases q') (old b o' q' nb)
 ·obtain⟨_,o',xC,nf⟩:=st.mem (lQ hb)
  rw[q] at xC;cases xC
  exact ups b o q nf
 ·obtain⟨ne,nL⟩:=lV hc
  have no:∀ b y,H1 b=some (.own y)->b≠e:=fun b y z c=>by subst c;rw[hH] at z;cases z
  refine (I.bE c v nL).rK (fun b o hb q=>?_) (fun b z=>by rw[cJ (no b _ z)];exact z) fun b xs z=>by
   rw[cJ fun c=>by subst c;rw[hH] at z;cases z]
   exact z
  rcases hb with rfl|hb
  ·exact kept b o q ne fun z=>by rw[fz b z] at nL;cases nL
  ·exact kept b o q (no b _ hb) fun z=>by rw[fz b z] at hb;cases hb
 ·by_cases c:b=e
  ·subst c;exact kT
  ·rw[cJ c];exact fz b (lQ hb)
 ·have key:∃ o1,s1.heap.get? b=some o1/\b≠e/\b∉gI (envOfC qual scope s0.heap.objs.size f cd::outer):=by
   rcases hc with hc|⟨o',q'⟩
   ·cases e1:without H1 e b with
    | none=>exact absurd e1 hc
    | some u1=>
     obtain⟨ne,e2⟩:=lV e1
     obtain⟨o1,q1⟩:=(I.bE b u1 e2).there
     exact⟨o1,q1,ne,fun z=>by rw[fz b z] at e2;cases e2⟩
   ·obtain⟨o1,q1⟩:=u.there b o' q' (by simp)
    exact⟨o1,q1,(fun z=>by subst z;rw[h0] at q';cases q'),old b o' q' nb⟩
  obtain⟨o1,q1,ne,n1⟩:=key
  have z:=kept b o1 q1 ne n1
  have q2:VS.get? b=some o:=q
  rw[q2] at z;cases z
  exact W.hideAll_get _ q1 fun z=>by
   rcases aaf.mp z with z|z
   ·exact ne z
   ·exact n1 z
theorem JB:Passes (XD P w) (fV (XD P w) P w K mg base N qual scope f cd A outer s0 H0 E) E:=by
 rintro pins σ H s e s' I ⟨ea,cls,dx,B,H',rfl,x,hE⟩
 have sub:∀ b∈gI (envOfC qual scope s0.heap.objs.size f cd::outer),b=(envOfC qual scope s0.heap.objs.size f cd).locals\/b∈gI outer:=fun b hb=>aaf.mp (I.dJ b hb)
 have above:s0.heap.objs.size<=(envOfC qual scope s0.heap.objs.size f cd).locals:=I.ok.above
 have K8:∀ b o,s0.heap.get? b=some o->b∈gI (envOfC qual scope s0.heap.objs.size f cd::outer)->b∈gI outer:=fun b o q z=>by
  rcases sub b z with z|z
  ·subst z
   exact absurd (aak (aae q) above) (abo _)
  ·exact z
 have x':tQ P w (envOfC qual scope s0.heap.objs.size f cd::outer) H s cls dx ea B H' s':=x
 have u0:Un (gI outer) [] H0 H s0.heap s.heap:=I.base
 have u:Un (gI outer) [] H0 H' s0.heap s'.heap:=u0.andThen x'.un K8
 have h0:s0.heap.get? ea=none:=by
  cases q:s0.heap.get? ea with
  | none=>rfl
  | some o=>
   obtain⟨o1,q1⟩:=u0.there ea o q (by simp)
   rw[x'.hs] at q1;cases q1
 show wpAny (model P w) (A.deeper (envOfC qual scope s0.heap.objs.size f cd)) (leaving (envOfC qual scope s0.heap.objs.size f cd) (.ref ea)) _ _ _
 refine x5 I.ok.frames rfl x'.Dn fun h' fl ups=>?_
 have kept:∀ b o,s'.heap.get? b=some o->b∉gI (envOfC qual scope s0.heap.objs.size f cd::outer)->(H' b≠none\/∃ o',s.heap.get? b=some o')->h'.get? b=some o:=fun b o q nb hc=>fl.stays b o (x'.RD b o q nb hc)
 refine⟨ea,cls,dx,B,H',rfl,⟨x'.os.trans I.os,x'.bare,u.iQ (fun b o q nb Dp=>?_) (fun b o q hb Dp=>?_),x'.bE.iQ fun b o hb q=>kept b o q (fun z=>hb (x'.r9 b z)) (.inl hb),fl,fun b hb=>x'.r9 b (lQ hb),fun b o q nb hc=>?_,x'.he,h0⟩,hE⟩
 ·obtain⟨o',q'⟩:=Dp
  obtain⟨o1,q1⟩:=u0.there b o' q' (by simp)
  exact kept b o q (fun z=>nb (K8 b o' q' z)) (.inr ⟨o1,q1⟩)
 ·obtain⟨_,o',xC,nf⟩:=x'.Dn.RB.mem (lQ hb)
  rw[q] at xC;cases xC
  exact ups b o q nf
 ·have key:∃ o1,s'.heap.get? b=some o1/\b∉gI (envOfC qual scope s0.heap.objs.size f cd::outer)/\(H' b≠none\/∃ o',s.heap.get? b=some o'):=by
   rcases hc with hc|⟨o',q'⟩
   ·cases e1:H' b with
    | none=>exact absurd e1 hc
    | some u1=>
     obtain⟨o1,q1⟩:=(x'.bE b u1 e1).there
     exact⟨o1,q1,fun z=>hc (x'.r9 b z),.inl (by rw[e1] at hc;exact hc)⟩
   ·obtain⟨o1,q1⟩:=u.there b o' q' (by simp)
    obtain⟨o2,q2⟩:=u0.there b o' q' (by simp)
    exact⟨o1,q1,fun z=>nb (K8 b o' q' z),.inr ⟨o2,q2⟩⟩
  obtain⟨o1,q1,n1,c1⟩:=key
  have z:=kept b o1 q1 n1 c1
  have q2:h'.get? b=some o:=q
  rw[q2] at z;cases z
  exact x'.RD b _ q1 n1 c1
theorem CB.K9 {x qual:Str}{st:Stmt}{f:Addr}{fd:FuncData}{N ps:List Str}{k:Nat}{sp:Sp}(F:CB K x qual st f fd)(S:ay N ps (aw st))(len:∀ vs H Q E,sp vs H Q E->vs.length=ps.length)
  (fW:∀ (bh:Value) (A:Around) (outer:List Env) (s:Shared) (H:Hp) (vs:List V) (Q:VK) (E:XK),eL k (A.deeper (envOfC qual (aw st) s.heap.objs.size f bh))->sp vs H Q E ->
   ∃ t,oO (fV (XD P w) P w K mg base N qual (aw st) f bh A outer s H E) (cX st) t/\t { nx:=fun _ H'=>Q .eI H',rt:=Q } (start N vs) H):kB P w K mg base (XD P w) (k+1) f fd ps sp:=by
 obtain⟨oc,od,kV,doc,pm,an,bh,ct,vM,rfl,lk,xD⟩:=F.ex
 exact Jv lk xD S len fun A outer s H vs Q E hr xT=>fW bh A outer s H vs Q E hr xT
end
structure Tg (K:Frag)(C fI:Addr):Prop where
 ex:kS K C fI=true
 fn:isFn K (.ref fI)=true
section
variable {X:Cx}{CX:xF}{k:Nat}{fI C:Addr}{fd:FuncData}{ps:List Str}{sp:Sp}{E:XK}
theorem vX {pins:List (Addr × Obj)}{σ:St}{H:Hp}{s:Shared}{us:List Value}{vs:List V}{QQ:Addr->Hp->Prop}(M:Tg X.K C fI)(F:kB X.prog X.w X.K X.mg X.base CX k fI fd ps sp)(hr:eL (k+1) X.A)(hb:Binds X.K fd ps [])
  (hx:Passes CX X E) (I:Inv X pins σ H s) (r:Vals vs us) (hz:us.length<=sizeLine)
  (h:∀ e,H e=none->sp (.ref e::vs) (upd H e (.ext (pR C e))) (fun v H2=>v=.eI/\QQ e H2) E) :
  wpAny (model X.prog X.w) X.A (call (.ref C) us) (fun v s'=>∃ e H',v=.ref e/\Inv X pins σ H' s'/\s.heap.get? e=none/\QQ e H') X.xe s:=by
 obtain⟨bm,Nn,nm,qn,bs,hdct,sn,sub,ab,col,dd,k0,k1,k2,k3,k5,mN,hC,Te,RC,TL⟩:=lU I.kA M.ex
 have ty:typeIn X.K (.ref fI)=some (.type "function"):=ab1.mp M.fn
 obtain⟨oI,lk,Ow⟩:∃ oI,X.K.lookup fI=some oI/\oI.cls=.type "function":=by
  have RE:(X.K.lookup fI).map (·.cls)=some (.type "function"):=ty
  cases q:X.K.lookup fI with
  | none=>rw[q] at RE;cases RE
  | some oI=>rw[q] at RE;exact⟨oI,rfl,aac RE⟩
 have Ov:=I.kA _ _ lk
 have hq:=h (s.heap.objs.size+1) (I.bE.fresh (abk _))
 have nn:s.heap.get? (s.heap.objs.size+1)=none:=acW (abk _)
 have g1:((s.heap.push { cls:=.type "tuple",data:=.seq us.toArray }).push (d7 C s.heap.objs.size)).get? (s.heap.objs.size+1)=some (d7 C s.heap.objs.size):=by heap_get
 have I2:=I.laid (a:=s.heap.objs.size+1) (o:=.ext (pR C (s.heap.objs.size+1))) (h':=(s.heap.push { cls:=.type "tuple",data:=.seq us.toArray }).push (d7 C s.heap.objs.size)) (t':=s.toks)
  (fun b u q=>aab _ (aab _ q)) (abk _) (okN g1)
 have r2:Vals (V.ref (s.heap.objs.size+1)::vs) (Value.ref (s.heap.objs.size+1)::us):=.cons rfl r
 have hl:(Value.ref (s.heap.objs.size+1)::us).length=ps.length:=by
  have e:=r2.length
  rw[F.len _ _ _ _ hq] at e
  exact e.symm
 have yc:=hb { s with heap:=(s.heap.push { cls:=.type "tuple",data:=.seq us.toArray }).push (d7 C s.heap.objs.size) } (Value.ref (s.heap.objs.size+1)::us) I2.kA (by rw[abi];exact hl)
 rw[abi] at yc
 obtain⟨hp,gs,dr,tk,os⟩:=s
 refine x9 TL hC Te RC Ov Ow ?_ hz
 refine acA (acI (F.run _ X.stack _ _ ⟨Value.ref (hp.objs.size+1)::us,[]⟩ (Value.ref (hp.objs.size+1)::us) _ _ E (hr.make C us []) (I2.G0.make C us []) yc r2 hq) fun rr s' yd=>?_)
 cases rr with
 | error e=>exact hx pins σ _ _ e s' I2 yd
 | ok fl=>
  cases fl with
  | ret u=>
   obtain⟨v,H',I3,rv,ev,q3⟩:=I2.after yd
   subst ev
   exact⟨rv,_,H',rfl,I3,nn,q3⟩
  | next=>exact False.elim yd
  | brk=>exact False.elim yd
  | cont=>exact False.elim yd
end
section
variable {M:Model}{A:Around}{E:Value->Shared->Prop}{s:Shared}{env:Env}
variable {nm q:Str}{C N:Addr}{bs bm:List Value}{hdct:Bool}{sn:List Str}{sub:List Value}{ab:Bool}{col:Option Bool}{dd:Option Addr}{k0 k1 k2 k3 k5:Option Value}
theorem kU {x:Sem Value}{Q:Flow->Shared->Prop}(hB:bm.contains (.type "BaseException")=true)(hh:A.handled=none)
  (h:wpAny M A x (fun v s1=>∃ e t dx,v=.ref e/\s1.heap.get? C=some (excClassObj nm q C N bs bm hdct sn sub ab col dd k0 k1 k2 k3 k5 "ValueError.__new__")/\s1.heap.get? e=some (oS C t dx)/\E (.ref e) s1) E s) :
  wpAny M A (raiseStmt env (some x) none) Q E s:=by
 have cB:(Value.ref C::bm).contains (.type "BaseException")=true:=by rw[List.contains_cons,hB,Bool.or_true]
 unfold raiseStmt
 refine aaa (aav h (fun v s1 z=>?_) fun _ _ y=>y)
 obtain⟨e,t,dx,rfl,hC,he,hE⟩:=z
 obtain⟨hp,g,d,tk,os⟩:=s1
 repeat (first|with_reducible refine adg he ?_|with_reducible refine adg hC ?_|(with_reducible refine wpAny_isSubtype_exc hC ?_;rw[cB])|wp_step)
 exact wpAny_raiseNew_none hh hE
end
section
variable {prog:Program}{w:World}{A:Around}{E:Value->Shared->Prop}{s:Shared}{env:Env}
variable {nm q:Str}{C N:Addr}{bs bm:List Value}{hdct:Bool}{sn:List Str}{sub:List Value}{ab:Bool}{col:Option Bool}{dd:Option Addr}{k0 k1 k2 k3 k5:Option Value}
theorem ye {x:Str}{np iP pos:Pos}{args:List Expr}{Q:Flow->Shared->Prop}(hB:bm.contains (.type "BaseException")=true)(hh:A.handled=none)(hp:(backTo iP (starEach args env)).any (·.1)=false)
  (h:wpAny (model prog w) A (eval (.Name x np) env) (fun f s1=>f=.ref C/\wpAny (model prog w) A (evalArgs (.ref C) true (backTo iP (starEach args env)) [])
   (fun a s2=>a.kw=[]/\s2.heap.get? C=some (excClassObj nm q C N bs bm hdct sn sub ab col dd k0 k1 k2 k3 k5 "ValueError.__new__") /\
    wpAny (model prog w) A (call (.ref C) a.pos) (fun v s3=>∃ e t dx,v=.ref e/\s3.heap.get? C=some (excClassObj nm q C N bs bm hdct sn sub ab col dd k0 k1 k2 k3 k5 "ValueError.__new__")/\s3.heap.get? e=some (oS C t dx)/\E (.ref e) s3) E s2) E s1) E s) :
  wpAny (model prog w) A (exec (.Raise (some (.Call (.Name x np) args [] iP)) none pos) env) Q E s:=by
 rw[arm_exec_Raise]
 first
  | refine aaa (abp (kU (C:=C) (nm:=nm) (q:=q) (N:=N) (bs:=bs) (bm:=bm) (hdct:=hdct) (sn:=sn) (sub:=sub) (ab:=ab) (col:=col) (dd:=dd) (k0:=k0) (k1:=k1) (k2:=k2) (k3:=k3) (k5:=k5) hB hh (aaa (aav (aeK (aav h (fun f s1 z=>?_) fun _ _ y=>y)) (fun v s3 z=>aaa (abp (aad z))) fun _ _ y=>y))))
  | (simp only[evalOpt,Option.map];refine aaa (abp (kU (C:=C) (nm:=nm) (q:=q) (N:=N) (bs:=bs) (bm:=bm) (hdct:=hdct) (sn:=sn) (sub:=sub) (ab:=ab) (col:=col) (dd:=dd) (k0:=k0) (k1:=k1) (k2:=k2) (k3:=k3) (k5:=k5) hB hh (aaa (aav (aeK (aav h (fun f s1 z=>?_) fun _ _ y=>y)) (fun v s3 z=>aaa (abp (aad z))) fun _ _ y=>y)))))
  | (refine aaa (abp (kU (C:=C) (nm:=nm) (q:=q) (N:=N) (bs:=bs) (bm:=bm) (hdct:=hdct) (sn:=sn) (sub:=sub) (ab:=ab) (col:=col) (dd:=dd) (k0:=k0) (k1:=k1) (k2:=k2) (k3:=k3) (k5:=k5) hB hh ?_));refine aaa (aav (aeK (aav h (fun f s1 z=>?_) fun _ _ y=>y)) (fun v s3 z=>aaa (abp (aad z))) fun _ _ y=>y))
 obtain⟨rfl,z⟩:=z
 unfold callWith
 refine aaa (aaW (aav z (fun a s2 z2=>aaa (abp ?_)) fun _ _ y=>y))
 obtain⟨ap,ak⟩:=a
 obtain⟨hk,hC,z3⟩:=z2
 obtain rfl:ak=[]:=hk
 obtain⟨GH,g,d,tk,os⟩:=s2
 simp only[hp]
 refine aaa (wpAny_keeperOf_exc hC ?_)
 refine aaa (aav z3 (fun v s3 z4=>aaa (aaW (wpAny_point (aad ?_)))) fun _ _ y=>y)
 exact z4
end
def Hf (C:Addr)(sp:Sp)(E:XK)(ta:TA):TS:=fun _ σ H=>ta σ H fun vs H1=>vs.length<=sizeLine/\∀ e,H1 e=none->sp (.ref e::vs) (upd H1 e (.ext (pR C e))) (fun v H2=>v=.eI/\∃ dx,H2 e=some (.ext (tP C e dx))/\E (.ref C) (some dx) (without H2 e)) E0
section
variable {P:Program}{w:World}{K:W.Frag}{mg:Str->Option Value}{base:Heap}{N:List Str}{qual:Str}{scope:Scope}{f:Addr}{cd:Value}{A:Around}{outer:List Env}{s0:Shared}{H0:Hp}{E:XK}
 {x:Str}{C fI:Addr}{np iP pos:Pos}{e:Expr}{es:List Expr}{t:TA}{k:Nat}{fd:FuncData}{ps:List Str}{sp:Sp}
theorem Bq (M:Tg K C fI)(F:kB P w K mg base aU k fI fd ps sp)(hr:eL (k+1) (fV (XD P w) P w K mg base N qual scope f cd A outer s0 H0 E).A)(hb:Binds K fd ps [])(hm:mg x=some (.ref C))(hg:Gl (fV (XD P w) P w K mg base N qual scope f cd A outer s0 H0 E) x)
  (ha:PA (fV (XD P w) P w K mg base N qual scope f cd A outer s0 H0 E) (e::es) t) (tJ:(x==("__debug__":Str))=false:=by decide)
  (he:starEach (e::es) (fV (XD P w) P w K mg base N qual scope f cd A outer s0 H0 E).env=(false,eval e (fV (XD P w) P w K mg base N qual scope f cd A outer s0 H0 E).env)::starEach es (fV (XD P w) P w K mg base N qual scope f cd A outer s0 H0 E).env:=by rfl)
  (kH:(backTo iP (starEach es (fV (XD P w) P w K mg base N qual scope f cd A outer s0 H0 E).env)).any (·.1)=false:=by rfl) :
  PS (fV (XD P w) P w K mg base N qual scope f cd A outer s0 H0 E) (.Raise (some (.Call (.Name x np) (e::es) [] iP)) none pos) (Hf C sp E t):=by
 intro pins s σ H D I h
 obtain⟨bm,Nn,nm,qn,bs,hdct,sn,sub,ab,col,dd,k0,k1,k2,k3,k5,mN,hC,hN,RC,TL⟩:=lU I.mod.Ko M.ex
 have La:(backTo iP (starEach (e::es) (fV (XD P w) P w K mg base N qual scope f cd A outer s0 H0 E).env)).any (·.1)=false:=by
  rw[he]
  show (false || (backTo iP (starEach es _)).any (·.1))=false
  rw[kH]
  rfl
 refine ye (C:=C) (nm:=nm) (q:=qn) (N:=Nn) (bs:=bs) (bm:=bm) (hdct:=hdct) (sn:=sn) (sub:=sub) (ab:=ab) (col:=col) (dd:=dd) (k0:=k0) (k1:=k1) (k2:=k2) (k3:=k3) (k5:=k5)
  (TL.hasType PySem.F.excBase_ValueError.hasBase) (I.ok.hd rfl) La (iM I hg hm ⟨rfl,?_⟩ tJ)
 have h2:=ha iP pins s σ H _ I h
 rw[he] at h2 ⊢
 refine Calls.evalArgs_plain (aav h2 (fun us s1 ⟨vs,H1,I1,r,z,q⟩=>⟨rfl,I1.bk _ _ hC,?_⟩) fun _ _ y=>y)
 have xe0:Passes aU (fV (XD P w) P w K mg base N qual scope f cd A outer s0 H0 E) E0:=aB
 refine aav (vX (QQ:=fun e H2=>∃ dx,H2 e=some (.ext (tP C e dx))/\E (.ref C) (some dx) (without H2 e)) M F hr hb xe0 I1 r (by rw[<- r.length];exact z) q) (fun v s3 z3=>?_) fun _ _ y=>y
 obtain⟨e',H',rfl,I3,nn,dx,hH,hE⟩:=z3
 obtain⟨⟨a,hl⟩,_,_⟩:=(show bJ P w H' s3.heap e' (.ext (tP C e' dx)) from I3.bE e' _ hH)
 have h0:s0.heap.get? e'=none:=by
  cases q0:s0.heap.get? e' with
  | none=>rfl
  | some o=>
   have u0:Un (gI outer) [] H0 H1 s0.heap s1.heap:=I1.base
   obtain⟨o1,q1⟩:=u0.there e' o q0 (by simp)
   rw[nn] at q1;cases q1
 exact⟨e',a,dx,rfl,I3.bk _ _ hC,hl,Bp I3 hH h0 hE⟩
end
section
variable {X:Cx}{pins:List (Addr × Obj)}{σ:St}{H H':Hp}{s s':Shared}{cls:Value}{ea C dx:Addr}{B h':Heap}{t':Nat}
theorem tQ.VT (x:tQ X.prog X.w X.stack H s cls dx ea B H' s')(k:B.StaysIn h')(ups:s'.heap.UpToSlots h'):Un (gI X.stack) [] H H' s.heap h':=
 x.un.iQ (fun b o q nb old=>k b o (x.RD b o q nb (.inr old))) fun b o q hb old=>by
  obtain⟨_,o',xC,nf⟩:=x.Dn.RB.mem hb
  rw[q] at xC;cases xC
  exact ups b o q nf
theorem tQ.Oz (x:tQ X.prog X.w X.stack H s cls dx ea B H' s')(k:B.StaysIn h'):kD X.prog X.w H' h':=
 x.bE.iQ fun b o hb q=>k b o (x.RD b o q (fun z=>hb (x.r9 b z)) (.inl hb))
theorem Inv.landed0 (I:Inv X pins σ H s)(x:tQ X.prog X.w X.stack H s cls dx ea B H' s')(k:B.StaysIn h')(ups:s'.heap.UpToSlots h'):Inv X pins σ H' { s' with heap:=h',toks:=t' }:=
 I.nM (s':={ s' with heap:=h',toks:=t' }) (ch:=[]) x.os (x.VT k ups) (x.Oz k) x.bare fun b z=>absurd z (by simp)
theorem K9 {P:Program}{w:World}{H:Hp}{h:Heap}{C e dx:Addr}(he:iS C e dx h):bJ P w H h e (.ext (iS C e dx)):=⟨he,let ⟨o,a,_⟩:=he;⟨o,a⟩,fun _ _ ⟨o,a,b⟩ k=>⟨o,k _ a,b⟩⟩
end
section
variable {X:Cx}{k:Nat}{f C fI:Addr}{fd:FuncData}{ps:List Str}{sp:Sp}{g x n y c:Str}{p pos Bk np xZ yp cp tp ap:Pos}{e:Expr}{es:List Expr}{t:TA}{ts:TS}{b₀:Stmt}{lR:List Stmt}{i iy:Nat}{cj tk}
end
inductive Lb (P:Program)(w:World)(K:W.Frag)(mg:Str->Option Value)(base:Heap)(k:Nat)(f:Addr)(ps:List Str)(sp:Sp):Prop
 | mk:∀ (fd:FuncData),(kB P w K mg base aU k f fd ps sp)->(Binds K fd ps [])->Lb P w K mg base k f ps sp
inductive z8 (C:Addr)(f:Str)(vs:List V)(H:Hp)(Q:VK)(bC:XK):Prop
 | mk:∀ (e:Addr) (v:V),(vs=[.ref e,v])->(H e=some (.ext (pR C e)))->(∀ (dx:Addr) (H':Hp),H' e=some (.ext (tP C e dx))->H' dx=some (.xd [(f,v)])->(∀ b o,b≠e->H b=some o->H' b=some o)->Q .eI H')->z8 C f vs H Q bC
end L2
namespace L2
open PySem PySem.Spec PyProof.Rows
def tR (A:Around)(H:Hp):Prop:=A.handled=none\/∃ e o u vs,A.handled=some (.ref e)/\H e=some (.mw o u)/\o.data=.fields vs/\vs[2]?=some .none
theorem Inv.stH {X:Cx}{pins:List (Addr × Obj)}{σ:St}{H:Hp}{s:Shared}(I:Inv X pins σ H s)(hc:X.bq=true):tR X.A H:=by
 rcases I.ok.hs hc with z|⟨e,o,u,vs,hh,hm,r⟩
 ·exact .inl z
 ·exact .inr ⟨e,o,u,vs,hh,I.vC _ hm,r⟩
theorem tR.list {A:Around}{H:Hp}(h:tR A H):∃ fz:List (Addr × Obj × HO),(∀ p∈fz,H p.1=some (.mw p.2.1 p.2.2))/\(A.handled=none\/∃ e o u vs,A.handled=some (.ref e)/\(e,o,u)∈fz/\o.data=.fields vs/\vs[2]?=some .none):=by
 rcases h with z|⟨e,o,u,vs,hh,hm,r⟩
 ·exact⟨[],(fun _ hp=>nomatch hp),.inl z⟩
 ·refine⟨[(e,o,u)],fun p hp=>?_,.inr ⟨e,o,u,vs,hh,aaY.mpr rfl,r⟩⟩
  rw[aaY.mp hp]
  exact hm
structure z9 (P:Program)(w:World)(K:W.Frag)(mg:Str->Option Value)(base:Heap)(k:Nat)(f:Addr)(fd:FuncData)(ps:List Str)(sp:Sp):Prop where
 len:∀ vs H Q E,sp vs H Q E->vs.length=ps.length
 run:∀ (A:Around) (outer:List Env) (s:Shared) (H:Hp) (args:Args) (us:List Value) (vs:List V) (Q:VK) (E:XK),fB k A->tR A H->rL P w K mg base A outer s H->BindsTo s fd args (ps.zip us)->Vals vs us->sp vs H Q E ->
  codeAny (model P w) A (.call (.ref f) args) (CR aU outer P w H s Q E) s
inductive oB (P:Program)(w:World)(K:W.Frag)(mg:Str->Option Value)(base:Heap)(k:Nat)(x:Str)(ps:List Str)(sp:Sp):Prop
 | mk:∀ (f:Addr) (fd:FuncData),(z9 P w K mg base k f fd ps sp)->(Binds K fd ps [])->(W.keepIn K (.ref f)=true)->(mg x=some (.ref f))->oB P w K mg base k x ps sp
def Nm (P:Program)(w:World)(K:W.Frag)(mg:Str->Option Value)(base:Heap)(N:List Str)(qual:Str)(scope:Scope)(f:Addr)(cd:Value)(A:Around)(outer:List Env)(s:Shared)(H:Hp)(fz:List (Addr × Obj × HO)):Cx:=
 { fV aU P w K mg base N qual scope f cd A outer s H E0 with calm:=false,fz:=fz,xe:=fun _ _=>False }
theorem yf {P:Program}{w:World}{K:W.Frag}{mg:Str->Option Value}{base:Heap}{N ps:List Str}{qual:Str}{scope:Scope}{f:Addr}{cd:Value}{A:Around}{outer:List Env}{s s1:Shared}{H:Hp}{us:List Value}{vs:List V}{fz:List (Addr × Obj × HO)}
  (S:ay N ps scope) (e0:rL P w K mg base A outer s H) (hl:vs.length=ps.length) (r:Vals vs us) (hz:∀ p∈fz,H p.1=some (.mw p.2.1 p.2.2)) (hs:A.handled=none\/∃ e o u vs,A.handled=some (.ref e)/\(e,o,u)∈fz/\o.data=.fields vs/\vs[2]?=some .none)
  (x:InCallC s s.heap.objs.size (bindL (envOfC qual scope s.heap.objs.size f cd).kindOf (ps.zip us) fun _=>none) (cellsFrom (s.heap.objs.size+1) scope.names []) (bindC (envOfC qual scope s.heap.objs.size f cd).kindOf (ps.zip us) fun _=>none) s1) :
  Inv (Nm P w K mg base N qual scope f cd A outer s H fz) [] (start N vs) H s1:=by
 have e1:rL P w K mg base { A with handled:=none } outer s H:=⟨e0.frames,e0.mod,e0.bs,e0.pF,e0.iu,e0.r9,e0.bE,e0.bare⟩
 have J:=sm (CX:=aU) (E:=E0) (A:={ A with handled:=none }) S rfl e1 hl r x
 have ok:=J.ok
 exact⟨⟨ok.mod,ok.kind,ok.glob,ok.blt,ok.above,ok.inj,ok.has,ok.Cz,(fun h=>by cases h),(fun _=>hs),(show (A.deeper _).frames=some (_::outer) from Around.frames_deeper e0.frames),ok.xK,ok.GS,ok.bs,ok.pF,ok.kO,ok.pG,ok.iu,ok.r9⟩,
  hz,J.os,J.bare,J.base,J.loc,J.cell,J.free,J.dY,J.pin,J.bE,J.len⟩
theorem Lc {P:Program}{w:World}{K:W.Frag}{mg:Str->Option Value}{base:Heap}{k:Nat}{f:Addr}{name qual:Str}{params:Arguments}{body:List Stmt}{scope:Scope}{dV kV doc pm bh ct oc:Value}{an od:Option Addr}
  {vM:Array (Option Value)}{N ps:List Str}{sp:Sp} (lk:K.lookup f=some ⟨oc,od,.func (W.fnOf name qual params body scope dV kV doc pm an bh ct),vM⟩) (xD:W.codeIn K bh qual=true) (S:ay N ps scope)
  (len:∀ vs H Q E,sp vs H Q E->vs.length=ps.length)
  (fW:∀ (A:Around) (outer:List Env) (s:Shared) (H:Hp) (fz:List (Addr × Obj × HO)) (vs:List V) (Q:VK) (E:XK),fB k (A.deeper (envOfC qual scope s.heap.objs.size f bh))->sp vs H Q E ->
   ∃ t,oO (Nm P w K mg base N qual scope f bh A outer s H fz) body t/\t { nx:=fun _ H'=>Q .eI H',rt:=Q } (start N vs) H) :
  z9 P w K mg base (k+1) f (W.fnOf name qual params body scope dV kV doc pm an bh ct) ps sp:=by
 refine⟨len,fun A outer s H args us vs Q E hr oQ e0 hb r xT=>?_⟩
 obtain⟨fz,hz,hs⟩:=oQ.list
 have hl:=len _ _ _ _ xT
 have KX:K.In s.heap:=e0.mod.Ko.keeps fun b o e=>(e0.bs b o e).1
 have lim:s.heap.NoLimit:=e0.mod.nolimit.keeps fun b o e=>(e0.bs b o e).1
 have CZ:∀ y∈ps.zip us,scope.names.lookup y.1=some .local\/(scope.names.lookup y.1=some .cell/\((cellsFrom (s.heap.objs.size+1) scope.names []).lookup y.1).isSome=true):=fun ⟨n,v⟩ hy=>by
  rcases S.par n (ad2 hy).1 with q|q
  ·exact .inl q
  ·exact .inr ⟨q,aeS _ _ _ (.inl q)⟩
 have Th:A.depth<recursionLimit:=by have:=hr.dp;omega
 refine codeAny_call_function Th (KX _ _ lk) rfl S.co S.gen rfl (W.codeRec_of KX xD) (hb _ _ _ _ ?_)
 refine wpAny_newFunctionEnv_cells S.kind CZ fun env he s1 x=>?_
 subst he
 refine⟨lim.keeps x.toInCall.keep,codeAny_func ?_⟩
 obtain⟨t,ht,hq⟩:=fW A outer s H fz vs Q E (hr.deeper _) xT
 have I:Inv (Nm P w K mg base N qual scope f bh A outer s H fz) [] (start N vs) H s1:=yf S e0 hl r hz hs x
 refine aav (ht [] s1 (start N vs) H _ I hq) (fun fl s' hs=>?_) fun e s' hs=>False.elim hs
 have fin:∀ {σ':St}{H':Hp}{v:V}{u:Value},Inv (Nm P w K mg base N qual scope f bh A outer s H fz) [] σ' H' s'->RelV v u->Q v H'->CE outer P w H s Q u s':=
  fun {σ' H' v u} J rv q=>⟨v,H',J.os,J.bare,J.base,J.bE,rv,q⟩
 cases fl with
 | ret u=>
  obtain⟨v,σ',H',J,rv,q⟩:=hs
  exact fin J rv q
 | next=>
  obtain⟨σ',H',J,q⟩:=hs
  exact fin (v:=V.eI) (u:=Value.none) J rfl q
 | brk=>
  obtain⟨_,_,_,q⟩:=hs
  exact False.elim q
 | cont=>
  obtain⟨_,_,_,q⟩:=hs
  exact False.elim q
section
variable {P:Program}{w:World}{K:W.Frag}{mg:Str->Option Value}{base:Heap}
theorem CB.Np {x qual:Str}{st:Stmt}{f:Addr}{fd:FuncData}{N ps:List Str}{k:Nat}{sp:Sp}(F:CB K x qual st f fd)(S:ay N ps (aw st))(len:∀ vs H Q E,sp vs H Q E->vs.length=ps.length)
  (fW:∀ (bh:Value) (A:Around) (outer:List Env) (s:Shared) (H:Hp) (fz:List (Addr × Obj × HO)) (vs:List V) (Q:VK) (E:XK),fB k (A.deeper (envOfC qual (aw st) s.heap.objs.size f bh))->sp vs H Q E ->
   ∃ t,oO (Nm P w K mg base N qual (aw st) f bh A outer s H fz) (cX st) t/\t { nx:=fun _ H'=>Q .eI H',rt:=Q } (start N vs) H):z9 P w K mg base (k+1) f fd ps sp:=by
 obtain⟨oc,od,kV,doc,pm,an,bh,ct,vM,rfl,lk,xD⟩:=F.ex
 exact Lc lk xD S len fun A outer s H fz vs Q E hr xT=>fW bh A outer s H fz vs Q E hr xT
end
section
variable {X:Cx}{k:Nat}{f:Addr}{fd:FuncData}{ps:List Str}{sp:Sp}{zL:List V}{ds:List Value}{x:Str}{p pos:Pos}{e:Expr}{es:List Expr}{t:TA}
theorem Dq (F:z9 X.prog X.w X.K X.mg X.base k f fd ps sp)(hr:fB k X.A)(hc:X.bq=true)(hg:Gl X x)(hm:X.mg x=some (.ref f))(hk:W.keepIn X.K (.ref f)=true)(hb:Binds X.K fd ps ds)(hd:Vals zL ds)
  (ha:PA X (e::es) t) (tJ:(x==("__debug__":Str))=false:=by decide) (he:starEach (e::es) X.env=(false,eval e X.env)::starEach es X.env:=by rfl) (kH:(backTo pos (starEach es X.env)).any (·.1)=false:=by rfl) :
  PE X (.Call (.Name x p) (e::es) [] pos) (zK sp zL E0 t):=by
 intro pins s σ H Q I h
 refine ac6 (iM I hg hm ?_ tJ)
 refine W.callWith_K (h₀:=X.base) I.ok.mod.Ko hk (dC (ha pos pins s σ H _ I h) fun us s1 ⟨vs,H1,I1,r,q⟩=>⟨I1.kA,?_⟩) he kH
 have r2:Vals (vs++zL) (us++ds):=r.append hd
 have hl:(us++ds).length=ps.length:=by rw[<- r2.length];exact F.len _ _ _ _ q
 refine acA (acI (F.run X.A X.stack s1 H1 ⟨us,[]⟩ (us++ds) (vs++zL) Q E0 hr (I1.stH hc) I1.G0 (hb s1 us I1.kA hl) r2 q) fun r s' hq=>?_)
 cases r with
 | error e=>exact False.elim hq
 | ok fl=>
  cases fl with
  | ret u=>exact I1.after hq
  | next=>exact False.elim hq
  | brk=>exact False.elim hq
  | cont=>exact False.elim hq
end
abbrev Cx.pT (X:Cx)(e:Addr)(o:Obj)(u:HO):Cx:={ X with A:=X.A.mark (some (.ref e)),calm:=false,bq:=true,fz:=(e,o,u)::X.fz,xe:=fun _ _=>False }
section
variable {X:Cx}{pins:List (Addr × Obj)}{σ:St}{H H':Hp}{s s':Shared}{e:Addr}{o:Obj}{u:HO}{vs:Array Value}
theorem Inv.pT (I:Inv X pins σ H s)(h:H e=some (.mw o u))(hd:o.data=.fields vs)(h2:vs[2]?=some .none):Inv (X.pT e o u) pins σ H s:=
 have ok:=I.ok
 ⟨⟨ok.mod,ok.kind,ok.glob,ok.blt,ok.above,ok.inj,ok.has,ok.Cz,(fun h=>by cases h),(fun _=>.inr ⟨e,o,u,vs,rfl,aaR ..,hd,h2⟩),ok.frames,ok.xK,ok.GS,ok.bs,ok.pF,ok.kO,ok.pG,ok.iu,ok.r9⟩,
  fun p hp=>(aaf.mp hp).elim (fun z=>by rw[z];exact h) (I.vC p),I.os,I.bare,I.base,I.loc,I.cell,I.free,I.dY,I.pin,I.bE,I.len⟩
theorem Inv.oU (ok:X.Ok)(I:Inv (X.pT e o u) pins σ H s):Inv X pins σ H s:=⟨ok,fun p hp=>I.vC p (aaL _ hp),I.os,I.bare,I.base,I.loc,I.cell,I.free,I.dY,I.pin,I.bE,I.len⟩
end
section
variable {M:Model}{A:Around}{E:Value->Shared->Prop}
variable {nm q XF q':Str}{C N D N':Addr}{bs bm XG XH:List Value}{hdct OA:Bool}{sn XI:List Str}{sub Ti:List Value}{ab XJ:Bool}{col Tj:Option Bool}{dd XM:Option Addr}{k0 k1 k2 k3 k5 j0 j1 j2 j3 j5:Option Value}{newId Ld:String}
end
section
variable {X:Cx}{pins:List (Addr × Obj)}{σ:St}{H H':Hp}{s s':Shared}{e:Addr}{cls a0:Value}{ea C:Addr}{B h':Heap}{t':Nat}
end
section
variable {X:Cx}{k:Nat}{f C:Addr}{fd:FuncData}{ps:List Str}{sp:Sp}{g x n:Str}{p pos Di Bk np xZ:Pos}{e:Expr}{es:List Expr}{t:TA}{ts:TS}{b₀:Stmt}{lR:List Stmt}{i:Nat}
end
end L2
namespace L2
open PySem PySem.Spec PyProof.Rows PySem.W PySem.Calls
def Tn (P:Program)(w:World)(K:Frag)(C D:Addr)(b:Bool):Prop:=∀ (A:Around) (h:Heap) (g:Array GenState) (d:Drawn) (t:Nat) (os:OsState) (ea:Addr) (ob:Obj) (Q:Bool->Shared->Prop) (E:Value->Shared->Prop),
 K.In h->h.get? ea=some ob->ob.cls=.ref C->Q b ⟨h,g,d,t,os⟩->wpAny (model P w) A (excMatches (.ref ea) (.ref D)) Q E ⟨h,g,d,t,os⟩
theorem Dr {P:Program}{w:World}{K:Frag}{C fI:Addr}(hq:kS K C fI=true):Tn P w K C C true:=by
 intro A h g d t os ea ob Q E X Ou hc q
 obtain⟨bm,Nn,nm,qn,bs,hdct,sn,sub,ab,col,dd,k0,k1,k2,k3,k5,mN,hC,Te,RC,TL⟩:=lU X hq
 exact wpAny_excMatches_sub_self hC Ou hc (TL.hasType PySem.F.excBase_ValueError.hasBase) q
section
variable {X:Cx}{pins:List (Addr × Obj)}{σ:St}{H H':Hp}{s s':Shared}{cls:Value}{ea C dx:Addr}{B h':Heap}{t':Nat}
theorem Inv.Hg (I:Inv X pins σ H s)(x:tQ X.prog X.w X.stack H s (.ref C) dx ea B H' s'){l:List Env}{fl:Value}(f2:gM B l ea (.ref C) (some dx) fl h')(ups:s'.heap.UpToSlots h') :
  ∃ (oe:Obj) (vs:Array Value),oe.data=.fields vs/\vs[2]?=some .none/\Inv X pins σ (upd H' ea (.mw oe (.ext (iS C ea dx)))) { s' with heap:=h',toks:=t' }:=by
 obtain⟨oe,vs,_,_,_,he,⟨hc,hx⟩,hd,_,h2,_⟩:=f2.tr
 have at_:iS C ea dx h':=⟨oe,he,hc,hx,by unfold W.notCls;rw[hd]⟩
 exact⟨oe,vs,hd,h2,I.nM (s':={ s' with heap:=h',toks:=t' }) (ch:=[]) x.os ((x.VT f2.stays ups).more x.hs x.he) ((x.Oz f2.stays).more x.he ⟨he,K9 at_⟩) x.bare fun b z=>absurd z (by simp)⟩
theorem Ds {D:Ends}{ts:TS}{x n:Str}{np xZ:Pos}{b₀:Stmt}{lR:List Stmt}{rest:List ExceptHandler}{i:Nat}{Dc:Addr}(I:Inv X pins σ H s)(Dn:tQ X.prog X.w X.stack H s (.ref C) dx ea B H' s')(oQ:X.stack=X.env::X.outer)(hf:X.env.frame=some X.env.locals)
  (hm:X.mg x=some (.ref Dc)) (hg:Gl X x) (Le:Tn X.prog X.w X.K C Dc true) (hN:X.N.Nodup) (hi:X.N[i]?=some n) (hk:X.env.scope.names.lookup n=some .local)
  (To:∀ o u,oO (X.pT ea o u) (b₀::lR) ts) (h:∀ o,ts (Dh D i) (σ.set i (some (.ref ea))) (upd H' ea (.mw o (.ext (iS C ea dx))))) (tJ:(x==("__debug__":Str))=false) :
  wpAny (model X.prog X.w) X.A (noteFrame (.ref ea) X.env) (fun _ s₂=>wpAny (model X.prog X.w) X.A (setFlight (.ref ea) none) (fun _ s₃=>
   wpAny (model X.prog X.w) X.A (handleBy (.ref ea) X.env (.ExceptHandler (some (.Name x np)) (some n) (b₀::lR) xZ::rest)) (SP X pins D) X.xe s₃) X.xe s₂) X.xe s':=by
 obtain⟨hp,gs,dr,tk,os⟩:=s'
 have fr:X.A.frames=some (X.env::X.outer):=by rw[<- oQ];exact I.ok.frames
 have fl:gM B (X.env::X.outer) ea (.ref C) (some dx) .none hp:=by rw[<- oQ];exact Dn.Dn
 refine sx fr hf fl fun h4 OB u4=>?_
 refine z6 OB fun h5 Tp u5=>?_
 have I5:Inv X pins σ H' ⟨h5,gs,dr,tk,os⟩:=I.landed0 (t':=tk) Dn Tp.stays (u4.trans u5)
 obtain⟨ob,Ou,Tq,_⟩:=Tp.there
 refine wpAny_handleBy_cons (codeAny_handlers_test (iM (I5.marked ea) hg hm ?_ tJ)) (by intro q;cases q)
 refine Le _ _ _ _ _ _ _ _ _ _ I5.kA Ou Tq ?_
 refine codeAny_handlers_suite_as ?_
 refine z6 Tp fun h6 XN u6=>?_
 obtain⟨oe,vs,hd,h2,I6⟩:=I.Hg (t':=tk) Dn XN ((u4.trans u5).trans u6)
 refine jz (X:=X.pT ea oe (.ext (iS C ea dx))) (i:=i) (v:=.ref ea) (I6.pT ag hd h2) hN hi (.inl hk) rfl (fun s7 I7=>?_) (.inr hk)
 refine aav (To _ _ pins s7 _ _ _ I7 (h oe)) (fun fw s8 q=>?_) fun _ _ z=>False.elim z
 cases fw with
 | next=>
  obtain⟨σ2,H2,J,q⟩:=q
  exact kh (J.oU I.ok) hN hi hk fun s9 J9=>⟨_,_,J9,q⟩
 | ret v=>
  obtain⟨v',σ2,H2,J,r,q⟩:=q
  exact kh (J.oU I.ok) hN hi hk fun s9 J9=>⟨v',_,_,J9,r,q⟩
 | brk=>
  obtain⟨σ2,H2,J,q⟩:=q
  exact kh (J.oU I.ok) hN hi hk fun s9 J9=>⟨_,_,J9,q⟩
 | cont=>
  obtain⟨σ2,H2,J,q⟩:=q
  exact kh (J.oU I.ok) hN hi hk fun s9 J9=>⟨_,_,J9,q⟩
end
def OC (sp:Sp)(C:Addr)(i:Nat)(ta:TA)(ts:TS):TS:=fun D σ H=>ta σ H fun vs H1=>sp vs H1 (fun _ H2=>D.nx σ H2)
 fun cls od H2=>∃ dx,od=some dx/\cls=.ref C/\∀ e o,H2 e=none->ts (Dh D i) (σ.set i (some (.ref e))) (upd H2 e (.mw o (.ext (iS C e dx))))
section
variable {X:Cx}{k:Nat}{f C Dc:Addr}{fd:FuncData}{ps:List Str}{sp:Sp}{g x n:Str}{p pos Di Bk np xZ:Pos}{e:Expr}{es:List Expr}{t:TA}{ts:TS}{b₀:Stmt}{lR:List Stmt}{i:Nat}
theorem Hh (F:kB X.prog X.w X.K X.mg X.base (XD X.prog X.w) k f fd ps sp)(hr:eL k X.A)(XO:Gl X g)(XQ:X.mg g=some (.ref f))(XR:W.keepIn X.K (.ref f)=true)(hb:Binds X.K fd ps [])(ha:PA X.tG (e::es) t)
  (hm:X.mg x=some (.ref Dc)) (hg:Gl X x) (Le:Tn X.prog X.w X.K C Dc true) (hN:X.N.Nodup) (hi:X.N[i]?=some n) (hk:X.env.scope.names.lookup n=some .local) (To:∀ ea o u,oO (X.pT ea o u) (b₀::lR) ts)
  (oQ:X.stack=X.env::X.outer:=by rfl) (hf:X.env.frame=some X.env.locals:=by rfl)
  (JA:(g==("__debug__":Str))=false:=by decide) (tJ:(x==("__debug__":Str))=false:=by decide)
  (he:starEach (e::es) X.env=(false,eval e X.env)::starEach es X.env:=by rfl) (kH:(backTo pos (starEach es X.env)).any (·.1)=false:=by rfl)
  (Hi:swapsWith (.Call (.Name g p) (e::es) [] pos) none Di.line X.env=pure false:=by rfl) :
  PS X (.Try [.Expr (.Call (.Name g p) (e::es) [] pos) Di] [.ExceptHandler (some (.Name x np)) (some n) (b₀::lR) xZ] [] [] Bk) (OC sp C i t ts):=by
 intro pins s σ H D I h
 refine wpAny_Try_except (aeb (wpAny_Expr_any (Q:=fun f s₁=>match f with|.next=>wpAny (model X.prog X.w) X.A (execs [] X.env) _ _ s₁|f=>_) ?_ I.quiet Hi))
 refine ac6 (iM I XO XQ ?_ JA)
 refine W.callWith_K (h₀:=X.base) I.ok.mod.Ko XR (aav (ha pos pins s σ H _ (I.ow _) h) (fun us s1 ⟨vs,H1,I1,r,q⟩=>⟨I1.fT.kA,?_⟩) fun _ _ z=>z.elim) he kH
 have J:=I1.fT
 have hl:us.length=ps.length:=by rw[<- r.length];exact F.len _ _ _ _ q
 have yc:=hb s1 us J.kA (by rw[abi];exact hl)
 rw[abi] at yc
 refine acA (acI (F.run X.A X.stack s1 H1 ⟨us,[]⟩ us vs _ _ hr J.G0 yc r q) fun rr s' yd=>?_)
 cases rr with
 | error ex=>
  obtain⟨ea,cls,dx,B,H',rfl,Dn,dx',z7,yg,hh⟩:=yd
  cases z7
  subst yg
  exact Ds J Dn oQ hf hm hg Le hN hi hk (To ea) (fun o=>hh ea o Dn.he) tJ
 | ok fl=>
  cases fl with
  | ret u=>
   obtain⟨v,H2,I2,r2,q2⟩:=J.after yd
   exact ac5 (ac5 ⟨σ,H2,I2,q2⟩)
  | next=>exact False.elim yd
  | brk=>exact False.elim yd
  | cont=>exact False.elim yd
end
inductive Aa (K:Frag)(f:Str)(Q:VK)(x:V)(H1:Hp):Prop
 | mk:∀ e C dx fs v,(x=.ref e)->(Rd H1 e (.ext (iS C e dx)))->(H1 dx=some (.xd fs))->(mE K C f)->(fs.lookup f=some v)->(Q v H1)->Aa K f Q x H1
def Lf (K:Frag)(ta:TE)(f:Str):TE:=fun σ H Q=>ta σ H fun x H1=>Aa K f Q x H1
theorem Dt {X:Cx}{e:Expr}{f:Str}{pos:Pos}{ta:TE}(K:W.Frag)(he:PE X e ta)(hb:attributeBase e f X.env (eval e X.env)=eval e X.env:=by rfl)(hK:X.K=K:=by rfl):PE X (.Attribute e f pos) (Lf K ta f):=by
 subst hK
 intro pins s σ H Q I h
 refine GZ hb (dC (he pins s σ H _ I h) fun u s1 ⟨x,H1,I1,rx,ea,C,dx,fs,v,ex,h1,h2,T,l,q⟩=>?_)
 subst ex
 obtain rfl:u=Value.ref ea:=rx
 obtain⟨at_,_,_⟩:=h1.ok I1.bE
 obtain⟨mA,ns,r⟩:=(show bJ X.prog X.w H1 s1.heap dx (.xd fs) from I1.bE dx _ h2)
 obtain⟨u,hu,ru⟩:=xJ.some_of (v:=v) (o:=mA f) (by rw[<- l];exact r f)
 exact Bm I1.kA T at_ ns.ns hu (W.handedOut_of (Bb ru)) ⟨v,H1,I1.tok _,ru,q⟩
inductive Tr (K:W.Frag)(H:Hp):V->Value->Prop where
 | of {x:V}{t:Value} (h:RA K H x t):Tr K H x t
 | exc {e C dx:Addr} (T:jD K C) (h:Rd H e (.ext (iS C e dx))):Tr K H (.ref e) (.ref C)
inductive JC (K:W.Frag)(xs:List V)(H:Hp)(Q:VK):Prop
 | mk:∀ x c t b,(xs=[x,c])->(((∃ a,c=.ref a)\/∃ n,c=.ty n))->(Tr K H x t)->(W.kitOne K t (valOf c)=some b)->(Q (.bl b) H)->JC K xs H Q
theorem Br {X:Cx}{K:W.Frag}(hK:X.K=K):ff X (.builtin "isinstance") (JC K):=by
 subst hK
 intro pins s σ H xs us Q I rv h
 obtain⟨x,c,t,b,rfl,hc,ty,e,q⟩:=h
 cases ty with
 | of ty=>exact jE pins s σ H _ us Q I rv ⟨x,c,t,b,rfl,hc,ty,e,q⟩
 | @exc ea C dx T he=>
  obtain⟨u,uc,rfl,ru,rc⟩:=rv.two
  have S5:uc=valOf c:=by
   rcases hc with ⟨a,rfl⟩|⟨n,rfl⟩
   ·exact rc
   ·exact rc
  subst S5
  have S7:u=Value.ref ea:=ru
  subst S7
  obtain⟨p,_,_⟩:=he.ok I.bE
  exact acJ (vS T) I.kA p.exc e (fun z=>nomatch z) fun tk=>⟨.bl b,H,I.tok tk,rfl,q⟩
theorem yh {X:Cx}{P:Program}{w:World}:Passes (XD P w) X E0:=by
 rintro pins σ H s e s' I ⟨ea,cls,dx,B,H',rfl,x,hE⟩
 exact hE.elim
section
variable {P:Program}{w:World}{K:W.Frag}{mg:Str->Option Value}{base:Heap}{N:List Str}{qual:Str}{scope:Scope}{f:Addr}{cd:Value}{A:Around}{outer:List Env}{s0:Shared}{H0:Hp}{E:XK}{CX CX':xF}{st:Stmt}{t:TS}
end
section
variable {M:Model}{A:Around}{E:Value->Shared->Prop}
variable {nm q XF q':Str}{C N D N':Addr}{bs bm XG XH:List Value}{hdct OA:Bool}{sn XI:List Str}{sub Ti:List Value}{ab XJ:Bool}{col Tj:Option Bool}{dd XM:Option Addr}{k0 k1 k2 k3 k5 j0 j1 j2 j3 j5:Option Value}{newId Ld:String}
end
section
variable {X:Cx}{pins:List (Addr × Obj)}{σ:St}{H H':Hp}{s s':Shared}{cls a0:Value}{ea C:Addr}{B h':Heap}{t':Nat}
end
section
variable {X:Cx}{k:Nat}{f C1 C2 fI:Addr}{fd:FuncData}{ps:List Str}{sp:Sp}{g x1 x2 n y:Str}{p pos Bk VU VV RF VW yp ap:Pos}{e:Expr}{es:List Expr}{t:TA}{ts1 ts2:TS}{b1 b2:Stmt}{su1 su2:List Stmt}{i iy:Nat}
end
end L2
namespace L2
open PySem PySem.Spec PyProof.Rows
theorem Lg {P:List Value->Prop}(h:∀ a0:Value,P [a0]):∀ us:List Value,us.length=1->P us:=fun us hl=>match us,hl with|[a0],_=>h a0
theorem Hj {P:List Value->Prop}(h:∀ a0 a1:Value,P [a0,a1]):∀ us:List Value,us.length=2->P us:=fun us hl=>match us,hl with|[a0,a1],_=>h a0 a1
theorem Lh {P:List Value->Prop}(h:∀ a0 a1 a2:Value,P [a0,a1,a2]):∀ us:List Value,us.length=3->P us:=fun us hl=>match us,hl with|[a0,a1,a2],_=>h a0 a1 a2
def Li (x:Str)(st:Stmt)(ps:List Str):Prop:=∀ (kV doc pm:Value) (an:Option Addr) (bh ct:Value) (us:List Value),us.length=ps.length->bindArgs (W.fnOf x x (gL st) (cX st) (aw st) .none kV doc pm an bh ct) ⟨us,[]⟩=pure (ps.zip us)
inductive Fn (K:W.Frag)(mg:Str->Option Value)(x:Str)(st:Stmt):Prop
 | mk:∀ (f:Addr) (fd:FuncData),CB K x x st f fd->mg x=some (.ref f)->Fn K mg x st
section
variable {P:Program}{w:World}{K:W.Frag}{mg:Str->Option Value}{base:Heap}{x:Str}{st:Stmt}{N ps:List Str}{k:Nat}{sp:Sp}
theorem XS {h:Heap}{f:Addr}{oc:Value}{od an:Option Addr}{vM:Array (Option Value)}{kV doc pm bh ct:Value}(X:K.In h)(G:h.Ns mainGlobals mg)(a:W.nsIn K mainGlobals x=some (some (.ref f)))
  (l:K.lookup f=some ⟨oc,od,.func (W.fnOf x x (gL st) (cX st) (aw st) .none kV doc pm an bh ct),vM⟩) (c:W.codeIn K bh x=true) (k:W.keepIn K (.ref f)=true):Fn K mg x st:=⟨f,_,Dd l c k,aeu X G a⟩
theorem Fn.ok (F:Fn K mg x st)(S:ay N ps (aw st))
  (fW:∀ (f:Addr) (bh:Value) (A:Around) (outer:List Env) (s:Shared) (H:Hp) (vs:List V) (Q:VK) (E:XK),eL k (A.deeper (envOfC x (aw st) s.heap.objs.size f bh))->sp vs H Q E ->
   ∃ t,oO (fV aU P w K mg base N x (aw st) f bh A outer s H E).tG (cX st) t/\t { nx:=fun _ H'=>Q .eI H',rt:=Q } (start N vs) H) (len:∀ vs H Q E,sp vs H Q E->vs.length=ps.length:=by (intro vs H Q E h;cases h;subst_vars;rfl)) (B:Li x st ps:=by first|exact fun _ _ _ _ _ _=>Lg fun _=>rfl|exact fun _ _ _ _ _ _=>Hj fun _ _=>rfl|exact fun _ _ _ _ _ _=>Lh fun _ _ _=>rfl|exact fun _ _ _ _ _ _=>OD rfl|exact fun _ _ _ _ _ _=>OE fun _ _ _ _=>rfl|exact fun _ _ _ _ _ _=>OF fun _ _ _ _ _=>rfl):aV P w K mg base aU (k+1) x ps sp:=by
 obtain⟨f,fd,F,m⟩:=F
 exact⟨f,fd,F.ok S len (fW f),F.binds B,F.kp,m⟩
theorem Fn.K9 (F:Fn K mg x st)(S:ay N ps (aw st))
  (fW:∀ (f:Addr) (bh:Value) (A:Around) (outer:List Env) (s:Shared) (H:Hp) (vs:List V) (Q:VK) (E:XK),eL k (A.deeper (envOfC x (aw st) s.heap.objs.size f bh))->sp vs H Q E ->
   ∃ t,oO (fV (XD P w) P w K mg base N x (aw st) f bh A outer s H E) (cX st) t/\t { nx:=fun _ H'=>Q .eI H',rt:=Q } (start N vs) H) (len:∀ vs H Q E,sp vs H Q E->vs.length=ps.length:=by (intro vs H Q E h;cases h;subst_vars;rfl)) (B:Li x st ps:=by first|exact fun _ _ _ _ _ _=>Lg fun _=>rfl|exact fun _ _ _ _ _ _=>Hj fun _ _=>rfl|exact fun _ _ _ _ _ _=>Lh fun _ _ _=>rfl|exact fun _ _ _ _ _ _=>OD rfl|exact fun _ _ _ _ _ _=>OE fun _ _ _ _=>rfl|exact fun _ _ _ _ _ _=>OF fun _ _ _ _ _=>rfl):aV P w K mg base (XD P w) (k+1) x ps sp:=by
 obtain⟨f,fd,F,m⟩:=F
 exact⟨f,fd,F.K9 S len (fW f),F.binds B,F.kp,m⟩
theorem Fn.Np (F:Fn K mg x st)(S:ay N ps (aw st))
  (fW:∀ (f:Addr) (bh:Value) (A:Around) (outer:List Env) (s:Shared) (H:Hp) (fz:List (Addr × Obj × HO)) (vs:List V) (Q:VK) (E:XK),fB k (A.deeper (envOfC x (aw st) s.heap.objs.size f bh))->sp vs H Q E ->
   ∃ t,oO (Nm P w K mg base N x (aw st) f bh A outer s H fz) (cX st) t/\t { nx:=fun _ H'=>Q .eI H',rt:=Q } (start N vs) H) (len:∀ vs H Q E,sp vs H Q E->vs.length=ps.length:=by (intro vs H Q E h;cases h;subst_vars;rfl)) (B:Li x st ps:=by first|exact fun _ _ _ _ _ _=>Lg fun _=>rfl|exact fun _ _ _ _ _ _=>Hj fun _ _=>rfl|exact fun _ _ _ _ _ _=>Lh fun _ _ _=>rfl|exact fun _ _ _ _ _ _=>OD rfl|exact fun _ _ _ _ _ _=>OE fun _ _ _ _=>rfl|exact fun _ _ _ _ _ _=>OF fun _ _ _ _ _=>rfl):oB P w K mg base (k+1) x ps sp:=by
 obtain⟨f,fd,F,m⟩:=F
 exact⟨f,fd,F.Np S len (fW f),F.binds B,F.kp,m⟩
end
section
variable {X:Cx}{CX:xF}{k n:Nat}{x:Str}{ps:List Str}{sp:Sp}{e:Expr}{es:List Expr}{t:TA}{E:XK}{p pos:Pos}
theorem aq (F:aV X.prog X.w X.K X.mg X.base CX k x ps sp)(hr:eL n X.A)(hx:Passes CX X E)(ha:PA X (e::es) t)(le:k<=n:=by decide)(hg:Gl X x:=by rfl)
  (tJ:(x==("__debug__":Str))=false:=by decide) (he:starEach (e::es) X.env=(false,eval e X.env)::starEach es X.env:=by rfl) (kH:(backTo pos (starEach es X.env)).any (·.1)=false:=by rfl) :
  PE X (.Call (.Name x p) (e::es) [] pos) (zK sp [] E t):=by
 obtain⟨f,fd,G,b,kk,m⟩:=F
 exact G4 G (hr.mono le) hg m kk b .nil hx ha tJ he kH
theorem iC (F:oB X.prog X.w X.K X.mg X.base k x ps sp)(hr:fB n X.A)(ha:PA X (e::es) t)(hc:X.bq=true:=by rfl)(le:k<=n:=by decide)(hg:Gl X x:=by rfl)
  (tJ:(x==("__debug__":Str))=false:=by decide) (he:starEach (e::es) X.env=(false,eval e X.env)::starEach es X.env:=by rfl) (kH:(backTo pos (starEach es X.env)).any (·.1)=false:=by rfl) :
  PE X (.Call (.Name x p) (e::es) [] pos) (zK sp [] E0 t):=by
 obtain⟨f,fd,G,b,kk,m⟩:=F
 exact Dq G (hr.mono le) hc hg m kk b .nil ha tJ he kH
theorem aO {r:R2}{a b:Expr}{ta tb:TE}(hr:Bf X r)(ha:PE X a ta)(hb:PE X b tb)(hs:zU b:=by exact fun _ _=>rfl):PE X (.Subscript a b pos) (N8 r ta tb):=Oe hr ha hb hs
theorem bQ {i:Nat}{x:Str}{e:Expr}{te:TE}{pos':Pos}(hN:X.N.Nodup)(he:PE X e te)(hi:X.N[i]?=some x:=by rfl)(hx:Loc X.env.scope x:=by first|exact Or.inl rfl|exact Or.inr rfl)(hs:swapsWith e (some (.Name x pos')) pos.line X.env=pure false:=by rfl)
  (hf:X.fn x=true\/X.env.scope.names.lookup x=some .local:=by first|exact .inl rfl|exact .inr rfl):PS X (.Assign [.Name x pos'] e pos) (Ky te (jB i)):=Kz hN hi hx he hs hf
theorem eO {i:Nat}{x:Str}(hN:X.N.Nodup)(hi:X.N[i]?=some x:=by rfl)(hx:Loc X.env.scope x:=by first|exact Or.inl rfl|exact Or.inr rfl)(hf:X.fn x=true\/X.env.scope.names.lookup x=some .local:=by first|exact .inl rfl|exact .inr rfl):PG X (.Name x pos) (jB i):=gJ hN hi hx hf
end
theorem a8 (K:W.Frag){X:Cx}(e:X.K=K:=by rfl):Bf X (Ha K):=e▸C5
theorem gF (K:W.Frag){X:Cx}(e:X.K=K:=by rfl):Bf X (G9 K):=e▸zV
theorem JD (K:W.Frag){X:Cx}(e:X.K=K:=by rfl):Bf X (SO K):=e▸K1
theorem Bs (K:W.Frag){X:Cx}{tg l:Expr}{tl:TE}(hl:PE X l tl)(e:X.K=K:=by rfl):PI X tg l (N6 K tl):=e▸KC hl
theorem xH (K:W.Frag){X:Cx}{tg l:Expr}{tl:TE}(hl:PE X l tl)(e:X.K=K:=by rfl):PI X tg l (Jt K tl):=e▸GW hl
theorem GI (K:W.Frag){X:Cx}{es:List Expr}{k n:Nat}{t:GU}{pos:Pos}(h:Nh X es t)(e:X.K=K:=by rfl)(hc:X.bq=true:=by rfl)(hn:(assignEach es X.env).length=n:=by rfl)(oQ:(assignEach es X.env).findIdx? (·.1)=none:=by rfl):PG X (.Tuple es k pos) (CN K n t):=e▸xM hc h hn oQ
theorem OG (K:W.Frag){X:Cx}(e:X.K=K:=by rfl):mz X (binaryOp .Add) (C4 K):=e▸G8
theorem VX (K:W.Frag){X:Cx}(e:X.K=K:=by rfl):SN X (KU K):=e▸KW
theorem ay.of {N P:List Str}{sc:Scope}(h1:sc.kind=.function:=by rfl)(h2:sc.isCoroutine=false:=by rfl)(h3:sc.isGenerator=false:=by rfl)(h4:N.Nodup:=by decide +kernel)(h5:N.take P.length=P:=by rfl)
  (h6:∀ x∈P,sc.names.lookup x=some .local\/sc.names.lookup x=some .cell:=by decide +kernel) (h7:∀ y∈sc.names,y.2≠.free:=by decide +kernel):ay N P sc:=⟨h1,h2,h3,h4,h5,h6,h7⟩
theorem cz (n:Nat)(h:n<=1000:=by decide):n<=sizeLine:=aag h (by decide)
theorem sC (n:Nat)(h:n<=1000:=by decide):n<sizeLine:=abv h (by decide)
def kI (X:Cx)(N:List Str)(scope:Scope)(cl:List (Str × Addr))(C:Addr)(s0:Shared)(H0:Hp)(fp:List Addr)(pins:List (Addr × Obj)):Cx:=
 { X with N:=N,s₀:=s0,H₀:=H0,env:=compEnvC scope cl C X.env,outer:=X.stack,ex:=fp,fn:=fun _=>false,pn:=X.pn++pins,xe:=fun _ _=>False }
structure aI (X:Cx)(N:List Str)(fr:List Nat)(x:Str)(scope:Scope)(cl:List (Str × Addr)):Prop where
 kind:scope.kind=.function
 fX:∀ y∈scope.names,y.2≠.cell
 loc:∀ y∈scope.names,y.2=.local->scope.names.lookup y.1=some .local
 own:scope.names.lookup x=some .local
 kW:closureFor scope X.env=pure cl
 sub:∀ y c,cl.lookup y=some c->X.env.cells.lookup y=some c
 has:∀ y,((relabel scope X.env).names.lookup y=some .cell\/(relabel scope X.env).names.lookup y=some .free)->∃ c,cl.lookup y=some c
 nd:N.Nodup
 hN:N[0]?=some x
 len:N.length=fr.length+1
 iT:∀ (j:Nat) (y:Str),N[j+1]?=some y->(relabel scope X.env).names.lookup y≠some .local
 out:∀ (j k:Nat),fr[j]?=some k->∃ y,N[j+1]?=some y/\X.N[k]?=some y/\X.env.kindOf y=some .cell
def c9 (σ:St)(fr:List Nat)(v:Option V):St:=v::fr.map fun k=>(σ[k]?).join
def OH (wi:TI)(fr:List Nat)(te:TE):TE:=fun σ H Q=>wi σ H fun J H1=>∀ acc,H1 acc=none->∃ W:Nat->Nat->Hp->List V->Prop,(∃ m,W 0 m (upd H1 acc (.lst [])) []) /\
 ∀ i m H' vs,W i m H' vs->H' acc=some (.lst vs)/\((J.stop i H'/\Q (.ref acc) H')\/(J.go i H'/\vs.length<sizeLine/\∀ x H2,J.xE i H' x H2->te (c9 σ fr (some x)) H2 fun y H3=>H3 acc=some (.lst vs)/\∃ m',m'<m/\W (i+1) m' (upd H3 acc (.lst (vs++[y]))) (vs++[y])))
def Ab (wi:TI)(fr:List Nat)(tc:TT)(te:TE):TE:=fun σ H Q=>wi σ H fun J H1=>∀ acc,H1 acc=none->∃ W:Nat->Nat->Hp->List V->Prop,(∃ m,W 0 m (upd H1 acc (.lst [])) []) /\
 ∀ i m H' vs,W i m H' vs->H' acc=some (.lst vs)/\((J.stop i H'/\Q (.ref acc) H')\/(J.go i H'/\vs.length<sizeLine/\∀ x H2,J.xE i H' x H2->tc (c9 σ fr (some x)) H2 fun b H3=>
  if b=true then te (c9 σ fr (some x)) H3 fun y H4=>H4 acc=some (.lst vs)/\∃ m',m'<m/\W (i+1) m' (upd H4 acc (.lst (vs++[y]))) (vs++[y]) else ∃ m',m'<m/\W (i+1) m' H3 vs))
section
variable {X:Cx}{N:List Str}{fr:List Nat}{x:Str}{scope:Scope}{cl:List (Str × Addr)}{elt iter:Expr}{px pos:Pos}{wi:TI}{te:TE}
theorem Lj (S:aI X N fr x scope cl)(I:Inv X pins σ H s)(hf:∀ b∈fp,fh X pins H b)(hC:s.heap.objs.size<=C)(jF:∀ b∈fp,b<s.heap.objs.size):(kI X N scope cl C s H fp pins).Ok where
 mod:=I.ok.mod
 kind:=S.kind
 glob:=I.ok.glob
 blt:=I.ok.blt
 above:=hC
 inj:=fun y z c h1 h2=>I.ok.inj y z c (S.sub _ _ h1) (S.sub _ _ h2)
 has:=fun y h=>S.has y h
 Cz:=fun y c h=>by cases h
 hd:=I.ok.hd
 hs:=I.ok.hs
 frames:=I.ok.frames
 xK:=.inl rfl
 GS:=fun b hb=>⟨aal (aak (jF b hb) hC),fun y c h=>(hf b hb).2.2.2.2.1 y c (S.sub _ _ h)⟩
 bs:=fun b o e=>I.bs b o e
 pF:=aag I.ok.pF I.sz
 kO:=fun b o e hb=>by
  rcases (hf b hb).2.2.2.1 with z|z
  ·exact I.ok.kO b o e z
  ·exact absurd (aak (aae e) (aag I.ok.pF z)) (abo _)
 pG:=fun b hb z=>by
  rcases aaf.mp (I.dJ b z) with e|e
  ·exact (hf b hb).2.1 e
  ·exact (hf b hb).2.2.1 e
 iu:=I.stack
 r9:=I.kf
theorem Bt (S:aI X N fr x scope cl)(I:Inv X pins σ H s)(hf:∀ b∈fp,fh X pins H b)(hC:s.heap.objs.size<=C)(jF:∀ b∈fp,b<s.heap.objs.size)
  (hn:s4.heap.Ns C m) (hk:∀ b o,s.heap.get? b=some o->s4.heap.get? b=some o) (ho:s4.os=s.os) (hg:s4.gens=s.gens):Inv (kI X N scope cl C s H fp pins) [] (c9 σ fr none) H s4:=by
 obtain⟨m0,Ts,hl⟩:=id I.loc
 refine⟨Lj S I hf hC jF,I.vC,ho,by rw[hg];exact I.bare,Un.kept hk,⟨m,hn,fun i y v e1 e2 e3=>?_⟩,fun y c h=>?_,I.bE.fresh hC,fun y c h=>I.dY y c (S.sub _ _ h),fun p hp=>?_,I.bE.kept hk,?_⟩
 ·cases i with
  | zero=>cases e2
  | succ j=>
   have pU:(fr.map fun k=>(σ[k]?).join)[j]?=some (some v):=e2
   rw[aaB] at pU
   cases ek:fr[j]? with
   | none=>rw[ek] at pU;cases pU
   | some k=>
    rw[ek] at pU
    have e4:(σ[k]?).join=some v:=aac pU
    obtain⟨y',h1,h2,h3⟩:=S.out j k ek
    have Lk:N[j+1]?=some y:=e1
    obtain rfl:y'=y:=aac (h1.symm.trans Lk)
    have e5:σ[k]?=some (some v):=by
     cases q:σ[k]? with
     | none=>rw[q] at e4;cases e4
     | some w=>rw[q] at e4;exact aa2 some e4
    obtain⟨u,r,lk⟩:=hl k y' v h2 e5 (.inr (.inl h3))
    refine⟨u,r,.inr ?_⟩
    rcases lk with ⟨z,_⟩|⟨_,c,hc,kE⟩
    ·rw[h3] at z;cases z
    ·have e6:Kp (relabel scope X.env) y':=e3
     have Du:(relabel scope X.env).names.lookup y'=some .cell\/(relabel scope X.env).names.lookup y'=some .free:=by
      rcases e6 with e6|e6|e6
      ·exfalso
       have nd:=S.nd
       -- a name of tD tS own is tD first one
       exact S.iT _ _ h1 e6
      ·exact .inl e6
      ·exact .inr e6
     obtain⟨c2,zM⟩:=S.has y' Du
     have:=S.sub _ _ zM
     rw[hc] at this;cases this
     obtain⟨o,z1,z2⟩:=kE
     exact⟨Du,c,zM,o,hk _ _ z1,z2⟩
 ·obtain⟨v,o,z1,z2⟩:=I.cell y c (S.sub _ _ h)
  exact⟨v,o,hk _ _ z1,z2⟩
 ·rw[abi] at hp
  obtain⟨e,k,ne,nf,d⟩:=I.pin p hp
  refine⟨hk _ _ e,k,aal (aak (aae e) hC),fun z=>?_,d⟩
  rcases aaf.mp (I.dJ _ z) with q|q
  ·exact ne q
  ·exact nf q
 ·show (c9 σ fr none).length=N.length
  rw[S.len]
  simp[c9]
theorem tT (I:Inv X pins σ H s)(hf:∀ b∈fp,fh X pins H b)(hC:s.heap.objs.size<=C)(J:Inv (kI X N scope cl C s H fp pins) [] σ' H' s')(hs:Heap.SameBut C s'.heap h') :
  Inv X pins σ H' { s' with heap:=h' }:=by
 have ne:∀ b o,s.heap.get? b=some o->b≠C:=fun b o e=>aal (aak (aae e) hC)
 have u:Un (gI X.stack) fp H H' s.heap s'.heap:=J.base
 have u2:Un (gI X.stack) fp H H' s.heap h':=⟨fun b o e n hb hx=>(hs.2 b (ne b o e)).trans (u.keep b o e n hb hx),fun b o e n hb hx=>(by
   obtain⟨sl,q⟩:=u.slot b o e n hb hx
   exact⟨sl,(hs.2 b (ne b o e)).trans q⟩),u.free,fun b o e hx=>(by
   obtain⟨o',q⟩:=u.there b o e hx
   exact⟨o',(hs.2 b (ne b o e)).trans q⟩),u.iq,u.gC,u.ir⟩
 have nC:H' C=none:=J.free
 refine I.nM (s':={ s' with heap:=h' }) (ch:=fp) J.os u2 (J.bE.iQ fun b o hb q=>(hs.2 b fun z=>hb (z▸nC)).trans q) J.bare fun b hb=>?_
 obtain⟨_,f2,_,f4,f5,f6⟩:=hf b hb
 exact⟨f4,f2,f5,f6⟩
def JE (X:Cx)(ifs:List Expr)(t:TT):Prop:=
 ∀ (pins:List (Addr × Obj)) (s:Shared) (σ:St) (H:Hp) (Q:Bool->Hp->Prop),Inv X pins σ H s->t σ H Q->wpAny (model X.prog X.w) X.A (forIn ifs true fun c r=>if r=true then do let ok <- PySem.isTrue c X.env (eval c X.env);pure (ForInStep.yield ok) else pure (ForInStep.yield r)) (TP X pins σ Q) X.xe s
theorem Ac (h:PT X c t):JE X [c] t:=fun pins s σ H Q I q=>wpAny_tests_one (h pins s σ H Q I q)
theorem ki:JE X [] (fun _ H Q=>Q true H):=fun pins s σ H Q I q=>by
 show wpAny _ _ (pure true) _ _ _
 exact aad ⟨H,I,q⟩
theorem mF {use:Option (Value->Sem Unit)}(hc:X.bq=true)(S:aI X N fr x scope cl)(hi:PI X (.Name x px) iter wi)
  (ht:∀ (C:Addr) (s0:Shared) (H0:Hp) (fp:List Addr) (pins:List (Addr × Obj)),JE (kI X N scope cl C s0 H0 fp pins) ifs tc) (he:∀ (C:Addr) (s0:Shared) (H0:Hp) (fp:List Addr) (pins:List (Addr × Obj)),PE (kI X N scope cl C s0 H0 fp pins) elt te)
  (hs:∀ y,foldedSetIterable iter X.env y=pure y) (I:Inv X pins σ H s) (h:Ab wi fr tc te σ H Q)
  (fin:∀ (acc C:Addr) (m:Str->Option Value) (H6:Hp) (s7:Shared),Q (.ref acc) H6->s7.heap.Ns C m->(∀ h':Heap,Heap.SameBut C s7.heap h'->Inv X pins σ H6 { s7 with heap:=h' })->H6 C=none->X.env.locals≠C->(∀ z c,X.env.cells.lookup z=some c->c≠C)->(∀ p∈X.pn++pins,p.1≠C)->X.s₀.heap.objs.size<=C->compPost (model X.prog X.w) X.A X.xe use R (.ref acc) C (.ok .next) s7) :
  wpAny (model X.prog X.w) X.A (comprehension (.ListComp elt [⟨.Name x px,iter,ifs,0⟩] scope pos) scope X.env ep (newList []) false (eval iter X.env) use) R X.xe s:=by
 refine ac2 (use:=use) rfl hs S.kW S.kind S.loc (dC (hi pins s σ H _ I h) fun v s1 h1=>dC h1 fun Ni s2 h2=>?_)
 obtain⟨it,fp,tn,J,H2,e,I2,T,vK,f2,hW⟩:=h2
 subst e
 have jF:∀ b∈fp,b<s2.heap.objs.size:=fun b hb=>by
  obtain⟨o,q,_⟩:=T.obj _ _ vK b hb
  exact aae q
 have Dw:H2 s2.heap.objs.size=none:=I2.bE.fresh (aai _)
 refine aa1 ?_
 have jG:∀ b o,s2.heap.get? b=some o->(s2.heap.push { cls:=.type "list",dict:=none,data:=.seq ([]:List Value).toArray }).get? b=some o:=fun b o q=>aab _ q
 have I3:Inv X pins σ (upd H2 s2.heap.objs.size (.lst [])) { s2 with heap:=s2.heap.push { cls:=.type "list",dict:=none,data:=.seq ([]:List Value).toArray } }:=
  I2.laid (t':=s2.toks) jG (aai _) ⟨abd _,[],0,.nil,aap _ rfl⟩
 obtain⟨W,⟨m0,w0⟩,turn⟩:=hW s2.heap.objs.size Dw
 have f3:∀ b∈fp,fh X pins (upd H2 s2.heap.objs.size (.lst [])) b:=fun b hb=>⟨by rw[aH (aal (jF b hb))];exact (f2 b hb).1,(f2 b hb).2⟩
 refine aem S.fX (by intro y hy;simp at hy) (fun h4 GF OI=>?_) S.kind
 have oC:∀ b∈fp,b<(s2.heap.push { cls:=.type "list",dict:=none,data:=.seq ([]:List Value).toArray }).objs.size:=fun b hb=>by
  rw[aax]
  exact aaM (jF b hb)
 have jH:∀ b o,(s2.heap.push { cls:=.type "list",dict:=none,data:=.seq ([]:List Value).toArray }).get? b=some o->h4.get? b=some o:=fun b o q=>
  (OI.2 b (aal (aae q))).trans (aab _ q)
 have I4:Inv (kI X N scope cl (s2.heap.push { cls:=.type "list",dict:=none,data:=.seq ([]:List Value).toArray }).objs.size { s2 with heap:=s2.heap.push { cls:=.type "list",dict:=none,data:=.seq ([]:List Value).toArray } } (upd H2 s2.heap.objs.size (.lst [])) fp pins) [] (c9 σ fr none) (upd H2 s2.heap.objs.size (.lst []))
   { s2 with heap:=h4,toks:=s2.toks+([]:List (Str × Value)).length }:=Bt S I3 f3 (aai _) oC GF jH rfl rfl
 have Dx:tn 0 h4:=T.keep _ _ _ vK fun b hb o q=>jH b o (jG b o q)
 generalize hY:kI X N scope cl (s2.heap.push { cls:=.type "list",dict:=none,data:=.seq ([]:List Value).toArray }).objs.size { s2 with heap:=s2.heap.push { cls:=.type "list",dict:=none,data:=.seq ([]:List Value).toArray } } (upd H2 s2.heap.objs.size (.lst [])) fp pins=Y at I4
 have vE:PE Y elt te:=hY▸he _ _ _ _ _
 have Dy:JE Y ifs tc:=hY▸ht _ _ _ _ _
 have eA:Y.A=X.A:=by rw[<- hY];rfl
 have eP:Y.prog=X.prog:=by rw[<- hY];rfl
 have ew:Y.w=X.w:=by rw[<- hY];rfl
 have eK:Y.K=X.K:=by rw[<- hY];rfl
 have eC:Y.bq=true:=by rw[<- hY];exact hc
 have eE:Y.env=compEnvC scope cl (s2.heap.push { cls:=.type "list",dict:=none,data:=.seq ([]:List Value).toArray }).objs.size X.env:=by rw[<- hY];rfl
 have eX:Y.xe=fun _ _=>False:=by rw[<- hY];rfl
 have hg:PG Y (.Name x px) (jB 0):=by
  subst hY
  exact gJ (i:=0) S.nd S.hN (.inl (abf S.own)) (.inr (abf S.own))
 have fY:∀ {H':Hp},(∀ b∈fp,H' b=none)->∀ b∈fp,fh Y [] H' b:=fun {H'} hn b hb=>by
  subst hY
  obtain⟨_,g2,g3,g4,g5,g6⟩:=f3 b hb
  refine⟨hn b hb,aal (oC b hb),fun z=>?_,.inl hb,fun y c q=>g5 y c (S.sub _ _ q),fun p hp=>?_⟩
  ·rcases aaf.mp (I3.dJ b z) with q|q
   ·exact g2 q
   ·exact g3 q
  ·rw[abi] at hp
   exact g6 p hp
 have loop:∀ s5:Shared,s5={ s2 with heap:=h4,toks:=s2.toks+([]:List (Str × Value)).length } ->
   codeAny (model X.prog X.w) X.A (.compLoop (.ListComp elt [⟨.Name x px,iter,ifs,0⟩] scope pos) 0 (.ref it) (.ref s2.heap.objs.size) (compEnvC scope cl (s2.heap.push { cls:=.type "list",dict:=none,data:=.seq ([]:List Value).toArray }).objs.size X.env))
    (compPost (model X.prog X.w) X.A X.xe use R (.ref s2.heap.objs.size) (s2.heap.push { cls:=.type "list",dict:=none,data:=.seq ([]:List Value).toArray }).objs.size) s5:=by
  rintro s5 rfl
  refine codeAny_compLoop_tests (fun n s'=>∃ i v H' vs,Inv Y [] (c9 σ fr v) H' s'/\tn i s'.heap/\(∀ b∈fp,H' b=none)/\W i n H' vs) ?_ m0 ⟨0,none,_,[],I4,Dx,fun b hb=>(f3 b hb).1,w0⟩
  rintro n s6 ⟨i,v6,H6,vs,I6,Dz,DB,w6⟩
  obtain⟨aT,DC⟩:=turn i n H6 vs w6
  rcases DC with ⟨stop,qn⟩|⟨go,hz,step⟩
  ·have hd:=T.done Y eP ew eK eC i [] s6 _ H6 (fun _ _=>False) I6 (fY DB) Dz stop
   rw[eA] at hd
   refine aav hd (fun r s7 ⟨hr,I7⟩=>?_) fun _ _ z=>z.elim
   subst hr
   obtain⟨m,hn,_⟩:=id I7.loc
   rw[eE] at hn
   have eQ:∀ h':Heap,Heap.SameBut (s2.heap.push { cls:=.type "list",dict:=none,data:=.seq ([]:List Value).toArray }).objs.size s7.heap h'->Inv X pins σ H6 { s7 with heap:=h' }:=fun h' fF=>by
    subst hY
    exact tT I3 f3 (aai _) I7 fF
   have cf:H6 (s2.heap.push { cls:=.type "list",dict:=none,data:=.seq ([]:List Value).toArray }).objs.size=none:=by
    subst hY
    exact I7.free
   have big:∀ b o,s2.heap.get? b=some o->b≠(s2.heap.push { cls:=.type "list",dict:=none,data:=.seq ([]:List Value).toArray }).objs.size:=fun b o q=>aal (by rw[aax];exact aaM (aae q))
   obtain⟨m2,He,_⟩:=id I2.loc
   obtain⟨oL,_,_,zD,_⟩:=id He
   exact fin _ _ m H6 s7 qn hn eQ cf (big _ _ zD) (fun z c q=>by
    obtain⟨_,o,w1,_⟩:=I2.cell z c q
    exact big _ _ w1) (fun p hp=>by
    obtain⟨e,_⟩:=I2.pin p hp
    exact big _ _ e) (by
    rw[aax]
    exact acC (aag (aai _) I2.sz))
  ·have hd:=T.item Y eP ew eK eC i [] s6 _ H6 (fun _ _=>False) I6 (fY DB) Dz go
   rw[eA] at hd
   refine aav hd (fun r s7 ⟨u,hr,h7⟩=>?_) fun _ _ z=>z.elim
   subst hr
   show wpAny _ _ ((pure ():Sem Unit) >>= fun _=>assign (.Name x px) _ u) _ _ s7
   refine aaa (aav h7 (fun _ s8 ⟨y,H8,I8,r8,y8,rO,Ll⟩=>?_) fun _ _ z=>z.elim)
   have Ln:=I8.pinned (fY Ll) (T.obj _ _ rO)
   have h9:=hg _ s8 _ H8 y u (fun σ9 H9=>σ9=c9 σ fr (some y)/\H9=H8) Ln r8 ⟨rfl,rfl⟩
   rw[eA,eP,ew,eE,eX] at h9
   refine aav h9 (fun _ s9 ⟨σ9,H9,I9,e9,Lo⟩=>?_) fun _ _ z=>z.elim
   subst e9 Lo
   have vY:=Dy _ s9 _ _ _ I9 (step y _ y8)
   rw[eA,eP,ew,eE,eX] at vY
   refine aav vY (fun ok OJ ⟨VY,Ad,Ae⟩=>?_) fun _ _ z=>z.elim
   cases ok with
   | false=>
    rw[aar aaj] at Ae
    rw[aar aaj]
    obtain⟨m',hm,mG⟩:=Ae
    refine⟨m',hm,i+1,some y,_,vs,Ad.dM,T.keep _ _ _ rO fun b hb o q=>(Ad.pin (b,o) (aam _ (aam _ (aW hb q)))).1,fun b hb=>?_,mG⟩
    obtain⟨o,q,_⟩:=T.obj _ _ rO b hb
    exact (Ad.pin (b,o) (aam _ (aam _ (aW hb q)))).2.1
   | true=>
   rw[aaz rfl] at Ae
   rw[aaz rfl]
   have DD:=vE _ OJ _ _ _ Ad Ae
   rw[eA,eP,ew,eE,eX] at DD
   refine aav DD (fun Lp Bu ⟨tU,Bv,Lq,GJ,Lr,m',hm,mG⟩=>?_) fun _ _ z=>z.elim
   have DE:=dQ _ Bu _ Bv (.ref s2.heap.objs.size) [tU] (.ref s2.heap.objs.size) [Lp] (fun _ Af=>Af=upd Bv s2.heap.objs.size (.lst (vs++[tU]))) Lq rfl (.cons GJ .nil) ⟨_,vs,tU,rfl,rfl,Lr,hz,rfl⟩
   rw[eA,eP,ew,eX] at DE
   refine aav DE (fun _ Tt ⟨_,Af,yi,_,Ls⟩=>?_) fun _ _ z=>z.elim
   subst Ls
   refine⟨m',hm,i+1,some y,_,vs++[tU],yi.dM,T.keep _ _ _ rO fun b hb o q=>(yi.pin (b,o) (aam _ (aam _ (aW hb q)))).1,fun b hb=>?_,mG⟩
   obtain⟨o,q,_⟩:=T.obj _ _ rO b hb
   exact (yi.pin (b,o) (aam _ (aam _ (aW hb q)))).2.1
 exact ade (loop _ rfl) (T.self _ 0 _ _ _ Dx (loop _ rfl))
theorem Hk (hc:X.bq=true)(S:aI X N fr x scope cl)(hi:PI X (.Name x px) iter wi)(he:∀ (C:Addr) (s0:Shared) (H0:Hp) (fp:List Addr) (pins:List (Addr × Obj)),PE (kI X N scope cl C s0 H0 fp pins) elt te)
  (hs:∀ y,foldedSetIterable iter X.env y=pure y:=by intro _;rfl):PE X (.ListComp elt [⟨.Name x px,iter,[],0⟩] scope pos) (OH wi fr te):=by
 intro pins s σ H Q I h
 rw[ady]
 exact mF (tc:=fun _ H Q=>Q true H) (use:=none) hc S hi (fun _ _ _ _ _=>ki) he hs I h fun acc C m H6 s7 qn hn eQ _ _ _ _ _=>⟨m,hn,fun h' fF=>⟨.ref acc,H6,eQ h' fF,rfl,qn⟩⟩
end
theorem lW {X:Cx}(hc:X.bq=true):ff X (.builtin "all") (fun xs H Q=>∃ (l:Addr) (bs:List Bool),xs=[.ref l]/\H l=some (.lst (bs.map V.bl))/\Q (.bl (bs.all id)) H):=by
 intro pins s σ H xs us Q I rv h
 obtain⟨l,bs,rfl,hH,q⟩:=h
 obtain⟨u,rfl,ru⟩:=rv.one
 cases ru
 obtain⟨z,aK,n,r,hl,e⟩:=I.vQ hH
 have eJ:l<s.heap.objs.size:=aae e
 refine call_all_walk (acm (A:=X.A.in1) ⟨_,e,rfl,n,rfl⟩ ?_)
 obtain⟨fp,st,W,Tu,_⟩:=jy (P:=X.prog) (w:=X.w) (I.CA hc).in1 s.heap.objs.size l (aal eJ) (I.Jm hc (I.bE.fresh (aai _))) aK.toArray
 refine⟨s.heap.objs.size,_,_,_,_,_,fun i=>bs.getD i true,rfl,W,Tu _ ⟨_,aap _ rfl,rfl,rfl⟩ ⟨_,aab _ e,rfl,n,rfl⟩ (fun b o x=>aab _ x),?_,?_⟩
 ·intro i v s' Q' E' hP hQ
  have hv:aK[i]?=some v:=by simpa using hP
  obtain⟨b,hb,rfl⟩:∃ b,bs[i]?=some b/\v=Value.bool b:=by
   cases Nq:bs[i]? with
   | none=>
    have h1:=r.none_of (i:=i) (by rw[aaB,Nq];rfl)
    rw[h1] at hv;cases hv
   | some b=>
    obtain⟨u',h1,h2⟩:=r.get (i:=i) (x:=.bl b) (by rw[aaB,Nq];rfl)
    rw[h1] at hv;cases hv
    exact⟨b,rfl,h2⟩
  have OK:Q' (bs.getD i true) s':=hQ
  rw[aaA,hb] at OK
  exact acN OK
 ·intro h' tk hk
  have e2:((List.range aK.toArray.size).all fun i=>bs.getD i true)=bs.all id:=by
   have hlen:aK.toArray.size=bs.length:=by
    rw[aau,<- r.length,aas]
   rw[hlen]
   rw[acy,acp,acp]
   constructor
   ·intro hA b hb
    obtain⟨i,hi,e⟩:=ach hb
    have:=hA i (ab0.mpr hi)
    rw[aaA,aat hi,e] at this
    exact this
   ·intro hA i hi
    have Lu:=ab0.mp hi
    rw[aaA,aat Lu]
    exact hA _ (acM Lu)
  rw[e2]
  refine⟨.bl (bs.all id),H,?_,rfl,q⟩
  exact I.kept (h':=h') (t':=tk) fun b o q'=>hk b o (fun zz=>by
   have:b=s.heap.objs.size:=by simpa using zz
   subst this
   exact absurd (aae q') (abo _)) (aab _ q')
section
variable {κ:Type} [DecidableEq κ]
end
section
variable {P:Program}{w:World}{H:Hp}{h:Heap}{a:Addr}
end
section
variable {X:Cx}{pins:List (Addr × Obj)}{σ:St}{H:Hp}{s:Shared}{a:Addr}{y v:V}{u r:Value}{o:Option V}{A:Around}{E:Value->Shared->Prop}
end
section
variable {X:Cx}{pins:List (Addr × Obj)}{σ:St}{H:Hp}{s:Shared}{a:Addr}{mq:List (Key × V)}{k:Key}{u:Value}{A:Around}{E:Value->Shared->Prop}
end
section
variable {X:Cx}{o i e value:Expr}{pos pos' SH:Pos}{td ty tv:TE}
end
section
variable {X:Cx}{pos:Pos}
end
section
variable {X:Cx}{pins:List (Addr × Obj)}{σ:St}{H:Hp}{s:Shared}{a:Addr}{y d:V}{u r:Value}{o:Option V}{A:Around}{E:Value->Shared->Prop}
end
section
variable {X:Cx}{o e f:Expr}{apos iP:Pos}{td ty tx:TE}
end
section
variable {X:Cx}{pins:List (Addr × Obj)}{σ:St}{H:Hp}{s:Shared}{a:Addr}{y:V}{u:Value}{A:Around}{E:Value->Shared->Prop}
end
section
variable {P:Program}{w:World}{K:W.Frag}{mg:Str->Option Value}{base:Heap}
end
section
variable {X:Cx}
end
section
variable {κ:Type} [DecidableEq κ]
end
theorem nO:∀ {us:List Value}{ns:List Int},IntsAre us ns->Vals (ns.map V.int) us
 | _,_,.nil=>.nil
 | _,_,.cons a t r=>.cons ⟨t,rfl⟩ (nO r)
section
variable {X:Cx}{N:List Str}{fr:List Nat}{x:Str}{scope:Scope}{cl:List (Str × Addr)}{elt iter:Expr}{px pos:Pos}{wi:TI}{te:TE}
theorem Bw {JF:Expr}{tc:TT}(hc:X.bq=true)(S:aI X N fr x scope cl)(hi:PI X (.Name x px) iter wi)(ht:∀ (C:Addr) (s0:Shared) (H0:Hp) (fp:List Addr) (pins:List (Addr × Obj)),PT (kI X N scope cl C s0 H0 fp pins) JF tc)(he:∀ (C:Addr) (s0:Shared) (H0:Hp) (fp:List Addr) (pins:List (Addr × Obj)),PE (kI X N scope cl C s0 H0 fp pins) elt te)
  (hs:∀ y,foldedSetIterable iter X.env y=pure y:=by intro _;rfl):PE X (.ListComp elt [⟨.Name x px,iter,[JF],0⟩] scope pos) (Ab wi fr tc te):=by
 intro pins s σ H Q I h
 rw[ady]
 exact mF (use:=none) hc S hi (fun _ _ _ _ _=>Ac (ht _ _ _ _ _)) he hs I h fun acc C m H6 s7 qn hn eQ _ _ _ _ _=>⟨m,hn,fun h' fF=>⟨.ref acc,H6,eQ h' fF,rfl,qn⟩⟩
end
section
variable {X:Cx}{k:Nat}{f C:Addr}{fd:FuncData}{ps:List Str}{sp:Sp}{g x n:Str}{p pos Di Bk np xZ:Pos}{e:Expr}{es:List Expr}{t:TA}{ts:TS}{b₀:Stmt}{lR:List Stmt}{i:Nat}
end
theorem Inv.off {X:Cx}{pins:List (Addr × Obj)}{σ:St}{H:Hp}{s:Shared}{C:Addr}{h':Heap}(I:Inv X pins σ H s)(hs:Heap.SameBut C s.heap h')(XT:X.s₀.heap.objs.size<=C)(hH:H C=none)(hL:C≠X.env.locals)(hc:∀ y c,X.env.cells.lookup y=some c->c≠C)(hp:∀ p∈X.pn++pins,p.1≠C):Inv X pins σ H { s with heap:=h' }:=by
 obtain⟨m,hn,hl⟩:=id I.loc
 have old:∀ b o,X.s₀.heap.get? b=some o->h'.get? b=s.heap.get? b:=fun b o e=>hs.2 b (aal (aak (aae e) XT))
 refine⟨I.ok,I.vC,I.os,I.bare,⟨fun b o e k hb hx=>(old b o e).trans (I.base.keep b o e k hb hx),fun b o e k hb hx=>?_,I.base.free,fun b o e hx=>?_,I.base.iq,I.base.gC,I.base.ir⟩,⟨m,hn.sameBut hs hL.symm,fun j y v' e1 e2 e3=>?_⟩,fun y c e=>?_,I.free,I.dY,fun p q=>?_,fun b ob e=>?_,I.len⟩
 ·obtain⟨sl,e1⟩:=I.base.slot b o e k hb hx
  exact⟨sl,(old b o e).trans e1⟩
 ·obtain⟨o',e1⟩:=I.base.there b o e hx
  exact⟨o',(old b o e).trans e1⟩
 ·obtain⟨u',r',q⟩:=hl j y v' e1 e2 e3
  refine⟨u',r',?_⟩
  rcases q with q|⟨k,c,e,z⟩
  ·exact .inl q
  ·exact .inr ⟨k,c,e,z.sameBut hs (hc y c e)⟩
 ·obtain⟨w',z⟩:=I.cell y c e
  exact⟨w',z.sameBut hs (hc y c e)⟩
 ·obtain⟨e,k,ne,nf,d⟩:=I.pin p q
  exact⟨(hs.2 p.1 (hp p q)).trans e,k,ne,nf,d⟩
 ·refine (I.bE b ob e).rK (fun c w' nL q=>(hs.2 c ?_).trans q) (fun _ q=>q) fun _ _ q=>q
  rintro rfl
  rcases nL with rfl|nL
  ·rw[hH] at e;cases e
  ·rw[hH] at nL;cases nL
section
variable {X:Cx}{N:List Str}{fr:List Nat}{x:Str}{scope:Scope}{cl:List (Str × Addr)}{elt iter:Expr}{px pos:Pos}{wi:TI}{te:TE}
end
def CompEnd (J:It)(Q:VK)(H1:Hp)(te:TE)(σ:V->St):Prop:=∀ acc,H1 acc=none->∃ W:Nat->Nat->Hp->List V->Prop,(∃ m,W 0 m (upd H1 acc (.lst [])) []) /\
 ∀ i m H' vs,W i m H' vs->H' acc=some (.lst vs)/\((J.stop i H'/\Q (.ref acc) H')\/(J.go i H'/\vs.length<sizeLine/\∀ x H2,J.xE i H' x H2->te (σ x) H2 fun y H3=>H3 acc=some (.lst vs)/\∃ m',m'<m/\W (i+1) m' (upd H3 acc (.lst (vs++[y]))) (vs++[y])))
def fO (J:It)(Q:VK)(H1:Hp)(tc:TT)(te:TE)(σ:V->St):Prop:=∀ acc,H1 acc=none->∃ W:Nat->Nat->Hp->List V->Prop,(∃ m,W 0 m (upd H1 acc (.lst [])) []) /\
 ∀ i m H' vs,W i m H' vs->H' acc=some (.lst vs)/\((J.stop i H'/\Q (.ref acc) H')\/(J.go i H'/\vs.length<sizeLine/\∀ x H2,J.xE i H' x H2->tc (σ x) H2 fun b H3=>
  if b=true then te (σ x) H3 fun y H4=>H4 acc=some (.lst vs)/\∃ m',m'<m/\W (i+1) m' (upd H4 acc (.lst (vs++[y]))) (vs++[y]) else ∃ m',m'<m/\W (i+1) m' H3 vs))
def tV (wi:TI)(fr:List Nat)(te:TE):TE:=fun σ H Q=>wi σ H fun J H1=>CompEnd J Q H1 te (fun x=>c9 σ fr (some x))
def DF (wi:TI)(fr:List Nat)(tc:TT)(te:TE):TE:=fun σ H Q=>wi σ H fun J H1=>fO J Q H1 tc te (fun x=>c9 σ fr (some x))
def DG (wi:TI)(fr:List Nat)(te:TE)(k:Nat):TS:=fun D σ H=>tV wi fr te σ H fun v H'=>D.nx (σ.set k (some v)) H'
section
variable {X:Cx}{N:List Str}{fr:List Nat}{x:Str}{scope:Scope}{cl:List (Str × Addr)}{elt iter:Expr}{px pos:Pos}{wi:TI}{te:TE}
theorem jI {y:Str}{py pV:Pos}{k:Nat}(hN:X.N.Nodup)(hk:X.N[k]?=some y)(hy:Loc X.env.scope y)(Hi:swapsWith (.ListComp elt [⟨.Name x px,iter,[],0⟩] scope pos) (some (.Name y py)) pV.line X.env=pure true)(hc:X.bq=true)(S:aI X N fr x scope cl)(hi:PI X (.Name x px) iter wi)(he:∀ (C:Addr) (s0:Shared) (H0:Hp) (fp:List Addr) (pins:List (Addr × Obj)),PE (kI X N scope cl C s0 H0 fp pins) elt te)
  (hf:X.fn y=true\/X.env.scope.names.lookup y=some .local) (hs:∀ y,foldedSetIterable iter X.env y=pure y:=by intro _;rfl):PS X (.Assign [.Name y py] (.ListComp elt [⟨.Name x px,iter,[],0⟩] scope pos) pV) (DG wi fr te k):=by
 intro pins s σ H D I h
 rw[adl _ _ _ _ Hi]
 refine aaa (abp (aaa ?_))
 show wpAny _ X.A (do let _ <- comprehension (.ListComp elt [⟨.Name x px,iter,[],0⟩] scope pos) scope X.env _ (newList []) false (eval iter X.env) (some (assign (.Name y py) X.env))) _ _ s
 refine aaa (aav (mF (tc:=fun _ H Q=>Q true H) (Q:=fun v H'=>D.nx (σ.set k (some v)) H') (use:=some (assign (.Name y py) X.env)) (R:=fun _ s'=>SP X pins D .next s') hc S hi (fun _ _ _ _ _=>ki) he hs I h (fun acc C m H6 s7 qn hn eQ cf cL cC cP cS=>by
  have J7:Inv X pins σ H6 s7:=eQ s7.heap ⟨rfl,fun _ _=>rfl⟩
  show wpAny _ X.A (assign (.Name y py) X.env (.ref acc)) _ _ _
  refine adh (iw J7 hN hk hy (v:=.ref acc) rfl (fun s8 J8 ⟨a,Lv,ha⟩=>?_) hf)
  have aC:C≠a:=by
   rcases ha with e|e
   ·rw[e];exact Ne.symm cL
   ·exact Ne.symm (cC _ _ e)
  exact⟨m,hn.sameBut Lv aC,fun h' fF=>⟨_,H6,J8.off fF cS cf (Ne.symm cL) cC cP,qn⟩⟩)) (fun _ s' hq=>aad (aad hq)) fun _ _ e=>e)
end
section
variable {X:Cx}{N:List Str}{fr:List Nat}{x:Str}{scope:Scope}{cl:List (Str × Addr)}{elt iter:Expr}{px pos:Pos}{wi:TI}{te:TE}
theorem bX (hc:X.bq=true)(S:aI X N fr x scope cl)(hi:PI X (.Name x px) iter wi)(he:∀ (C:Addr) (s0:Shared) (H0:Hp) (fp:List Addr) (pins:List (Addr × Obj)),PE (kI X N scope cl C s0 H0 fp pins) elt te)
  (hs:∀ y,foldedSetIterable iter X.env y=pure y:=by intro _;rfl):PE X (.ListComp elt [⟨.Name x px,iter,[],0⟩] scope pos) (tV wi fr te):=Hk hc S hi he hs
theorem eS {JF:Expr}{tc:TT}(hc:X.bq=true)(S:aI X N fr x scope cl)(hi:PI X (.Name x px) iter wi)(ht:∀ (C:Addr) (s0:Shared) (H0:Hp) (fp:List Addr) (pins:List (Addr × Obj)),PT (kI X N scope cl C s0 H0 fp pins) JF tc)(he:∀ (C:Addr) (s0:Shared) (H0:Hp) (fp:List Addr) (pins:List (Addr × Obj)),PE (kI X N scope cl C s0 H0 fp pins) elt te)
  (hs:∀ y,foldedSetIterable iter X.env y=pure y:=by intro _;rfl):PE X (.ListComp elt [⟨.Name x px,iter,[JF],0⟩] scope pos) (DF wi fr tc te):=Bw hc S hi ht he hs
end
theorem de {H0 H:Hp}{p:Addr}{o:HO}(g:av H0 H)(h:H0 p=none):av H0 (upd H p o):=fun b u q=>by
 rw[aH (aN q h)]
 exact g b u q
theorem eT {te:TE}{σ:V->St}{H:Hp}{Q:VK}{lo:Int}(n:Nat)(hn:n<sizeLine)(R:Nat->List V->Hp->Prop)(R0:∀ p,H p=none->R 0 [] (upd H p (.lst [])))
  (he:∀ i vs H' acc (Q':VK),i<n->av H H'->H acc=none->H' acc=some (.lst vs)->R i vs H'->vs.length=i->(∀ y H2,av H' H2->(R (i+1) (vs++[y]) (upd H2 acc (.lst (vs++[y]))))->Q' y H2)->te (σ (.int (lo+i))) H' Q')
  (q:∀ p H' vs,av H H'->H p=none->H' p=some (.lst vs)->vs.length=n->R n vs H'->Q (.ref p) H'):CompEnd (Js lo n) Q H te σ:=by
 intro acc aT
 refine⟨fun i m H' vs=>i<=n/\m=n-i/\av H H'/\H' acc=some (.lst vs)/\vs.length=i/\R i vs H',⟨n,abd _,by simp,ai aT _,ag,rfl,R0 _ aT⟩,?_⟩
 rintro i m H' vs ⟨hi,rfl,g,ha,hl,r⟩
 refine⟨ha,?_⟩
 by_cases h:i=n
 ·subst h
  exact .inl ⟨aai _,q acc H' vs g aT ha hl r⟩
 ·refine .inr ⟨by (show i<n;omega),by omega,?_⟩
  rintro z H2 ⟨rfl,rfl⟩
  refine he i vs H2 acc _ (by omega) g aT ha r hl fun y H3 g3 r3=>⟨g3 _ _ ha,n-(i+1),by omega,by omega,rfl,de (g.trans g3) aT,ag,?_,r3⟩
  rw[aaT,hl]
  rfl
theorem gN {te:TE}{σ:V->St}{H:Hp}{Q:VK}{lo:Int}(n:Nat)(hn:n<sizeLine)(f:Nat->V)
  (he:∀ i H' (Q':VK),i<n->av H H'->(∀ H2,av H' H2->Q' (f i) H2)->te (σ (.int (lo+i))) H' Q')
  (q:∀ p H',av H H'->H p=none->H' p=some (.lst ((List.range n).map f))->Q (.ref p) H'):CompEnd (Js lo n) Q H te σ:=by
 refine eT n hn (fun i vs _=>vs=(List.range i).map f) (fun _ _=>rfl) ?_ ?_
 ·intro i vs H' acc Q' hi g h0 h1 r hl k
  refine he i H' Q' hi g fun H2 g2=>k _ _ g2 ?_
  rw[r,aeE,aaS]
  rfl
 ·intro p H' vs g h0 h1 hl r
  exact q p H' g h0 (r▸h1)
theorem kX {K:W.Frag}{a:Addr}{xs:List V}{te:TE}{σ:V->St}{H:Hp}{Q:VK}(hx:aM K H a xs)(hn:xs.length<sizeLine)(f:V->V)(hK:∀ H',av H H'->aM K H' a xs)
  (he:∀ (i:Nat) (x:V) (H':Hp) (Q':VK),xs[i]?=some x->av H H'->(∀ H2,av H' H2->Q' (f x) H2)->te (σ x) H' Q')
  (q:∀ p H',av H H'->H p=none->H' p=some (.lst (xs.map f))->Q (.ref p) H'):CompEnd (CQ K a) Q H te σ:=by
 intro acc aT
 refine⟨fun i m H' vs=>i<=xs.length/\m=xs.length-i/\av H H'/\H' acc=some (.lst vs)/\vs=(xs.take i).map f,⟨xs.length,abd _,by simp,ai aT _,ag,by simp⟩,?_⟩
 rintro i m H' vs ⟨hi,rfl,g,ha,rfl⟩
 refine⟨ha,?_⟩
 by_cases h:i=xs.length
 ·refine .inl ⟨⟨xs,hK _ g,by omega⟩,q acc H' g aT ?_⟩
  rw[ha,h,abz]
 ·have eJ:i<xs.length:=by omega
  refine .inr ⟨⟨xs,xs[i],hK _ g,by simp[eJ]⟩,by rw[aas,abU];omega,?_⟩
  rintro z H2 ⟨rfl,hz⟩
  have xI:=hz xs (hK _ g)
  refine he i z H2 _ xI g fun H3 g3=>⟨g3 _ _ ha,xs.length-(i+1),by omega,by omega,rfl,de (g.trans g3) aT,ag,?_⟩
  rw[aca,xI,aaS]
  rfl
theorem mH {K:W.Frag}{a:Addr}{xs:List V}{te:TE}{σ:V->St}{H:Hp}{Q:VK}(hx:aF K H a xs)(hn:xs.length<sizeLine)(f:V->V)(hK:∀ H',av H H'->aF K H' a xs)
  (he:∀ (i:Nat) (x:V) (H':Hp) (Q':VK),xs[i]?=some x->av H H'->(∀ H2,av H' H2->Q' (f x) H2)->te (σ x) H' Q')
  (q:∀ p H',av H H'->H p=none->H' p=some (.lst (xs.map f))->Q (.ref p) H'):CompEnd (CS K a) Q H te σ:=by
 intro acc aT
 refine⟨fun i m H' vs=>i<=xs.length/\m=xs.length-i/\av H H'/\H' acc=some (.lst vs)/\vs=(xs.take i).map f,⟨xs.length,abd _,by simp,ai aT _,ag,by simp⟩,?_⟩
 rintro i m H' vs ⟨hi,rfl,g,ha,rfl⟩
 refine⟨ha,?_⟩
 by_cases h:i=xs.length
 ·refine .inl ⟨⟨xs,hK _ g,by omega⟩,q acc H' g aT ?_⟩
  rw[ha,h,abz]
 ·have eJ:i<xs.length:=by omega
  refine .inr ⟨⟨xs,xs[i],hK _ g,by simp[eJ]⟩,by rw[aas,abU];omega,?_⟩
  rintro z H2 ⟨rfl,hz⟩
  have xI:=hz xs (hK _ g)
  refine he i z H2 _ xI g fun H3 g3=>⟨g3 _ _ ha,xs.length-(i+1),by omega,by omega,rfl,de (g.trans g3) aT,ag,?_⟩
  rw[aca,xI,aaS]
  rfl
theorem nP {J:It}{xs:List V}{tc:TT}{te:TE}{σ:V->St}{H:Hp}{Q:VK}(hn:xs.length<sizeLine)(p:V->Bool)(f:V->V)
  (DH:∀ H',av H H'->J.stop xs.length H') (DC:∀ (i:Nat) H',i<xs.length->av H H'->J.go i H') (Lx:∀ (i:Nat) H' x H2,av H H'->J.xE i H' x H2->H2=H'/\xs[i]?=some x)
  (ht:∀ (i:Nat) (x:V) (H':Hp) (Q':Bool->Hp->Prop),xs[i]?=some x->av H H'->(∀ H2,av H' H2->Q' (p x) H2)->tc (σ x) H' Q')
  (he:∀ (i:Nat) (x:V) (H':Hp) (Q':VK),xs[i]?=some x->p x=true->av H H'->(∀ H2,av H' H2->Q' (f x) H2)->te (σ x) H' Q')
  (q:∀ a H',av H H'->H a=none->H' a=some (.lst ((xs.filter p).map f))->Q (.ref a) H'):fO J Q H tc te σ:=by
 intro acc aT
 refine⟨fun i m H' vs=>i<=xs.length/\m=xs.length-i/\av H H'/\H' acc=some (.lst vs)/\vs=((xs.take i).filter p).map f,⟨xs.length,abd _,by simp,ai aT _,ag,by simp⟩,?_⟩
 rintro i m H' vs ⟨hi,rfl,g,ha,rfl⟩
 refine⟨ha,?_⟩
 by_cases h:i=xs.length
 ·refine .inl ⟨h▸DH _ g,q acc H' g aT ?_⟩
  rw[ha,h,abz]
 ·have eJ:i<xs.length:=by omega
  refine .inr ⟨DC i _ eJ g,?_,?_⟩
  ·rw[aas]
   have h1:=ad3 p (xs.take i)
   rw[abU] at h1
   omega
  intro z H2 hz
  obtain⟨rfl,xI⟩:=Lx i _ _ _ g hz
  refine ht i z H2 _ xI g fun H3 g3=>?_
  have ts:xs.take (i+1)=xs.take i++[z]:=by rw[aca,xI];rfl
  cases e:p z with
  | true=>
   rw[aaz rfl]
   refine he i z H3 _ xI e (g.trans g3) fun H4 g4=>⟨g4 _ _ (g3 _ _ ha),xs.length-(i+1),by omega,by omega,rfl,de (g.trans (g3.trans g4)) aT,ag,?_⟩
   rw[ts,acZ,aaS]
   have:[z].filter p=[z]:=by simp[e]
   rw[this]
   rfl
  | false=>
   rw[aar aaj]
   refine⟨xs.length-(i+1),by omega,by omega,rfl,g.trans g3,g3 _ _ ha,?_⟩
   rw[ts,acZ,aaS]
   have:[z].filter p=[]:=by simp[e]
   rw[this]
   simp
theorem nQ {K:W.Frag}{a:Addr}{xs:List V}{tc:TT}{te:TE}{σ:V->St}{H:Hp}{Q:VK}(hn:xs.length<sizeLine)(p:V->Bool)(f:V->V)(hK:∀ H',av H H'->aF K H' a xs)
  (ht:∀ (i:Nat) (x:V) (H':Hp) (Q':Bool->Hp->Prop),xs[i]?=some x->av H H'->(∀ H2,av H' H2->Q' (p x) H2)->tc (σ x) H' Q')
  (he:∀ (i:Nat) (x:V) (H':Hp) (Q':VK),xs[i]?=some x->p x=true->av H H'->(∀ H2,av H' H2->Q' (f x) H2)->te (σ x) H' Q')
  (q:∀ a H',av H H'->H a=none->H' a=some (.lst ((xs.filter p).map f))->Q (.ref a) H'):fO (CS K a) Q H tc te σ:=
 nP hn p f (fun H' g=>⟨xs,hK _ g,aai _⟩) (fun i H' hi g=>⟨xs,xs[i],hK _ g,by simp[hi]⟩) (fun i H' x H2 g h=>⟨h.1,h.2 xs (hK _ g)⟩) ht he q
theorem fJ {K:W.Frag}{a:Addr}{xs:List V}{tc:TT}{te:TE}{σ:V->St}{H:Hp}{Q:VK}(hn:xs.length<sizeLine)(p:V->Bool)(f:V->V)(hK:∀ H',av H H'->aM K H' a xs)
  (ht:∀ (i:Nat) (x:V) (H':Hp) (Q':Bool->Hp->Prop),xs[i]?=some x->av H H'->(∀ H2,av H' H2->Q' (p x) H2)->tc (σ x) H' Q')
  (he:∀ (i:Nat) (x:V) (H':Hp) (Q':VK),xs[i]?=some x->p x=true->av H H'->(∀ H2,av H' H2->Q' (f x) H2)->te (σ x) H' Q')
  (q:∀ a H',av H H'->H a=none->H' a=some (.lst ((xs.filter p).map f))->Q (.ref a) H'):fO (CQ K a) Q H tc te σ:=
 nP hn p f (fun H' g=>⟨xs,hK _ g,aai _⟩) (fun i H' hi g=>⟨xs,xs[i],hK _ g,by simp[hi]⟩) (fun i H' x H2 g h=>⟨h.1,h.2 xs (hK _ g)⟩) ht he q
mutual
inductive DA (H:Hp):V->PyData->Prop where
 | int {i:Int}:DA H (.int i) (.int i)
 | bl {b:Bool}:DA H (.bl b) (.bool b)
 | str {x:Str}:DA H (.str x) (.str x)
 | lst {p:Addr}{xs:List V}{ds:List PyData}:H p=some (.lst xs)->vZ H xs ds->DA H (.ref p) (.list ds)
 | tup {p:Addr}{xs:List V}{ds:List PyData}:H p=some (.tup xs)->vZ H xs ds->DA H (.ref p) (.tuple ds)
inductive vZ (H:Hp):List V->List PyData->Prop where
 | nil:vZ H [] []
 | cons {x:V}{d:PyData}{xs:List V}{ds:List PyData}:DA H x d->vZ H xs ds->vZ H (x::xs) (d::ds)
end
mutual
theorem DA.reads {X:Cx}{pins:List (Addr × Obj)}{σ:St}{H:Hp}{s:Shared}(I:Inv X pins σ H s):∀ {v:V}{d:PyData}{u:Value},DA H v d->RelV v u->∃ as,Reads s.heap u d as
 | _,_,_,.int,r=>by obtain⟨t,rfl⟩:=r;exact⟨_,.int _ _⟩
 | _,_,_,.bl,r=>by cases r;exact⟨_,.bool _⟩
 | _,_,_,.str,r=>by obtain⟨t,rfl⟩:=r;exact⟨_,.str _ _⟩
 | _,_,_,.lst h hs,r=>by
  cases r
  obtain⟨aK,rv,⟨o,n,e1,e2,_,e3⟩,_⟩:=I.list (aM.of h)
  obtain⟨as,z⟩:=vZ.reads I hs rv
  exact⟨_,.list e1 e2 e3 z⟩
 | _,_,_,.tup h hs,r=>by
  cases r
  obtain⟨aK,rv,⟨o,e1,e2,n,e3⟩,_⟩:=I.tuple (aF.of h)
  obtain⟨as,z⟩:=vZ.reads I hs rv
  exact⟨_,.tuple e1 e2 e3 z⟩
theorem vZ.reads {X:Cx}{pins:List (Addr × Obj)}{σ:St}{H:Hp}{s:Shared}(I:Inv X pins σ H s):∀ {vs:List V}{ds:List PyData}{us:List Value},vZ H vs ds->Vals vs us->∃ as,ReadsAll s.heap us ds as
 | _,_,_,.nil,r=>by cases r;exact⟨_,.nil⟩
 | _,_,_,.cons h hs,r=>by
  cases r with
  | cons r1 r2=>
   obtain⟨a1,z1⟩:=DA.reads I h r1
   obtain⟨a2,z2⟩:=vZ.reads I hs r2
   exact⟨_,.cons z1 z2⟩
end
theorem vZ.ints {H:Hp}:∀ ns:List Int,vZ H (ns.map V.int) (ns.map PyData.int)
 | []=>.nil
 | _::ns=>.cons .int (vZ.ints ns)
inductive OL (x:V)(y:V)(H:Hp)(Q:VK):Prop
 | mk:∀ (da db:PyData),(DA H x da)->(DA H y db)->(SeqAt.shaped da=true)->(SeqAt.shaped db=true)->(Q (.bl (PyData.eqv da db)) H)->OL  x y H Q
inductive OM (x:V)(y:V)(H:Hp)(Q:VK):Prop
 | mk:∀ (da db:PyData),(DA H x da)->(DA H y db)->(SeqAt.shaped da=true)->(SeqAt.shaped db=true)->(Q (.bl (!PyData.eqv da db)) H)->OM  x y H Q
theorem DI {X:Cx}(hu:X.A.units+64<cLine):mz X (compareOp .Eq) OL:=by
 intro pins s σ H x y v u Q I rx ry h
 obtain⟨da,db,ha,hb,sa,sb,q⟩:=h
 obtain⟨as,ra⟩:=ha.reads I rx
 obtain⟨bs,rb⟩:=hb.reads I ry
 exact eq_dataH ra rb sa sb hu ⟨.bl _,H,I,rfl,q⟩
theorem Ly {X:Cx}(hu:X.A.units+64<cLine):mz X (compareOp .NotEq) OM:=by
 intro pins s σ H x y v u Q I rx ry h
 obtain⟨da,db,ha,hb,sa,sb,q⟩:=h
 obtain⟨as,ra⟩:=ha.reads I rx
 obtain⟨bs,rb⟩:=hb.reads I ry
 exact ne_dataH ra rb sa sb hu ⟨.bl _,H,I,rfl,q⟩
end L2
namespace L2
open PySem PySem.Spec PyProof.Rows
structure bD (X:Cx)(N:List Str)(fr:List Nat)(x x2:Str)(scope:Scope)(cl:List (Str × Addr)):Prop where
 kind:scope.kind=.function
 fX:∀ y∈scope.names,y.2≠.cell
 loc:∀ y∈scope.names,y.2=.local->scope.names.lookup y.1=some .local
 own:scope.names.lookup x=some .local
 tW:scope.names.lookup x2=some .local
 kW:closureFor scope X.env=pure cl
 sub:∀ y c,cl.lookup y=some c->X.env.cells.lookup y=some c
 has:∀ y,((relabel scope X.env).names.lookup y=some .cell\/(relabel scope X.env).names.lookup y=some .free)->∃ c,cl.lookup y=some c
 nd:N.Nodup
 hN:N[0]?=some x
 Tv:N[1]?=some x2
 len:N.length=fr.length+2
 iT:∀ (j:Nat) (y:Str),N[j+2]?=some y->(relabel scope X.env).names.lookup y≠some .local
 out:∀ (j k:Nat),fr[j]?=some k->∃ y,N[j+2]?=some y/\X.N[k]?=some y/\X.env.kindOf y=some .cell
def gO (σ:St)(fr:List Nat)(v v2:Option V):St:=v::v2::fr.map fun k=>(σ[k]?).join
def jJ (K:W.Frag)(J:It)(Q:VK)(H1:Hp)(te:TE)(σ:V->V->St):Prop:=∀ acc,H1 acc=none->∃ W:Nat->Nat->Hp->List V->Prop,(∃ m,W 0 m (upd H1 acc (.lst [])) []) /\
 ∀ i m H' vs,W i m H' vs->H' acc=some (.lst vs)/\((J.stop i H'/\Q (.ref acc) H')\/(J.go i H'/\vs.length<sizeLine/\∀ x H2,J.xE i H' x H2->∃ (t:Addr) (v1 v2:V),x=.ref t/\aF K H2 t [v1,v2]/\te (σ v1 v2) H2 fun y H3=>H3 acc=some (.lst vs)/\∃ m',m'<m/\W (i+1) m' (upd H3 acc (.lst (vs++[y]))) (vs++[y])))
def DJ (K:W.Frag)(wi:TI)(fr:List Nat)(te:TE):TE:=fun σ H Q=>wi σ H fun J H1=>jJ K J Q H1 te (fun v1 v2=>gO σ fr (some v1) (some v2))
theorem jr {x1:Nat}{R:Result->Shared->Prop}(I:Nat->Shared->Prop)
  (turn:∀ n s,I n s->wpAny (model P w) A (pyNext it) (fun r s₁=>match r with
   | none=>R (.ok .next) s₁
   | some v=>wpAny (model P w) A (letOwnedTupleGo (.Tuple es x1 tp) it v) (fun _ ON=>wpAny (model P w) A (assign (.Tuple es x1 tp) env v) (fun _ s₂=>
     wpAny (model P w) A (forIn ifs true fun c r=>if r=true then do let ok <- isTrue c env (eval c env);pure (ForInStep.yield ok) else pure (ForInStep.yield r)) (fun ok s₃=>
      if ok=true then wpAny (model P w) A (eval elt env) (fun x s₄=>
       wpAny (model P w) A (call (.builtin "list.append") [acc,x]) (fun _ s₅=>∃ m,m<n/\I m s₅) (notedBy (model P w) A env fun e s'=>R (.error e) s') s₄) (notedBy (model P w) A env fun e s'=>R (.error e) s') s₃
      else ∃ m,m<n/\I m s₃) (notedBy (model P w) A env fun e s'=>R (.error e) s') s₂)
     (notedBy (model P w) A env fun e s'=>R (.error e) s') ON) (notedBy (model P w) A env fun e s'=>R (.error e) s') s₁) (notedBy (model P w) A env fun e s'=>R (.error e) s') s)
  (n:Nat) (h:I n s):codeAny (model P w) A (.compLoop (.ListComp elt [⟨.Tuple es x1 tp,iter,ifs,0⟩] scope pos) 0 it acc env) R s:=by
 refine codeAny_loop rfl I (fun m s1 hI=>?_) n h
 show wpAny _ A ((compTurn (.ListComp elt [⟨.Tuple es x1 tp,iter,ifs,0⟩] scope pos) 0 it acc env).onRaise (fun x=>do noteFrame x env;theTreesLotGoes x)) _ _ s1
 refine wpAny_noted ?_
 rw[compTurn_list]
 refine aaa (abp (aaa (aav (turn m s1 hI) (fun r s2 k2=>?_) fun _ _ z=>z)))
 cases r with
 | none=>exact aad k2
 | some v=>
  refine aaa (aav k2 (fun _ s3 k3=>?_) fun _ _ z=>z)
  refine aaa (aav k3 (fun _ s4 k4=>aaa (aav k4 (fun ok s5 k5=>?_) fun _ _ z=>z)) fun _ _ z=>z)
  cases ok with
  | false=>exact aad ⟨rfl,k5⟩
  | true=>
   exact aaa (aaa (aav k5 (fun x s6 k6=>aaa (aav k6 (fun _ s7 k7=>aad (aad ⟨rfl,k7⟩)) fun _ _ z=>z)) fun _ _ z=>z))
def sE (K:W.Frag)(J:It)(Q:VK)(H1:Hp)(tc:TT)(te:TE)(σ:V->V->St):Prop:=∀ acc,H1 acc=none->∃ W:Nat->Nat->Hp->List V->Prop,(∃ m,W 0 m (upd H1 acc (.lst [])) []) /\
 ∀ i m H' vs,W i m H' vs->H' acc=some (.lst vs)/\((J.stop i H'/\Q (.ref acc) H')\/(J.go i H'/\vs.length<sizeLine/\∀ x H2,J.xE i H' x H2->∃ (t:Addr) (v1 v2:V),x=.ref t/\aF K H2 t [v1,v2]/\tc (σ v1 v2) H2 fun b H3=>
  if b=true then te (σ v1 v2) H3 fun y H4=>H4 acc=some (.lst vs)/\∃ m',m'<m/\W (i+1) m' (upd H4 acc (.lst (vs++[y]))) (vs++[y]) else ∃ m',m'<m/\W (i+1) m' H3 vs))
def Ag (K:W.Frag)(wi:TI)(fr:List Nat)(tc:TT)(te:TE):TE:=fun σ H Q=>wi σ H fun J H1=>sE K J Q H1 tc te (fun v1 v2=>gO σ fr (some v1) (some v2))
section
variable {X:Cx}{N:List Str}{fr:List Nat}{x x2:Str}{scope:Scope}{cl:List (Str × Addr)}{elt iter:Expr}{px nR tp pos:Pos}{kt:Nat}{wi:TI}{te:TE}
theorem Hl (S:bD X N fr x x2 scope cl)(I:Inv X pins σ H s)(hf:∀ b∈fp,fh X pins H b)(hC:s.heap.objs.size<=C)(jF:∀ b∈fp,b<s.heap.objs.size):(kI X N scope cl C s H fp pins).Ok where
 mod:=I.ok.mod
 kind:=S.kind
 glob:=I.ok.glob
 blt:=I.ok.blt
 above:=hC
 inj:=fun y z c h1 h2=>I.ok.inj y z c (S.sub _ _ h1) (S.sub _ _ h2)
 has:=fun y h=>S.has y h
 Cz:=fun y c h=>by cases h
 hd:=I.ok.hd
 hs:=I.ok.hs
 frames:=I.ok.frames
 xK:=.inl rfl
 GS:=fun b hb=>⟨aal (aak (jF b hb) hC),fun y c h=>(hf b hb).2.2.2.2.1 y c (S.sub _ _ h)⟩
 bs:=fun b o e=>I.bs b o e
 pF:=aag I.ok.pF I.sz
 kO:=fun b o e hb=>by
  rcases (hf b hb).2.2.2.1 with z|z
  ·exact I.ok.kO b o e z
  ·exact absurd (aak (aae e) (aag I.ok.pF z)) (abo _)
 pG:=fun b hb z=>by
  rcases aaf.mp (I.dJ b z) with e|e
  ·exact (hf b hb).2.1 e
  ·exact (hf b hb).2.2.1 e
 iu:=I.stack
 r9:=I.kf
theorem yj (S:bD X N fr x x2 scope cl)(I:Inv X pins σ H s)(hf:∀ b∈fp,fh X pins H b)(hC:s.heap.objs.size<=C)(jF:∀ b∈fp,b<s.heap.objs.size)
  (hn:s4.heap.Ns C m) (hk:∀ b o,s.heap.get? b=some o->s4.heap.get? b=some o) (ho:s4.os=s.os) (hg:s4.gens=s.gens):Inv (kI X N scope cl C s H fp pins) [] (gO σ fr none none) H s4:=by
 obtain⟨m0,Ts,hl⟩:=id I.loc
 refine⟨Hl S I hf hC jF,I.vC,ho,by rw[hg];exact I.bare,Un.kept hk,⟨m,hn,fun i y v e1 e2 e3=>?_⟩,fun y c h=>?_,I.bE.fresh hC,fun y c h=>I.dY y c (S.sub _ _ h),fun p hp=>?_,I.bE.kept hk,?_⟩
 ·match i,e1,e2 with
  | 0,e1,e2=>cases e2
  | 1,e1,e2=>cases e2
  | j+2,e1,e2=>
   have pU:(fr.map fun k=>(σ[k]?).join)[j]?=some (some v):=e2
   rw[aaB] at pU
   cases ek:fr[j]? with
   | none=>rw[ek] at pU;cases pU
   | some k=>
    rw[ek] at pU
    have e4:(σ[k]?).join=some v:=aac pU
    obtain⟨y',h1,h2,h3⟩:=S.out j k ek
    have Lk:N[j+2]?=some y:=e1
    obtain rfl:y'=y:=aac (h1.symm.trans Lk)
    have e5:σ[k]?=some (some v):=by
     cases q:σ[k]? with
     | none=>rw[q] at e4;cases e4
     | some w=>rw[q] at e4;exact aa2 some e4
    obtain⟨u,r,lk⟩:=hl k y' v h2 e5 (.inr (.inl h3))
    refine⟨u,r,.inr ?_⟩
    rcases lk with ⟨z,_⟩|⟨_,c,hc,kE⟩
    ·rw[h3] at z;cases z
    ·have e6:Kp (relabel scope X.env) y':=e3
     have Du:(relabel scope X.env).names.lookup y'=some .cell\/(relabel scope X.env).names.lookup y'=some .free:=by
      rcases e6 with e6|e6|e6
      ·exfalso
       have nd:=S.nd
       -- a name of tD tS own is tD first one
       exact S.iT _ _ h1 e6
      ·exact .inl e6
      ·exact .inr e6
     obtain⟨c2,zM⟩:=S.has y' Du
     have:=S.sub _ _ zM
     rw[hc] at this;cases this
     obtain⟨o,z1,z2⟩:=kE
     exact⟨Du,c,zM,o,hk _ _ z1,z2⟩
 ·obtain⟨v,o,z1,z2⟩:=I.cell y c (S.sub _ _ h)
  exact⟨v,o,hk _ _ z1,z2⟩
 ·rw[abi] at hp
  obtain⟨e,k,ne,nf,d⟩:=I.pin p hp
  refine⟨hk _ _ e,k,aal (aak (aae e) hC),fun z=>?_,d⟩
  rcases aaf.mp (I.dJ _ z) with q|q
  ·exact ne q
  ·exact nf q
 ·show (gO σ fr none none).length=N.length
  rw[S.len]
  simp[gO]
theorem kY {use:Option (Value->Sem Unit)}(hc:X.bq=true)(S:bD X N fr x x2 scope cl)(hi:PI X (.Tuple [.Name x px,.Name x2 nR] kt tp) iter wi)
  (ht:∀ (C:Addr) (s0:Shared) (H0:Hp) (fp:List Addr) (pins:List (Addr × Obj)),JE (kI X N scope cl C s0 H0 fp pins) ifs tc) (he:∀ (C:Addr) (s0:Shared) (H0:Hp) (fp:List Addr) (pins:List (Addr × Obj)),PE (kI X N scope cl C s0 H0 fp pins) elt te)
  (hs:∀ y,foldedSetIterable iter X.env y=pure y) (I:Inv X pins σ H s) (h:Ag X.K wi fr tc te σ H Q)
  (fin:∀ (acc C:Addr) (m:Str->Option Value) (H6:Hp) (s7:Shared),Q (.ref acc) H6->s7.heap.Ns C m->(∀ h':Heap,Heap.SameBut C s7.heap h'->Inv X pins σ H6 { s7 with heap:=h' })->H6 C=none->X.env.locals≠C->(∀ z c,X.env.cells.lookup z=some c->c≠C)->(∀ p∈X.pn++pins,p.1≠C)->X.s₀.heap.objs.size<=C->compPost (model X.prog X.w) X.A X.xe use R (.ref acc) C (.ok .next) s7) :
  wpAny (model X.prog X.w) X.A (comprehension (.ListComp elt [⟨.Tuple [.Name x px,.Name x2 nR] kt tp,iter,ifs,0⟩] scope pos) scope X.env ep (newList []) false (eval iter X.env) use) R X.xe s:=by
 refine ac2 (use:=use) rfl hs S.kW S.kind S.loc (dC (hi pins s σ H _ I h) fun v s1 h1=>dC h1 fun Ni s2 h2=>?_)
 obtain⟨it,fp,tn,J,H2,e,I2,T,vK,f2,hW⟩:=h2
 subst e
 have jF:∀ b∈fp,b<s2.heap.objs.size:=fun b hb=>by
  obtain⟨o,q,_⟩:=T.obj _ _ vK b hb
  exact aae q
 have Dw:H2 s2.heap.objs.size=none:=I2.bE.fresh (aai _)
 refine aa1 ?_
 have jG:∀ b o,s2.heap.get? b=some o->(s2.heap.push { cls:=.type "list",dict:=none,data:=.seq ([]:List Value).toArray }).get? b=some o:=fun b o q=>aab _ q
 have I3:Inv X pins σ (upd H2 s2.heap.objs.size (.lst [])) { s2 with heap:=s2.heap.push { cls:=.type "list",dict:=none,data:=.seq ([]:List Value).toArray } }:=
  I2.laid (t':=s2.toks) jG (aai _) ⟨abd _,[],0,.nil,aap _ rfl⟩
 obtain⟨W,⟨m0,w0⟩,turn⟩:=hW s2.heap.objs.size Dw
 have f3:∀ b∈fp,fh X pins (upd H2 s2.heap.objs.size (.lst [])) b:=fun b hb=>⟨by rw[aH (aal (jF b hb))];exact (f2 b hb).1,(f2 b hb).2⟩
 refine aem S.fX (by intro y hy;simp at hy) (fun h4 GF OI=>?_) S.kind
 have oC:∀ b∈fp,b<(s2.heap.push { cls:=.type "list",dict:=none,data:=.seq ([]:List Value).toArray }).objs.size:=fun b hb=>by
  rw[aax]
  exact aaM (jF b hb)
 have jH:∀ b o,(s2.heap.push { cls:=.type "list",dict:=none,data:=.seq ([]:List Value).toArray }).get? b=some o->h4.get? b=some o:=fun b o q=>
  (OI.2 b (aal (aae q))).trans (aab _ q)
 have I4:Inv (kI X N scope cl (s2.heap.push { cls:=.type "list",dict:=none,data:=.seq ([]:List Value).toArray }).objs.size { s2 with heap:=s2.heap.push { cls:=.type "list",dict:=none,data:=.seq ([]:List Value).toArray } } (upd H2 s2.heap.objs.size (.lst [])) fp pins) [] (gO σ fr none none) (upd H2 s2.heap.objs.size (.lst []))
   { s2 with heap:=h4,toks:=s2.toks+([]:List (Str × Value)).length }:=yj S I3 f3 (aai _) oC GF jH rfl rfl
 have Dx:tn 0 h4:=T.keep _ _ _ vK fun b hb o q=>jH b o (jG b o q)
 generalize hY:kI X N scope cl (s2.heap.push { cls:=.type "list",dict:=none,data:=.seq ([]:List Value).toArray }).objs.size { s2 with heap:=s2.heap.push { cls:=.type "list",dict:=none,data:=.seq ([]:List Value).toArray } } (upd H2 s2.heap.objs.size (.lst [])) fp pins=Y at I4
 have vE:PE Y elt te:=hY▸he _ _ _ _ _
 have Dy:JE Y ifs tc:=hY▸ht _ _ _ _ _
 have eA:Y.A=X.A:=by rw[<- hY];rfl
 have eP:Y.prog=X.prog:=by rw[<- hY];rfl
 have ew:Y.w=X.w:=by rw[<- hY];rfl
 have eK:Y.K=X.K:=by rw[<- hY];rfl
 have eC:Y.bq=true:=by rw[<- hY];exact hc
 have eE:Y.env=compEnvC scope cl (s2.heap.push { cls:=.type "list",dict:=none,data:=.seq ([]:List Value).toArray }).objs.size X.env:=by rw[<- hY];rfl
 have eX:Y.xe=fun _ _=>False:=by rw[<- hY];rfl
 have hg:PG Y (.Tuple [.Name x px,.Name x2 nR] kt tp) (CN Y.K 2 (pI (jB 0) (pI (jB 1) Kw))):=by
  refine xM eC (aD ?_ (aD ?_ dE)) (by rfl) (by rfl)
  ·subst hY
   exact gJ (i:=0) S.nd S.hN (.inl (abf S.own)) (.inr (abf S.own))
  ·subst hY
   exact gJ (i:=1) S.nd S.Tv (.inl (abf S.tW)) (.inr (abf S.tW))
 have fY:∀ {H':Hp},(∀ b∈fp,H' b=none)->∀ b∈fp,fh Y [] H' b:=fun {H'} hn b hb=>by
  subst hY
  obtain⟨_,g2,g3,g4,g5,g6⟩:=f3 b hb
  refine⟨hn b hb,aal (oC b hb),fun z=>?_,.inl hb,fun y c q=>g5 y c (S.sub _ _ q),fun p hp=>?_⟩
  ·rcases aaf.mp (I3.dJ b z) with q|q
   ·exact g2 q
   ·exact g3 q
  ·rw[abi] at hp
   exact g6 p hp
 have loop:∀ s5:Shared,s5={ s2 with heap:=h4,toks:=s2.toks+([]:List (Str × Value)).length } ->
   codeAny (model X.prog X.w) X.A (.compLoop (.ListComp elt [⟨.Tuple [.Name x px,.Name x2 nR] kt tp,iter,ifs,0⟩] scope pos) 0 (.ref it) (.ref s2.heap.objs.size) (compEnvC scope cl (s2.heap.push { cls:=.type "list",dict:=none,data:=.seq ([]:List Value).toArray }).objs.size X.env))
    (compPost (model X.prog X.w) X.A X.xe use R (.ref s2.heap.objs.size) (s2.heap.push { cls:=.type "list",dict:=none,data:=.seq ([]:List Value).toArray }).objs.size) s5:=by
  rintro s5 rfl
  refine jr (fun n s'=>∃ i v v2 H' vs,Inv Y [] (gO σ fr v v2) H' s'/\tn i s'.heap/\(∀ b∈fp,H' b=none)/\W i n H' vs) ?_ m0 ⟨0,none,none,_,[],I4,Dx,fun b hb=>(f3 b hb).1,w0⟩
  rintro n s6 ⟨i,v6,XU,H6,vs,I6,Dz,DB,w6⟩
  obtain⟨aT,DC⟩:=turn i n H6 vs w6
  rcases DC with ⟨stop,qn⟩|⟨go,hz,step⟩
  ·have hd:=T.done Y eP ew eK eC i [] s6 _ H6 (fun _ _=>False) I6 (fY DB) Dz stop
   rw[eA] at hd
   refine aav hd (fun r s7 ⟨hr,I7⟩=>?_) fun _ _ z=>z.elim
   subst hr
   obtain⟨m,hn,_⟩:=id I7.loc
   rw[eE] at hn
   have eQ:∀ h':Heap,Heap.SameBut (s2.heap.push { cls:=.type "list",dict:=none,data:=.seq ([]:List Value).toArray }).objs.size s7.heap h'->Inv X pins σ H6 { s7 with heap:=h' }:=fun h' fF=>by
    subst hY
    exact tT I3 f3 (aai _) I7 fF
   have cf:H6 (s2.heap.push { cls:=.type "list",dict:=none,data:=.seq ([]:List Value).toArray }).objs.size=none:=by
    subst hY
    exact I7.free
   have big:∀ b o,s2.heap.get? b=some o->b≠(s2.heap.push { cls:=.type "list",dict:=none,data:=.seq ([]:List Value).toArray }).objs.size:=fun b o q=>aal (by rw[aax];exact aaM (aae q))
   obtain⟨m2,He,_⟩:=id I2.loc
   obtain⟨oL,_,_,zD,_⟩:=id He
   exact fin _ _ m H6 s7 qn hn eQ cf (big _ _ zD) (fun z c q=>by
    obtain⟨_,o,w1,_⟩:=I2.cell z c q
    exact big _ _ w1) (fun p hp=>by
    obtain⟨e,_⟩:=I2.pin p hp
    exact big _ _ e) (by
    rw[aax]
    exact acC (aag (aai _) I2.sz))
  ·have hd:=T.item Y eP ew eK eC i [] s6 _ H6 (fun _ _=>False) I6 (fY DB) Dz go
   rw[eA] at hd
   refine aav hd (fun r s7 ⟨u,hr,h7⟩=>?_) fun _ _ z=>z.elim
   subst hr
   refine aav h7 (fun _ s8 ⟨y,H8,I8,r8,y8,rO,Ll⟩=>?_) fun _ _ z=>z.elim
   have Ln:=I8.pinned (fY Ll) (T.obj _ _ rO)
   obtain⟨ta,va,vb,ey,OO,DK⟩:=step y _ y8
   have h9:=hg _ s8 _ H8 y u (fun σ9 H9=>σ9=gO σ fr (some va) (some vb)/\H9=H8) Ln r8 ⟨ta,[va,vb],ey,by rw[eK];exact OO,rfl,va,[vb],rfl,vb,[],rfl,rfl,rfl,rfl⟩
   rw[eA,eP,ew,eE,eX] at h9
   refine aav h9 (fun _ s9 ⟨σ9,H9,I9,e9,Lo⟩=>?_) fun _ _ z=>z.elim
   subst e9 Lo
   have vY:=Dy _ s9 _ _ _ I9 DK
   rw[eA,eP,ew,eE,eX] at vY
   refine aav vY (fun ok OJ ⟨VY,Ad,Ae⟩=>?_) fun _ _ z=>z.elim
   cases ok with
   | false=>
    rw[aar aaj] at Ae
    rw[aar aaj]
    obtain⟨m',hm,mG⟩:=Ae
    refine⟨m',hm,i+1,some va,some vb,_,vs,Ad.dM,T.keep _ _ _ rO fun b hb o q=>(Ad.pin (b,o) (aam _ (aam _ (aW hb q)))).1,fun b hb=>?_,mG⟩
    obtain⟨o,q,_⟩:=T.obj _ _ rO b hb
    exact (Ad.pin (b,o) (aam _ (aam _ (aW hb q)))).2.1
   | true=>
   rw[aaz rfl] at Ae
   rw[aaz rfl]
   have DD:=vE _ OJ _ _ _ Ad Ae
   rw[eA,eP,ew,eE,eX] at DD
   refine aav DD (fun Lp Bu ⟨tU,Bv,Lq,GJ,Lr,m',hm,mG⟩=>?_) fun _ _ z=>z.elim
   have DE:=dQ _ Bu _ Bv (.ref s2.heap.objs.size) [tU] (.ref s2.heap.objs.size) [Lp] (fun _ Af=>Af=upd Bv s2.heap.objs.size (.lst (vs++[tU]))) Lq rfl (.cons GJ .nil) ⟨_,vs,tU,rfl,rfl,Lr,hz,rfl⟩
   rw[eA,eP,ew,eX] at DE
   refine aav DE (fun _ Tt ⟨_,Af,yi,_,Ls⟩=>?_) fun _ _ z=>z.elim
   subst Ls
   refine⟨m',hm,i+1,some va,some vb,_,vs++[tU],yi.dM,T.keep _ _ _ rO fun b hb o q=>(yi.pin (b,o) (aam _ (aam _ (aW hb q)))).1,fun b hb=>?_,mG⟩
   obtain⟨o,q,_⟩:=T.obj _ _ rO b hb
   exact (yi.pin (b,o) (aam _ (aam _ (aW hb q)))).2.1
 exact ade (loop _ rfl) (T.self _ 0 _ _ _ Dx (loop _ rfl))
theorem jK (hc:X.bq=true)(S:bD X N fr x x2 scope cl)(hi:PI X (.Tuple [.Name x px,.Name x2 nR] kt tp) iter wi)(he:∀ (C:Addr) (s0:Shared) (H0:Hp) (fp:List Addr) (pins:List (Addr × Obj)),PE (kI X N scope cl C s0 H0 fp pins) elt te)
  (hs:∀ y,foldedSetIterable iter X.env y=pure y:=by intro _;rfl):PE X (.ListComp elt [⟨.Tuple [.Name x px,.Name x2 nR] kt tp,iter,[],0⟩] scope pos) (DJ X.K wi fr te):=by
 intro pins s σ H Q I h
 rw[ady]
 exact kY (tc:=fun _ H Q=>Q true H) (use:=none) hc S hi (fun _ _ _ _ _=>ki) he hs I h fun acc C m H6 s7 qn hn eQ _ _ _ _ _=>⟨m,hn,fun h' fF=>⟨.ref acc,H6,eQ h' fF,rfl,qn⟩⟩
end
structure ck (X:Cx)(N:List Str)(fr:List Nat)(x:Str)(scope:Scope)(cl:List (Str × Addr)):Prop where
 kind:scope.kind=.function
 Lz:∀ n:Nat,cellsFrom n scope.names cl=(x,n)::cl
 OP:∀ h:Heap,pushCells h scope.names=h.push { cls:=.type "cell",data:=.cell none }
 loc:∀ y∈scope.names,y.2=.local->scope.names.lookup y.1=some .local
 own:(relabel scope X.env).names.lookup x=some .cell
 kW:closureFor scope X.env=pure cl
 sub:∀ y c,cl.lookup y=some c->X.env.cells.lookup y=some c
 has:∀ y,((relabel scope X.env).names.lookup y=some .cell\/(relabel scope X.env).names.lookup y=some .free)->y=x\/∃ c,cl.lookup y=some c
 nd:N.Nodup
 hN:N[0]?=some x
 len:N.length=fr.length+1
 iT:∀ (j:Nat) (y:Str),N[j+1]?=some y->(relabel scope X.env).names.lookup y≠some .local
 out:∀ (j k:Nat),fr[j]?=some k->∃ y,N[j+1]?=some y/\X.N[k]?=some y/\X.env.kindOf y=some .cell
def GK (X:Cx)(N:List Str)(x:Str)(scope:Scope)(cl:List (Str × Addr))(C:Addr)(s0:Shared)(H0:Hp)(fp:List Addr)(pins:List (Addr × Obj)):Cx:=
 { X with N:=N,s₀:=s0,H₀:=H0,env:=compEnvC scope ((x,C+1)::cl) C X.env,outer:=X.stack,ex:=fp,fn:=fun y=>y==x,pn:=X.pn++pins,xe:=fun _ _=>False }
theorem pW {x y:Str}{n:Addr}{cl:List (Str × Addr)}{c:Addr}(h:((x,n)::cl).lookup y=some c):(y=x/\c=n)\/(y≠x/\cl.lookup y=some c):=by
 rw[aex] at h
 by_cases e:y=x
 ·subst e
  simp at h
  exact .inl ⟨rfl,h.symm⟩
 ·have:(y==x)=false:=by simpa using e
  rw[this] at h
  exact .inr ⟨e,h⟩
theorem v5 {x y:Str}{n:Addr}{cl:List (Str × Addr)}{c:Addr}(e:y≠x)(h:cl.lookup y=some c):((x,n)::cl).lookup y=some c:=by
 rw[aex]
 have:(y==x)=false:=by simpa using e
 rw[this]
 exact h
theorem Hm {M:Model}{A:Around}{E:Value->Shared->Prop}{s:Shared}{scope:Scope}{globals:Addr}{cl:List (Str × Addr)}{x:Str}{qual:Str}{code:Value}{env:Env}{builtins:Addr}{Q:Env->Shared->Prop}
  (Lz:∀ n:Nat,cellsFrom n scope.names cl=(x,n)::cl) (OP:∀ h:Heap,pushCells h scope.names=h.push { cls:=.type "cell",data:=.cell none })
  (hQ:Q (newEnv scope s.heap.objs.size globals ((x,s.heap.objs.size+1)::cl) qual none code (some env) builtins) { s with heap:=(s.heap.push { cls:=.type "dict",data:=.dict #[] }).push { cls:=.type "cell",data:=.cell none } }) :
  wpAny M A (newFunctionEnv scope globals cl [] qual none code (some env) builtins) Q E s:=by
 simp only[newFunctionEnv,Option.isSome_some,aef]
 refine aaa (wpAny_alloc ?_)
 refine aaa (wpAny_layCells _ (fun name kind cells=>by cases XW:kind==NameKind.cell<;>simp[XW]) _ _ _ _ ?_)
 rw[show ({ s with heap:=s.heap.push { cls:=.type "dict",data:=.dict #[] } }:Shared).heap.objs.size=s.heap.objs.size+1 from aax ..]
 rw[Lz,OP]
 refine aaa ?_
 rw[adB]
 exact aad (aad hQ)
section
variable {X:Cx}{N:List Str}{fr:List Nat}{x:Str}{scope:Scope}{cl:List (Str × Addr)}{elt iter:Expr}{px pos:Pos}{wi:TI}{te:TE}
theorem LA {pins:List (Addr × Obj)}{σ:St}{H:Hp}{s:Shared}{fp:List Addr}{C:Addr}(S:ck X N fr x scope cl)(I:Inv X pins σ H s)(hf:∀ b∈fp,fh X pins H b)(hC:s.heap.objs.size<=C)(jF:∀ b∈fp,b<s.heap.objs.size):(GK X N x scope cl C s H fp pins).Ok where
 mod:=I.ok.mod
 kind:=S.kind
 glob:=I.ok.glob
 blt:=I.ok.blt
 above:=hC
 inj:=fun y z c h1 h2=>by
  have low:∀ y,cl.lookup y=some c->c≠C+1:=fun y q=>by
   obtain⟨v,o,z1,_⟩:=I.cell y c (S.sub _ _ q)
   exact aal (aaM (aak (aae z1) hC))
  rcases pW h1 with ⟨a1,a2⟩|⟨_,a2⟩<;>rcases pW h2 with ⟨b1,b2⟩|⟨_,b2⟩
  ·rw[a1,b1]
  ·exact absurd a2 (low _ b2)
  ·exact absurd b2 (low _ a2)
  ·exact I.ok.inj y z c (S.sub _ _ a2) (S.sub _ _ b2)
 has:=fun y h=>by
  by_cases e:y=x
  ·subst e
   exact⟨C+1,by show List.lookup y ((y,C+1)::cl)=some (C+1);simp⟩
  ·rcases S.has y h with z|⟨c,z⟩
   ·exact absurd z e
   ·exact⟨c,v5 e z⟩
 Cz:=fun y c hf h=>by
  have e:y=x:=by simpa [GK] using hf
  rcases pW h with ⟨_,a⟩|⟨a,_⟩
  ·rw[a]
   exact acC hC
  ·exact absurd e a
 hd:=I.ok.hd
 hs:=I.ok.hs
 frames:=I.ok.frames
 xK:=.inl rfl
 GS:=fun b hb=>⟨aal (aak (jF b hb) hC),fun y c h=>by
  rcases pW h with ⟨_,a⟩|⟨_,a⟩
  ·rw[a]
   exact abX (aaM (aak (jF b hb) hC))
  ·exact (hf b hb).2.2.2.2.1 y c (S.sub _ _ a)⟩
 bs:=fun b o e=>I.bs b o e
 pF:=aag I.ok.pF I.sz
 kO:=fun b o e hb=>by
  rcases (hf b hb).2.2.2.1 with z|z
  ·exact I.ok.kO b o e z
  ·exact absurd (aak (aae e) (aag I.ok.pF z)) (abo _)
 pG:=fun b hb z=>by
  rcases aaf.mp (I.dJ b z) with e|e
  ·exact (hf b hb).2.1 e
  ·exact (hf b hb).2.2.1 e
 iu:=I.stack
 r9:=I.kf
theorem Bx {pins:List (Addr × Obj)}{σ:St}{H:Hp}{s s4:Shared}{fp:List Addr}{C:Addr}{m:Str->Option Value}(S:ck X N fr x scope cl)(I:Inv X pins σ H s)(hf:∀ b∈fp,fh X pins H b)(hC:s.heap.objs.size<=C)(jF:∀ b∈fp,b<s.heap.objs.size)
  (hn:s4.heap.Ns C m) (LB:s4.heap.IsCell (C+1) none) (hk:∀ b o,s.heap.get? b=some o->s4.heap.get? b=some o) (ho:s4.os=s.os) (hg:s4.gens=s.gens):Inv (GK X N x scope cl C s H fp pins) [] (c9 σ fr none) H s4:=by
 obtain⟨m0,Ts,hl⟩:=id I.loc
 refine⟨LA S I hf hC jF,I.vC,ho,by rw[hg];exact I.bare,Un.kept hk,⟨m,hn,fun i y v e1 e2 e3=>?_⟩,fun y c h=>?_,I.bE.fresh hC,fun y c h=>(by
   rcases pW h with ⟨_,a⟩|⟨_,a⟩
   ·rw[a];exact I.bE.fresh (acC hC)
   ·exact I.dY y c (S.sub _ _ a)),fun p hp=>?_,I.bE.kept hk,?_⟩
 ·cases i with
  | zero=>cases e2
  | succ j=>
   have pU:(fr.map fun k=>(σ[k]?).join)[j]?=some (some v):=e2
   rw[aaB] at pU
   cases ek:fr[j]? with
   | none=>rw[ek] at pU;cases pU
   | some k=>
    rw[ek] at pU
    have e4:(σ[k]?).join=some v:=aac pU
    obtain⟨y',h1,h2,h3⟩:=S.out j k ek
    have Lk:N[j+1]?=some y:=e1
    obtain rfl:y'=y:=aac (h1.symm.trans Lk)
    have e5:σ[k]?=some (some v):=by
     cases q:σ[k]? with
     | none=>rw[q] at e4;cases e4
     | some w=>rw[q] at e4;exact aa2 some e4
    obtain⟨u,r,lk⟩:=hl k y' v h2 e5 (.inr (.inl h3))
    refine⟨u,r,.inr ?_⟩
    rcases lk with ⟨z,_⟩|⟨_,c,hc,kE⟩
    ·rw[h3] at z;cases z
    ·have e6:Kp (relabel scope X.env) y':=e3
     have Du:(relabel scope X.env).names.lookup y'=some .cell\/(relabel scope X.env).names.lookup y'=some .free:=by
      rcases e6 with e6|e6|e6
      ·exfalso
       have nd:=S.nd
       -- a name of tD tS own is tD first one
       exact S.iT _ _ h1 e6
      ·exact .inl e6
      ·exact .inr e6
     have nx:y'≠x:=fun z=>by
      have:=lM S.nd h1 (z▸S.hN)
      exact absurd this (Nat.succ_ne_zero _)
     obtain⟨c2,zM⟩:=(S.has y' Du).resolve_left nx
     have:=S.sub _ _ zM
     rw[hc] at this;cases this
     obtain⟨o,z1,z2⟩:=kE
     exact⟨Du,c,v5 nx zM,o,hk _ _ z1,z2⟩
 ·rcases pW h with ⟨_,a⟩|⟨_,a⟩
  ·rw[a];exact⟨none,LB⟩
  ·obtain⟨v,o,z1,z2⟩:=I.cell y c (S.sub _ _ a)
   exact⟨v,o,hk _ _ z1,z2⟩
 ·rw[abi] at hp
  obtain⟨e,k,ne,nf,d⟩:=I.pin p hp
  refine⟨hk _ _ e,k,aal (aak (aae e) hC),fun z=>?_,d⟩
  rcases aaf.mp (I.dJ _ z) with q|q
  ·exact ne q
  ·exact nf q
 ·show (c9 σ fr none).length=N.length
  rw[S.len]
  simp[c9]
theorem Hn (I:Inv X pins σ H s)(hf:∀ b∈fp,fh X pins H b)(hC:s.heap.objs.size<=C)(J:Inv (GK X N x scope cl C s H fp pins) [] σ' H' s')(hs:Heap.SameBut C s'.heap h') :
  Inv X pins σ H' { s' with heap:=h' }:=by
 have ne:∀ b o,s.heap.get? b=some o->b≠C:=fun b o e=>aal (aak (aae e) hC)
 have u:Un (gI X.stack) fp H H' s.heap s'.heap:=J.base
 have u2:Un (gI X.stack) fp H H' s.heap h':=⟨fun b o e n hb hx=>(hs.2 b (ne b o e)).trans (u.keep b o e n hb hx),fun b o e n hb hx=>(by
   obtain⟨sl,q⟩:=u.slot b o e n hb hx
   exact⟨sl,(hs.2 b (ne b o e)).trans q⟩),u.free,fun b o e hx=>(by
   obtain⟨o',q⟩:=u.there b o e hx
   exact⟨o',(hs.2 b (ne b o e)).trans q⟩),u.iq,u.gC,u.ir⟩
 have nC:H' C=none:=J.free
 refine I.nM (s':={ s' with heap:=h' }) (ch:=fp) J.os u2 (J.bE.iQ fun b o hb q=>(hs.2 b fun z=>hb (z▸nC)).trans q) J.bare fun b hb=>?_
 obtain⟨_,f2,_,f4,f5,f6⟩:=hf b hb
 exact⟨f4,f2,f5,f6⟩
theorem pX {use:Option (Value->Sem Unit)}{R:Value->Shared->Prop}{Q:VK}{pins:List (Addr × Obj)}{s:Shared}{σ:St}{H:Hp}{ep:Pos}(hc:X.bq=true)(S:ck X N fr x scope cl)(hi:PI X (.Name x px) iter wi)
  (he:∀ (C:Addr) (s0:Shared) (H0:Hp) (fp:List Addr) (pins:List (Addr × Obj)),PE (GK X N x scope cl C s0 H0 fp pins) elt te) (hs:∀ y,foldedSetIterable iter X.env y=pure y) (I:Inv X pins σ H s) (h:tV wi fr te σ H Q)
  (fin:∀ (acc C:Addr) (m:Str->Option Value) (H6:Hp) (s7:Shared),Q (.ref acc) H6->s7.heap.Ns C m->(∀ h':Heap,Heap.SameBut C s7.heap h'->Inv X pins σ H6 { s7 with heap:=h' })->H6 C=none->X.env.locals≠C->(∀ z c,X.env.cells.lookup z=some c->c≠C)->(∀ p∈X.pn++pins,p.1≠C)->X.s₀.heap.objs.size<=C->compPost (model X.prog X.w) X.A X.xe use R (.ref acc) C (.ok .next) s7) :
  wpAny (model X.prog X.w) X.A (comprehension (.ListComp elt [⟨.Name x px,iter,[],0⟩] scope pos) scope X.env ep (newList []) false (eval iter X.env) use) R X.xe s:=by
 refine ac2 (use:=use) rfl hs S.kW S.kind S.loc (dC (hi pins s σ H _ I h) fun v s1 h1=>dC h1 fun Ni s2 h2=>?_)
 obtain⟨it,fp,tn,J,H2,e,I2,T,vK,f2,hW⟩:=h2
 subst e
 have jF:∀ b∈fp,b<s2.heap.objs.size:=fun b hb=>by
  obtain⟨o,q,_⟩:=T.obj _ _ vK b hb
  exact aae q
 have Dw:H2 s2.heap.objs.size=none:=I2.bE.fresh (aai _)
 refine aa1 ?_
 have jG:∀ b o,s2.heap.get? b=some o->(s2.heap.push { cls:=.type "list",dict:=none,data:=.seq ([]:List Value).toArray }).get? b=some o:=fun b o q=>aab _ q
 have I3:Inv X pins σ (upd H2 s2.heap.objs.size (.lst [])) { s2 with heap:=s2.heap.push { cls:=.type "list",dict:=none,data:=.seq ([]:List Value).toArray } }:=
  I2.laid (t':=s2.toks) jG (aai _) ⟨abd _,[],0,.nil,aap _ rfl⟩
 obtain⟨W,⟨m0,w0⟩,turn⟩:=hW s2.heap.objs.size Dw
 have f3:∀ b∈fp,fh X pins (upd H2 s2.heap.objs.size (.lst [])) b:=fun b hb=>⟨by rw[aH (aal (jF b hb))];exact (f2 b hb).1,(f2 b hb).2⟩
 refine Hm S.Lz S.OP ?_
 generalize Tw:((s2.heap.push { cls:=.type "list",dict:=none,data:=.seq ([]:List Value).toArray }).push { cls:=.type "dict",data:=.dict #[] }).push { cls:=.type "cell",data:=.cell none }=h4
 have GF:h4.Ns (s2.heap.push { cls:=.type "list",dict:=none,data:=.seq ([]:List Value).toArray }).objs.size (fun _=>none):=by
  rw[<- Tw]
  exact (Heap.Ns.new (s2.heap.push { cls:=.type "list",dict:=none,data:=.seq ([]:List Value).toArray }) (.type "dict")).keeps fun b o q=>aab _ q
 have LB:h4.IsCell ((s2.heap.push { cls:=.type "list",dict:=none,data:=.seq ([]:List Value).toArray }).objs.size+1) none:=by
  rw[<- Tw]
  exact⟨_,abH (by simp only[aax]) rfl,rfl⟩
 have oC:∀ b∈fp,b<(s2.heap.push { cls:=.type "list",dict:=none,data:=.seq ([]:List Value).toArray }).objs.size:=fun b hb=>by
  rw[aax]
  exact aaM (jF b hb)
 have jH:∀ b o,(s2.heap.push { cls:=.type "list",dict:=none,data:=.seq ([]:List Value).toArray }).get? b=some o->h4.get? b=some o:=fun b o q=>by
  rw[<- Tw]
  exact aab _ (aab _ q)
 have I4:Inv (GK X N x scope cl (s2.heap.push { cls:=.type "list",dict:=none,data:=.seq ([]:List Value).toArray }).objs.size { s2 with heap:=s2.heap.push { cls:=.type "list",dict:=none,data:=.seq ([]:List Value).toArray } } (upd H2 s2.heap.objs.size (.lst [])) fp pins) [] (c9 σ fr none) (upd H2 s2.heap.objs.size (.lst []))
   { s2 with heap:=h4 }:=Bx S I3 f3 (aai _) oC GF LB jH rfl rfl
 have Dx:tn 0 h4:=T.keep _ _ _ vK fun b hb o q=>jH b o (jG b o q)
 generalize hY:GK X N x scope cl (s2.heap.push { cls:=.type "list",dict:=none,data:=.seq ([]:List Value).toArray }).objs.size { s2 with heap:=s2.heap.push { cls:=.type "list",dict:=none,data:=.seq ([]:List Value).toArray } } (upd H2 s2.heap.objs.size (.lst [])) fp pins=Y at I4
 have vE:PE Y elt te:=hY▸he _ _ _ _ _
 have eA:Y.A=X.A:=by rw[<- hY];rfl
 have eP:Y.prog=X.prog:=by rw[<- hY];rfl
 have ew:Y.w=X.w:=by rw[<- hY];rfl
 have eK:Y.K=X.K:=by rw[<- hY];rfl
 have eC:Y.bq=true:=by rw[<- hY];exact hc
 have eE:Y.env=compEnvC scope ((x,(s2.heap.push { cls:=.type "list",dict:=none,data:=.seq ([]:List Value).toArray }).objs.size+1)::cl) (s2.heap.push { cls:=.type "list",dict:=none,data:=.seq ([]:List Value).toArray }).objs.size X.env:=by rw[<- hY];rfl
 have eX:Y.xe=fun _ _=>False:=by rw[<- hY];rfl
 have hg:PG Y (.Name x px) (jB 0):=by
  subst hY
  exact gJ (i:=0) S.nd S.hN (.inr S.own) (.inl (by simp[GK]))
 have fY:∀ {H':Hp},(∀ b∈fp,H' b=none)->∀ b∈fp,fh Y [] H' b:=fun {H'} hn b hb=>by
  subst hY
  obtain⟨_,g2,g3,g4,g5,g6⟩:=f3 b hb
  refine⟨hn b hb,aal (oC b hb),fun z=>?_,.inl hb,fun y c q=>(by
   rcases pW q with ⟨_,a⟩|⟨_,a⟩
   ·rw[a];exact abX (aaM (oC b hb))
   ·exact g5 y c (S.sub _ _ a)),fun p hp=>?_⟩
  ·rcases aaf.mp (I3.dJ b z) with q|q
   ·exact g2 q
   ·exact g3 q
  ·rw[abi] at hp
   exact g6 p hp
 have loop:∀ s5:Shared,s5={ s2 with heap:=h4 } ->
   codeAny (model X.prog X.w) X.A (.compLoop (.ListComp elt [⟨.Name x px,iter,[],0⟩] scope pos) 0 (.ref it) (.ref s2.heap.objs.size) (compEnvC scope ((x,(s2.heap.push { cls:=.type "list",dict:=none,data:=.seq ([]:List Value).toArray }).objs.size+1)::cl) (s2.heap.push { cls:=.type "list",dict:=none,data:=.seq ([]:List Value).toArray }).objs.size X.env))
    (compPost (model X.prog X.w) X.A X.xe use R (.ref s2.heap.objs.size) (s2.heap.push { cls:=.type "list",dict:=none,data:=.seq ([]:List Value).toArray }).objs.size) s5:=by
  rintro s5 rfl
  refine codeAny_compLoop_list (fun n s'=>∃ i v H' vs,Inv Y [] (c9 σ fr v) H' s'/\tn i s'.heap/\(∀ b∈fp,H' b=none)/\W i n H' vs) ?_ m0 ⟨0,none,_,[],I4,Dx,fun b hb=>(f3 b hb).1,w0⟩
  rintro n s6 ⟨i,v6,H6,vs,I6,Dz,DB,w6⟩
  obtain⟨aT,DC⟩:=turn i n H6 vs w6
  rcases DC with ⟨stop,qn⟩|⟨go,hz,step⟩
  ·have hd:=T.done Y eP ew eK eC i [] s6 _ H6 (fun _ _=>False) I6 (fY DB) Dz stop
   rw[eA] at hd
   refine aav hd (fun r s7 ⟨hr,I7⟩=>?_) fun _ _ z=>z.elim
   subst hr
   obtain⟨m,hn,_⟩:=id I7.loc
   rw[eE] at hn
   have eQ:∀ h':Heap,Heap.SameBut (s2.heap.push { cls:=.type "list",dict:=none,data:=.seq ([]:List Value).toArray }).objs.size s7.heap h'->Inv X pins σ H6 { s7 with heap:=h' }:=fun h' fF=>by
    subst hY
    exact Hn I3 f3 (aai _) I7 fF
   have cf:H6 (s2.heap.push { cls:=.type "list",dict:=none,data:=.seq ([]:List Value).toArray }).objs.size=none:=by
    subst hY
    exact I7.free
   have big:∀ b o,s2.heap.get? b=some o->b≠(s2.heap.push { cls:=.type "list",dict:=none,data:=.seq ([]:List Value).toArray }).objs.size:=fun b o q=>aal (by rw[aax];exact aaM (aae q))
   obtain⟨m2,He,_⟩:=id I2.loc
   obtain⟨oL,_,_,zD,_⟩:=id He
   exact fin _ _ m H6 s7 qn hn eQ cf (big _ _ zD) (fun z c q=>by
    obtain⟨_,o,w1,_⟩:=I2.cell z c q
    exact big _ _ w1) (fun p hp=>by
    obtain⟨e,_⟩:=I2.pin p hp
    exact big _ _ e) (by
    rw[aax]
    exact acC (aag (aai _) I2.sz))
  ·have hd:=T.item Y eP ew eK eC i [] s6 _ H6 (fun _ _=>False) I6 (fY DB) Dz go
   rw[eA] at hd
   refine aav hd (fun r s7 ⟨u,hr,h7⟩=>?_) fun _ _ z=>z.elim
   subst hr
   show wpAny _ _ ((pure ():Sem Unit) >>= fun _=>assign (.Name x px) _ u) _ _ s7
   refine aaa (aav h7 (fun _ s8 ⟨y,H8,I8,r8,y8,rO,Ll⟩=>?_) fun _ _ z=>z.elim)
   have Ln:=I8.pinned (fY Ll) (T.obj _ _ rO)
   have h9:=hg _ s8 _ H8 y u (fun σ9 H9=>σ9=c9 σ fr (some y)/\H9=H8) Ln r8 ⟨rfl,rfl⟩
   rw[eA,eP,ew,eE,eX] at h9
   refine aav h9 (fun _ s9 ⟨σ9,H9,I9,e9,Lo⟩=>?_) fun _ _ z=>z.elim
   subst e9 Lo
   have DD:=vE _ s9 _ _ _ I9 (step y _ y8)
   rw[eA,eP,ew,eE,eX] at DD
   refine aav DD (fun Lp Bu ⟨tU,Bv,Lq,GJ,Lr,m',hm,mG⟩=>?_) fun _ _ z=>z.elim
   have DE:=dQ _ Bu _ Bv (.ref s2.heap.objs.size) [tU] (.ref s2.heap.objs.size) [Lp] (fun _ Af=>Af=upd Bv s2.heap.objs.size (.lst (vs++[tU]))) Lq rfl (.cons GJ .nil) ⟨_,vs,tU,rfl,rfl,Lr,hz,rfl⟩
   rw[eA,eP,ew,eX] at DE
   refine aav DE (fun _ Tt ⟨_,Af,yi,_,Ls⟩=>?_) fun _ _ z=>z.elim
   subst Ls
   refine⟨m',hm,i+1,some y,_,vs++[tU],yi.dM,T.keep _ _ _ rO fun b hb o q=>(yi.pin (b,o) (aam _ (aam _ (aW hb q)))).1,fun b hb=>?_,mG⟩
   obtain⟨o,q,_⟩:=T.obj _ _ rO b hb
   exact (yi.pin (b,o) (aam _ (aam _ (aW hb q)))).2.1
 exact ade (loop _ rfl) (T.self _ 0 _ _ _ Dx (loop _ rfl))
theorem DL (hc:X.bq=true)(S:ck X N fr x scope cl)(hi:PI X (.Name x px) iter wi)(he:∀ (C:Addr) (s0:Shared) (H0:Hp) (fp:List Addr) (pins:List (Addr × Obj)),PE (GK X N x scope cl C s0 H0 fp pins) elt te)
  (hs:∀ y,foldedSetIterable iter X.env y=pure y:=by intro _;rfl):PE X (.ListComp elt [⟨.Name x px,iter,[],0⟩] scope pos) (tV wi fr te):=by
 intro pins s σ H Q I h
 rw[ady]
 exact pX (use:=none) hc S hi he hs I h fun acc C m H6 s7 qn hn eQ _ _ _ _ _=>⟨m,hn,fun h' fF=>⟨.ref acc,H6,eQ h' fF,rfl,qn⟩⟩
end
theorem nU (ns:List Int):∀ k,k<=ns.length->preSum (fun i=>ns.getD i 0) k=(ns.take k).sum
 | 0,_=>by simp[preSum]
 | k+1,h=>by
  have hk:k<ns.length:=h
  show preSum (fun i=>ns.getD i 0) k+ns.getD k 0=_
  rw[nU ns k (adu hk),aca,aat hk,aaA,aat hk,List.sum_append]
  show _+ns[k]=_+([ns[k]]:List Int).sum
  simp
theorem pY {X:Cx}(hc:X.bq=true):ff X (.builtin "sum") (fun xs H Q=>∃ (l:Addr) (ns:List Int),xs=[.ref l]/\H l=some (.lst (ns.map V.int))/\Q (.int ns.sum) H):=by
 intro pins s σ H xs us Q I rv h
 obtain⟨l,ns,rfl,hH,q⟩:=h
 obtain⟨u,rfl,ru⟩:=rv.one
 cases ru
 obtain⟨z,aK,n,r,hl,e⟩:=I.vQ hH
 have eJ:l<s.heap.objs.size:=aae e
 refine call_sum_walkAnyS (acm (A:=X.A.in1) ⟨_,e,rfl,n,rfl⟩ ?_)
 obtain⟨fp,st,W0,Tu,XX⟩:=jy (P:=X.prog) (w:=X.w) (I.CA hc).in1 s.heap.objs.size l (aal eJ) (I.Jm hc (I.bE.fresh (aai _))) aK.toArray
 have W:=W0.toS
 refine⟨s.heap.objs.size,_,_,_,_,_,_,fun i=>ns.getD i 0,rfl,W,?_,?_,?_,?_⟩
 ·exact Tu _ ⟨_,aap _ rfl,rfl,rfl⟩ ⟨_,aab _ e,rfl,n,rfl⟩ (fun b o x=>aab _ x)
 ·intro b hb
  have:=XX b hb
  rw[aax]
  rcases this with rfl|rfl|⟨o,ho⟩
  ·exact ada _
  ·exact aaM eJ
  ·exact aaM (aae ho)
 ·intro i v hP
  have hv:aK[i]?=some v:=by simpa using hP
  cases hn:ns[i]? with
  | none=>
   have h1:=r.none_of (i:=i) (by rw[aaB,hn];rfl)
   rw[h1] at hv;cases hv
  | some m=>
   obtain⟨u',h1,t,h2⟩:=r.get (i:=i) (x:=.int m) (by rw[aaB,hn];rfl)
   rw[h1] at hv;cases hv
   exact⟨t,by show v=Value.int (ns.getD i 0) t;rw[aaA,hn];exact h2⟩
 ·intro s' t' hm
  have hlen:aK.toArray.size=ns.length:=by rw[aau,<- r.length,aas]
  rw[hlen,nU ns _ (aai _),abz]
  obtain⟨h',g',d',tk,o'⟩:=s'
  obtain rfl:g'=s.gens:=hm.gens
  obtain rfl:d'=s.drawn:=hm.drawn
  obtain rfl:o'=s.os:=hm.os
  refine⟨.int ns.sum,H,?_,⟨_,rfl⟩,q⟩
  exact I.kept (h':=h') (t':=tk) fun b o q'=>hm.heap b o (fun zz=>by
   have:b=s.heap.objs.size:=by simpa using zz
   subst this
   exact absurd (aae q') (abo _)) (aab _ q')
section
variable {P:Program}{w:World}{A:Around}{E:Value->Shared->Prop}{s:Shared}
theorem kZ {j a:Addr}{i:Nat}{us:Array Value}{u:Value}{Q:Value->Shared->Prop}(g0:s.heap.IsTupleIter j a i)(g1:s.heap.IsTuple a us)(ex:us[i]?=some u)
  (q:∀ h',h'.IsTupleIter j a (i+1)->Heap.SameBut j s.heap h'->Q u { s with heap:=h' }):wpAny (model P w) A (Builtin.SmallTypes.nextOf (.ref j)) Q E s:=by
 obtain⟨o1,k1,k2,k3⟩:=id g0
 obtain⟨o2,k4,_,n2,k5⟩:=g1
 unfold Builtin.SmallTypes.nextOf
 refine aaa (aaJ (name:=Str.ofString "__next__") g0.typeIs abP (aa3 abP g0.typeIs adE ?_ (adz _)))
 show wpAny _ _ (field (.ref j) 0 >>= _) _ _ s
 refine aaa (aaG k1 k3 (x:=.ref a) rfl ?_)
 show wpAny _ _ (if (Value.ref a==Value.none)=true then _ else _) _ _ s
 rw[aar (show ¬ ((Value.ref a==Value.none)=true) from aaj)]
 show wpAny _ _ (field (.ref j) 1 >>= _) _ _ s
 refine aaa (aaG k1 k3 (x:=.int i 0) rfl ?_)
 show wpAny _ _ (seqItems? (.ref a) >>= _) _ _ s
 refine aaa (abh k4 k5 ?_)
 simp only[abn,ex]
 refine aaa (abB k1 k3 (by simp) (aad ⟨u,rfl,aad (q _ ?_ (aaX ..))⟩))
 refine⟨_,aa4 _ k1 (abG (aa0 k3 _)),(acO ..).trans k2,?_⟩
 rw[aa0 k3]
 simp[rawInt]
structure ZT (z TI TO j1 j2 a1 a2:Addr)(us vs:Array Value)(i:Nat)(f0:Value)(h:Heap):Prop where
 zip:IsZip h z TI TO f0
 aK:IsPair h TI (.ref j1) (.ref j2)
 to:∃ a b,IsPair h TO a b
 i1:h.IsTupleIter j1 a1 i
 i2:h.IsTupleIter j2 a2 i
theorem Hq {z TI TO j1 j2 a1 a2:Addr}{us vs:Array Value}{i:Nat}{u v:Value}{Q:Value->Shared->Prop}(D:ZipApart z TI TO j1 j2 a1 a2)(Z:ZT z TI TO j1 j2 a1 a2 us vs i .none s.heap)
  (t1:s.heap.IsTuple a1 us) (t2:s.heap.IsTuple a2 vs) (eu:us[i]?=some u) (ev:vs[i]?=some v)
  (q:∀ h',ZT z TI TO j1 j2 a1 a2 us vs (i+1) (rawInt s.heap.objs.size) h'->IsPair h' s.heap.objs.size u v->h'.objs.size=s.heap.objs.size+1 ->
   (∀ c o,c≠z->c≠TO->c≠j1->c≠j2->s.heap.get? c=some o->h'.get? c=some o)->Q (.ref s.heap.objs.size) { s with heap:=h' }) :
  wpAny (model P w) A (Builtin.«zip.__next__» ⟨[.ref z],[]⟩) (fun fin s'=>∃ v,fin=.done (.ret v)/\Q v s') E s:=by
 obtain⟨hz,hI,⟨p1,p2,hO⟩,y1,y2⟩:=Z
 show wpAny _ _ (field (.ref z) (1+1) >>= _) _ _ _
 refine aaa (aaG hz rfl (x:=.bool false) rfl ?_);show wpAny _ _ (field (.ref z) (2+1) >>= _) _ _ _
 refine aaa (aaG hz rfl (x:=.ref TI) rfl (aaa (abh hI rfl ?_)))
 refine aaa (m:=Builtin.SmallTypes.ownedTupleIsFree (.ref z)) ?_
 unfold Builtin.SmallTypes.ownedTupleIsFree;refine aaa (aaG hz rfl (x:=.none) rfl (aad ?_))
 simp only[aef]
 refine aaa (acb (aaa (aaG hz rfl (x:=.ref TO) rfl ?_)))
 refine aaa (abA hz (by simp) fun w1 yk b1=>?_)
 replace yk:IsZip w1 z TI TO .ellipsis:=yk
 refine aaa ?_
 simp only[adT,ad1,ad4,adB];refine aaa (aaa (adx ?_))
 refine aaa (m:=Builtin.SmallTypes.nextOf (.ref j1)) (kZ (y1.extBut b1.extBut D.i1z) (t1.extBut b1.extBut D.l1z) eu fun w2 Tx b2=>aad ?_)
 have OQ:IsPair w2 TO p1 p2:=b2.extBut _ _ D.TOi1 (b1.extBut _ _ D.TOz hO)
 refine aaa (abh OQ rfl (aaa (ads OQ fun w3 LC b3=>?_)))
 replace LC:IsPair w3 TO u p2:=LC
 refine aaa (aeW (aad ?_));refine aaa (aaa (adx ?_))
 refine aaa (m:=Builtin.SmallTypes.nextOf (.ref j2)) (kZ (((y2.extBut b1.extBut D.i2z).extBut b2.extBut D.i12.symm).extBut b3.extBut D.TOi2.symm) (((t2.extBut b1.extBut D.l2z).extBut b2.extBut D.l2i1).extBut b3.extBut D.l2TO) ev fun w4 Tz b4=>aad ?_)
 have OR:IsPair w4 TO u p2:=b4.extBut _ _ D.TOi2 LC
 refine aaa (abh OR rfl (aaa (ads OR fun w5 Hr b5=>?_)))
 replace Hr:IsPair w5 TO u v:=Hr
 refine aaa (aeW (aad (aad ?_)));refine aaa (abh Hr rfl (aaa (wpAny_newTuple ?_)))
 have v7:w5.objs.size=s.heap.objs.size:=by rw[b5.1,b4.1,b3.1,b2.1,b1.1]
 have Hs:IsZip w5 z TI TO .ellipsis:=b5.extBut _ _ D.TOz.symm (b4.extBut _ _ D.i2z.symm (b3.extBut _ _ D.TOz.symm (b2.extBut _ _ D.i1z.symm yk)))
 have v8:∀ c o,c≠z->c≠TO->c≠j1->c≠j2->s.heap.get? c=some o->w5.get? c=some o:=fun c o c1 c2 c3 c4 e=>b5.extBut _ _ c2 (b4.extBut _ _ c4 (b3.extBut _ _ c2 (b2.extBut _ _ c3 (b1.extBut _ _ c1 e))))
 have TB:w5.IsTupleIter j1 a1 (i+1):=((Tx.extBut b3.extBut D.TOi1.symm).extBut b4.extBut D.i12).extBut b5.extBut D.TOi1.symm
 have TC:w5.IsTupleIter j2 a2 (i+1):=Tz.extBut b5.extBut D.TOi2.symm
 have OS:z<w5.objs.size:=aae Hs
 refine aaa (m:=Builtin.SmallTypes.ownedTupleHandOut (.ref z) (.ref w5.objs.size)) ?_
 unfold Builtin.SmallTypes.ownedTupleHandOut
 have TF:IsZip (w5.push { cls:=.type "tuple",data:=.seq #[u,v] }) z TI TO .ellipsis:=aab _ Hs
 refine aaa (abA TF (by simp) fun w7 LD b7=>?_)
 replace LD:IsZip w7 z TI TO (rawInt w5.objs.size):=LD
 refine abA LD (by simp) fun w8 Ht b8=>?_
 replace Ht:IsZip w8 z TI TO (rawInt w5.objs.size):=Ht
 have up:∀ c o,c≠z->w5.get? c=some o->w8.get? c=some o:=fun c o c1 e=>b8.extBut _ _ c1 (b7.extBut _ _ c1 (aab _ e))
 have DM:IsPair w8 w5.objs.size u v:=b8.extBut _ _ (abX OS) (b7.extBut _ _ (abX OS) (aap _ rfl))
 have v9:w8.objs.size=w5.objs.size+1:=by rw[b8.1,b7.1,aax]
 rw[v7] at Ht DM v9
 refine aad ⟨_,rfl,?_⟩
 show Q (.ref w5.objs.size) _
 rw[v7]
 exact q w8 ⟨Ht,up _ _ D.TIz (v8 _ _ D.TIz D.TITO D.TIi1 D.TIi2 hI),⟨_,_,up _ _ D.TOz Hr⟩,(let ⟨o,e,r⟩:=TB;⟨o,up _ _ D.i1z e,r⟩),(let ⟨o,e,r⟩:=TC;⟨o,up _ _ D.i2z e,r⟩)⟩ DM v9 fun c o c1 c2 c3 c4 e=>up c o c1 (v8 c o c1 c2 c3 c4 e)
theorem LF {z TI TO j1 j2 a1 a2:Addr}{us vs:Array Value}{i:Nat}{Q:Fin->Shared->Prop}(ha:Still A s.heap)(nz:A.handled≠some (.ref z))(nj:A.handled≠some (.ref j1))(D:ZipApart z TI TO j1 j2 a1 a2)(Z:ZT z TI TO j1 j2 a1 a2 us vs i .none s.heap)
  (t1:s.heap.IsTuple a1 us) (eu:us[i]?=none)
  (q:∀ h' e,(∀ c o,c≠z->c≠TO->c≠j1->c≠j2->s.heap.get? c=some o->h'.get? c=some o)->(∃ o,h'.get? e=some o/\o.cls=.type "StopIteration")->E (.ref e) { s with heap:=h' }) :
  wpAny (model P w) A (Builtin.«zip.__next__» ⟨[.ref z],[]⟩) Q E s:=by
 obtain⟨hz,hI,⟨p1,p2,hO⟩,y1,y2⟩:=Z
 show wpAny _ _ (field (.ref z) (1+1) >>= _) _ _ _
 refine aaa (aaG hz rfl (x:=.bool false) rfl ?_);show wpAny _ _ (field (.ref z) (2+1) >>= _) _ _ _
 refine aaa (aaG hz rfl (x:=.ref TI) rfl (aaa (abh hI rfl ?_)))
 refine aaa (m:=Builtin.SmallTypes.ownedTupleIsFree (.ref z)) ?_
 unfold Builtin.SmallTypes.ownedTupleIsFree;refine aaa (aaG hz rfl (x:=.none) rfl (aad ?_))
 simp only[aef]
 refine aaa (acb (aaa (aaG hz rfl (x:=.ref TO) rfl ?_)))
 refine aaa (abA hz (by simp) fun w1 yk b1=>?_)
 replace yk:IsZip w1 z TI TO .ellipsis:=yk
 refine aaa ?_
 simp only[adT,ad1,ad4,adB];refine aaa (aaa (adx ?_))
 refine aaa (m:=Builtin.SmallTypes.nextOf (.ref j1)) (oq (ha.mono fun e o hh h=>b1.extBut _ _ (fun x=>nz (by rw[<- x];exact hh)) h) nj (y1.extBut b1.extBut D.i1z) (t1.extBut b1.extBut D.l1z) eu fun w2 e b2 he=>?_)
 obtain⟨oe,e1,e2⟩:=he
 have Hu:IsZip w2 z TI TO .ellipsis:=b2 _ _ D.i1z.symm yk
 have ez:e≠z:=fun x=>by
  subst x
  rw[Hu] at e1;cases e1;simp at e2
 exact abA Hu (by simp) fun w3 _ b3=>q w3 e (fun c o c1 _ c3 _ x=>b3.extBut _ _ c1 (b2 _ _ c3 (b1.extBut _ _ c1 x))) ⟨oe,b3.extBut _ _ ez e1,e2⟩
theorem LG (a1 a2:Addr)(us vs:Array Value) :
  Meets (Builtin.«zip.__new__» ⟨[.type "zip",.ref a1,.ref a2],[]⟩) (fun _ R s=>s.heap.IsTuple a1 us/\s.heap.IsTuple a2 vs /\
   ∀ h',(∀ c o,s.heap.get? c=some o->h'.get? c=some o)->ZT (s.heap.objs.size+4) (s.heap.objs.size+2) (s.heap.objs.size+3) s.heap.objs.size (s.heap.objs.size+1) a1 a2 us vs 0 .none h'->h'.objs.size=s.heap.objs.size+5->R (.ok (.ret (.ref (s.heap.objs.size+4)))) { s with heap:=h' }):=
 .of_wp fun prog w A R s h=>by
  obtain⟨hp,g,d,tk,os⟩:=s;obtain⟨t1,t2,h⟩:=h
  have LH:=sub_zip
  have T1:Heap.IsTuple (Shared.heap ⟨hp,g,d,tk,os⟩) a1 us:=t1
  have T2:Heap.IsTuple (Shared.heap ⟨hp.push { cls:=.type "tuple_iterator",data:=.fields #[.ref a1,.int 0 0] },g,d,tk,os⟩) a2 vs:=t2.push _
  wp_walk using abW T1,abW T2
  refine⟨_,rfl,?_⟩
  simp only[aax]
  refine h _ (fun c o e=>aab _ (aab _ (aab _ (aab _ (aab _ e))))) ⟨?_,?_,⟨.none,.none,?_⟩,⟨_,aab _ (aab _ (aab _ (aab _ (aap _ rfl)))),rfl,rfl⟩,⟨_,aab _ (aab _ (aab _ (abH (by simp only[aax]) rfl))),rfl,rfl⟩⟩ (by simp only[aax])
  ·exact abH (by simp only[aax]) rfl
  ·exact aab _ (aab _ (abH (by simp only[aax]) rfl))
  ·exact aab _ (abH (by simp only[aax]) rfl)
theorem Hv {a1 a2:Addr}{us vs:Array Value}{Q:Value->Shared->Prop}(t1:s.heap.IsTuple a1 us)(t2:s.heap.IsTuple a2 vs)
  (q:∀ h',(∀ c o,s.heap.get? c=some o->h'.get? c=some o)->ZT (s.heap.objs.size+4) (s.heap.objs.size+2) (s.heap.objs.size+3) s.heap.objs.size (s.heap.objs.size+1) a1 a2 us vs 0 .none h'->h'.objs.size=s.heap.objs.size+5->Q (.ref (s.heap.objs.size+4)) { s with heap:=h' }) :
  wpAny (model P w) A (call (.type "zip") [.ref a1,.ref a2]) Q E s:=by
 refine callType_new F.called_zip (by decide) (F.typeCall_zip_2 _ _) (F.newCall_zip_2 _ _) (fun obj=>F.args_object_init_3 obj _ _) F.entry_zip_new (LG a1 a2 us vs) ⟨t1,t2,fun h' k Z sz=>?_⟩
 exact⟨⟨_,Z.zip,rfl⟩,q h' k Z sz⟩
end
def RG (K:W.Frag)(a b:Addr):It:=
 ⟨fun i H=>∃ xs ys x y,aF K H a xs/\aF K H b ys/\xs[i]?=some x/\ys[i]?=some y,
  fun i H v H'=>∃ t x y,v=.ref t/\H t=none/\H'=upd H t (.tup [x,y])/\(∀ xs,aF K H a xs->xs[i]?=some x)/\∀ ys,aF K H b ys->ys[i]?=some y,
  fun i H=>∃ xs ys,aF K H a xs/\aF K H b ys/\xs.length<=i⟩
theorem Inv.oV {X:Cx}{pins:List (Addr × Obj)}{σ:St}{H:Hp}{s:Shared}{h':Heap}{t':Nat}{fp:List Addr}(I:Inv X pins σ H s)(k:∀ b o,b∉fp->s.heap.get? b=some o->h'.get? b=some o)(hf:∀ b∈fp,fh X pins H b):Inv X pins σ H { s with heap:=h',toks:=t' }:=by
 have nf:∀ b u,H b=some u->b∉fp:=fun b u e z=>by
  have:=(hf b z).1
  rw[this] at e;cases e
 have U:Un (gI X.stack) fp H H s.heap h':=⟨fun b o e _ _ hx=>k b o hx e,fun b o e _ _ hx=>⟨o.slots,k b o hx e⟩,fun _ _ _ n _=>n,fun b o e hx=>⟨o,k b o hx e⟩,fun _ _ e=>e,fun _ _ _ e=>e,fun b ps e=>⟨#[],by rw[e];simp⟩⟩
 refine I.nM (s':={ s with heap:=h',toks:=t' }) (ch:=fp) rfl U (I.bE.iQ fun b o hb e=>k b o (fun z=>hb (hf b z).1) e) I.bare fun b hb=>?_
 obtain⟨_,f1,_,f3,f4,f5⟩:=hf b hb
 exact⟨f3,f1,f4,f5⟩
theorem DN {P:Program}{w:World}{K:W.Frag}{elts:List Expr}{kt:Nat}{tp:Pos}{z TI TO j1 j2 a b:Addr}(D:ZipApart z TI TO j1 j2 a b)(us vs:Array Value) :
  Turn P w K (.Tuple elts kt tp) (RG K a b) [z,TI,TO,j1,j2] z (fun i h=>ZT z TI TO j1 j2 a b us vs i .none h) where
 mem:=by simp
 obj:=fun i h st c hc=>by
  obtain⟨hz,hI,⟨p1,p2,hO⟩,y1,y2⟩:=st
  simp only[aaf,aaF,abN] at hc
  rcases hc with rfl|rfl|rfl|rfl|rfl
  ·exact⟨_,hz,fun v q=>by cases q⟩
  ·exact⟨_,hI,fun v q=>by cases q⟩
  ·exact⟨_,hO,fun v q=>by cases q⟩
  ·obtain⟨o,e,c,d⟩:=y1
   exact⟨o,e,fun v q=>by rw[d] at q;cases q⟩
  ·obtain⟨o,e,c,d⟩:=y2
   exact⟨o,e,fun v q=>by rw[d] at q;cases q⟩
 keep:=fun i h h' st k=>by
  obtain⟨hz,hI,⟨p1,p2,hO⟩,y1,y2⟩:=st
  exact⟨k z (by simp) _ hz,k TI (by simp) _ hI,⟨p1,p2,k TO (by simp) _ hO⟩,(let ⟨o,e,r⟩:=y1;⟨o,k j1 (by simp) _ e,r⟩),(let ⟨o,e,r⟩:=y2;⟨o,k j2 (by simp) _ e,r⟩)⟩
 item:=by
  intro X hP hw hK hc i pins s σ H E I hf st hg
  subst hP hw hK
  obtain⟨xs,ys,x,y,qx,qy,ex,ey⟩:=hg
  obtain⟨aK,rx,px,lx⟩:=I.tuple qx
  obtain⟨its',ry,py,ly⟩:=I.tuple qy
  obtain⟨u,hu,ru⟩:=rx.get ex
  obtain⟨v,hv,rv⟩:=ry.get ey
  have ht:s.TypeIs (.ref z) "zip":=⟨_,st.zip,rfl⟩
  unfold pyNext
  have vD:ZT z TI TO j1 j2 a b aK.toArray its'.toArray i .none s.heap:=⟨st.zip,st.aK,st.to,st.i1,st.i2⟩
  refine aaa (abF (aaJ (name:=Str.ofString "__next__") ht aco (aa3 aco ht aed
   (Hq D vD px py (u:=u) (v:=v) (by simpa using hu) (by simpa using hv) fun h' Z np sz k=>aad ?_) (ad0 _))))
  refine⟨_,rfl,wpAny_letOwnedTupleGo_zip Z.zip fun h2 Hu b2=>?_⟩
  have cz:z<s.heap.objs.size:=aae st.zip
  have k2:∀ c o,c∉[z,TI,TO,j1,j2]->s.heap.get? c=some o->h2.get? c=some o:=fun c o hc e=>by
   simp only[aaf,aaF,abN,not_or] at hc
   exact b2.extBut _ _ hc.1 (k c o hc.1 hc.2.2.1 hc.2.2.2.1 hc.2.2.2.2 e)
  have I2:Inv X pins σ H { s with heap:=h2 }:=I.oV (t':=s.toks) k2 hf
  have RF:IsPair h2 s.heap.objs.size u v:=b2.extBut _ _ (abX cz) np
  have fr:H s.heap.objs.size=none:=I.bE.fresh (aai _)
  have I3:Inv X pins σ (upd H s.heap.objs.size (.tup [x,y])) { s with heap:=h2 }:=by
   have U:Un (gI X.stack) [z,TI,TO,j1,j2] H (upd H s.heap.objs.size (.tup [x,y])) s.heap h2:=
    ⟨fun c o e _ _ hx=>k2 c o hx e,fun c o e _ _ hx=>⟨o.slots,k2 c o hx e⟩,fun c o e n _=>(by rw[aH (aal (aae e))];exact n),fun c o e hx=>⟨o,k2 c o hx e⟩,
     fun c zs e=>(by rw[aH (aN e fr)];exact e),fun c o w e=>(by rw[aH (aN e fr)];exact e),fun c ps e=>⟨#[],by rw[aH (aN e fr),e];simp⟩⟩
   refine I.nM (s':={ s with heap:=h2 }) (ch:=[z,TI,TO,j1,j2]) rfl U (I2.bE.more fr ?_) I.bare fun c hc=>?_
   ·exact⟨by show 2<=sizeLine;decide,[u,v],.cons ru (.cons rv .nil),⟨_,RF,rfl,_,rfl⟩⟩
   ·obtain⟨_,f1,_,f3,f4,f5⟩:=hf c hc
    exact⟨f3,f1,f4,f5⟩
  refine⟨.ref s.heap.objs.size,_,I3,rfl,⟨_,x,y,rfl,fr,rfl,fun zs hz=>by rw[I.kg hz qx];exact ex,fun zs hz=>by rw[I.kg hz qy];exact ey⟩,?_,fun c hc=>?_⟩
  ·obtain⟨o1,e1,r1⟩:=Z.i1
   obtain⟨o2,e2,r2⟩:=Z.i2
   obtain⟨p1,p2,e3⟩:=Z.to
   exact⟨Hu,b2.extBut _ _ D.TIz Z.aK,⟨p1,p2,b2.extBut _ _ D.TOz e3⟩,⟨o1,b2.extBut _ _ D.i1z e1,r1⟩,⟨o2,b2.extBut _ _ D.i2z e2,r2⟩⟩
  ·have h0:=(hf c hc).1
   rw[aH ?_]
   ·exact h0
   ·have vK:=st
    obtain⟨hz,hI,⟨p1,p2,hO⟩,⟨o1,y1,_⟩,⟨o2,y2,_⟩⟩:=vK
    simp only[aaf,aaF,abN] at hc
    rcases hc with rfl|rfl|rfl|rfl|rfl
    ·exact aal (aae hz)
    ·exact aal (aae hI)
    ·exact aal (aae hO)
    ·exact aal (aae y1)
    ·exact aal (aae y2)
 done:=by
  intro X hP hw hK hc i pins s σ H E I hf st hg
  subst hP hw hK
  obtain⟨xs,ys,qx,qy,ln⟩:=hg
  obtain⟨aK,rx,px,lx⟩:=I.tuple qx
  have ht:s.TypeIs (.ref z) "zip":=⟨_,st.zip,rfl⟩
  have hl:=rx.length
  unfold pyNext
  have vD:ZT z TI TO j1 j2 a b aK.toArray vs i .none s.heap:=⟨st.zip,st.aK,st.to,st.i1,st.i2⟩
  refine aaa (abF (aaJ (name:=Str.ofString "__next__") ht aco (aa3 aco ht aed
   (LF (I.CA hc) (I.Jm hc (hf z (by simp)).1) (I.Jm hc (hf j1 (by simp)).1) D vD px (by simp;omega) fun h' e k he=>?_) (ad0 _))))
  obtain⟨o,ho,LB⟩:=he
  refine aaa (acs (T:="StopIteration") (b:=true) ⟨o,ho,LB⟩ adk ?_)
  refine aad ⟨rfl,I.oV (t':=s.toks) (fun c o hc e=>?_) hf⟩
  simp only[aaf,aaF,abN,not_or] at hc
  exact k c o hc.1 hc.2.2.1 hc.2.2.2.1 hc.2.2.2.2 e
 self:=fun _ _ _ _ _ st h=>aea st.zip h
inductive JG (K:W.Frag)(R:It->Hp->Prop)(vs:List V)(H1:Hp):Prop
 | mk:∀ (a b:Addr) (xs ys:List V),(vs=[.ref a,.ref b])->(aF K H1 a xs)->(aF K H1 b ys)->(R (RG K a b) H1)->JG K R vs H1
def TH (K:W.Frag)(ta:TA):TI:=fun σ H R=>ta σ H fun vs H1=>JG K R vs H1
theorem DO {X:Cx}{elts:List Expr}{kt:Nat}{tp:Pos}{a b:Expr}{ta:TA}{p pos:Pos}(hg:Gl X "zip")(hm:X.mg "zip"=none)(ha:PA X [a,b] ta)(hs:starEach [a,b] X.env=[(false,eval a X.env),(false,eval b X.env)]:=by rfl)(OU:starEach [b] X.env=[(false,eval b X.env)]:=by rfl) :
  PI X (.Tuple elts kt tp) (.Call (.Name "zip" p) [a,b] [] pos) (TH X.K ta):=by
 intro pins s σ H R I h
 refine Call_ (mx I hg hm boot_zip (acv (dC (ha pos pins s σ H _ I h) fun us s1 ⟨vs,H1,I1,r1,q1⟩=>?_) (by rw[hs,OU]) (by rw[OU];rfl)))
 obtain⟨x,y,xs,ys,e,qx,qy,q⟩:=q1
 subst e
 cases r1 with
 | cons r rr=>
  cases rr with
  | cons r' rr=>
   cases rr
   cases r
   cases r'
   obtain⟨aK,rx,px,lx⟩:=I1.tuple qx
   obtain⟨its',ry,py,ly⟩:=I1.tuple qy
   refine Hv (us:=aK.toArray) (vs:=its'.toArray) px py fun h' k Z sz=>?_
   refine aea Z.zip ?_
   have I2:Inv X pins σ H1 { s1 with heap:=h' }:=I1.kept (t':=s1.toks) k
   have l1:x<s1.heap.objs.size:=by
    obtain⟨o,e,_⟩:=px
    exact aae e
   have l2:y<s1.heap.objs.size:=by
    obtain⟨o,e,_⟩:=py
    exact aae e
   refine⟨_,[s1.heap.objs.size+4,s1.heap.objs.size+2,s1.heap.objs.size+3,s1.heap.objs.size,s1.heap.objs.size+1],_,_,H1,rfl,I2,DN (zipApart_new l1 l2) aK.toArray its'.toArray,Z,fun c hc=>?_,q⟩
   have big:s1.heap.objs.size<=c:=by
    simp only[aaf,aaF,abN] at hc
    rcases hc with rfl|rfl|rfl|rfl|rfl<;>simp
   exact I1.xN big (I1.bE.fresh big)
def LI (K:W.Frag)(wi:TI)(fr:List Nat)(te:TE)(k:Nat):TS:=fun D σ H=>DJ K wi fr te σ H fun v H'=>D.nx (σ.set k (some v)) H'
section
variable {X:Cx}{N:List Str}{fr:List Nat}{x x2:Str}{scope:Scope}{cl:List (Str × Addr)}{elt iter:Expr}{px nR tp pos:Pos}{kt:Nat}{wi:TI}{te:TE}
theorem DP {y:Str}{py pV:Pos}{k:Nat}(hN:X.N.Nodup)(hk:X.N[k]?=some y)(hy:Loc X.env.scope y)(Hi:swapsWith (.ListComp elt [⟨.Tuple [.Name x px,.Name x2 nR] kt tp,iter,[],0⟩] scope pos) (some (.Name y py)) pV.line X.env=pure true)(hc:X.bq=true)(S:bD X N fr x x2 scope cl)(hi:PI X (.Tuple [.Name x px,.Name x2 nR] kt tp) iter wi)(he:∀ (C:Addr) (s0:Shared) (H0:Hp) (fp:List Addr) (pins:List (Addr × Obj)),PE (kI X N scope cl C s0 H0 fp pins) elt te)
  (hf:X.fn y=true\/X.env.scope.names.lookup y=some .local) (hs:∀ y,foldedSetIterable iter X.env y=pure y:=by intro _;rfl):PS X (.Assign [.Name y py] (.ListComp elt [⟨.Tuple [.Name x px,.Name x2 nR] kt tp,iter,[],0⟩] scope pos) pV) (LI X.K wi fr te k):=by
 intro pins s σ H D I h
 rw[adl _ _ _ _ Hi]
 refine aaa (abp (aaa ?_))
 show wpAny _ X.A (do let _ <- comprehension (.ListComp elt [⟨.Tuple [.Name x px,.Name x2 nR] kt tp,iter,[],0⟩] scope pos) scope X.env _ (newList []) false (eval iter X.env) (some (assign (.Name y py) X.env))) _ _ s
 refine aaa (aav (kY (tc:=fun _ H Q=>Q true H) (Q:=fun v H'=>D.nx (σ.set k (some v)) H') (use:=some (assign (.Name y py) X.env)) (R:=fun _ s'=>SP X pins D .next s') hc S hi (fun _ _ _ _ _=>ki) he hs I h (fun acc C m H6 s7 qn hn eQ cf cL cC cP cS=>by
  have J7:Inv X pins σ H6 s7:=eQ s7.heap ⟨rfl,fun _ _=>rfl⟩
  show wpAny _ X.A (assign (.Name y py) X.env (.ref acc)) _ _ _
  refine adh (iw J7 hN hk hy (v:=.ref acc) rfl (fun s8 J8 ⟨a,Lv,ha⟩=>?_) hf)
  have aC:C≠a:=by
   rcases ha with e|e
   ·rw[e];exact Ne.symm cL
   ·exact Ne.symm (cC _ _ e)
  exact⟨m,hn.sameBut Lv aC,fun h' fF=>⟨_,H6,J8.off fF cS cf (Ne.symm cL) cC cP,qn⟩⟩)) (fun _ s' hq=>aad (aad hq)) fun _ _ e=>e)
theorem wa {y:Str}{py pV:Pos}{k:Nat}(hN:X.N.Nodup)(hk:X.N[k]?=some y)(hy:Loc X.env.scope y)(Hi:swapsWith (.ListComp elt [⟨.Name x px,iter,[],0⟩] scope pos) (some (.Name y py)) pV.line X.env=pure true)(hc:X.bq=true)(S:ck X N fr x scope cl)(hi:PI X (.Name x px) iter wi)(he:∀ (C:Addr) (s0:Shared) (H0:Hp) (fp:List Addr) (pins:List (Addr × Obj)),PE (GK X N x scope cl C s0 H0 fp pins) elt te)
  (hf:X.fn y=true\/X.env.scope.names.lookup y=some .local) (hs:∀ y,foldedSetIterable iter X.env y=pure y:=by intro _;rfl):PS X (.Assign [.Name y py] (.ListComp elt [⟨.Name x px,iter,[],0⟩] scope pos) pV) (DG wi fr te k):=by
 intro pins s σ H D I h
 rw[adl _ _ _ _ Hi]
 refine aaa (abp (aaa ?_))
 show wpAny _ X.A (do let _ <- comprehension (.ListComp elt [⟨.Name x px,iter,[],0⟩] scope pos) scope X.env _ (newList []) false (eval iter X.env) (some (assign (.Name y py) X.env))) _ _ s
 refine aaa (aav (pX (use:=some (assign (.Name y py) X.env)) (R:=fun _ s'=>SP X pins D .next s') hc S hi he hs I h (fun acc C m H6 s7 qn hn eQ cf cL cC cP cS=>by
  have J7:Inv X pins σ H6 s7:=eQ s7.heap ⟨rfl,fun _ _=>rfl⟩
  show wpAny _ X.A (assign (.Name y py) X.env (.ref acc)) _ _ _
  refine adh (iw J7 hN hk hy (v:=.ref acc) rfl (fun s8 J8 ⟨a,Lv,ha⟩=>?_) hf)
  have aC:C≠a:=by
   rcases ha with e|e
   ·rw[e];exact Ne.symm cL
   ·exact Ne.symm (cC _ _ e)
  exact⟨m,hn.sameBut Lv aC,fun h' fF=>⟨_,H6,J8.off fF cS cf (Ne.symm cL) cC cP,qn⟩⟩)) (fun _ s' hq=>aad (aad hq)) fun _ _ e=>e)
end
theorem yl {K:W.Frag}{a b:Addr}{xs ys:List V}{te:TE}{σ:V->V->St}{H:Hp}{Q:VK}(hx:∀ H',av H H'->aF K H' a xs)(hy:∀ H',av H H'->aF K H' b ys)(hl:xs.length=ys.length)(hn:xs.length<sizeLine)(f:V->V->V)
  (he:∀ (i:Nat) (x y:V) (H':Hp) (Q':VK),xs[i]?=some x->ys[i]?=some y->av H H'->(∀ H2,av H' H2->Q' (f x y) H2)->te (σ x y) H' Q')
  (q:∀ p H',av H H'->H p=none->H' p=some (.lst (List.zipWith f xs ys))->Q (.ref p) H'):jJ K (RG K a b) Q H te σ:=by
 intro acc aT
 have zl:(List.zipWith f xs ys).length=xs.length:=by rw[List.length_zipWith,<- hl];simp
 refine⟨fun i m H' vs=>i<=xs.length/\m=xs.length-i/\av H H'/\H' acc=some (.lst vs)/\vs=(List.zipWith f xs ys).take i,⟨xs.length,abd _,by simp,ai aT _,ag,by simp⟩,?_⟩
 rintro i m H' vs ⟨hi,rfl,g,ha,rfl⟩
 refine⟨ha,?_⟩
 by_cases h:i=xs.length
 ·refine .inl ⟨⟨xs,ys,hx _ g,hy _ g,by omega⟩,q acc H' g aT ?_⟩
  rw[ha,h,<- zl,abz]
 ·have eJ:i<xs.length:=by omega
  have DQ:i<ys.length:=by omega
  refine .inr ⟨⟨xs,ys,xs[i],ys[i],hx _ g,hy _ g,by simp[eJ],by simp[DQ]⟩,by rw[abU,zl];omega,?_⟩
  rintro z H2 ⟨t,x,y,rfl,ht,rfl,ex,ey⟩
  have Kn:=ex xs (hx _ g)
  have Nr:=ey ys (hy _ g)
  have g2:av H' (upd H' t (.tup [x,y])):=ai ht _
  refine⟨t,x,y,rfl,aF.of ag,he i x y _ _ Kn Nr (g.trans g2) fun H3 g3=>⟨g3 _ _ (g2 _ _ ha),xs.length-(i+1),by omega,by omega,rfl,de (g.trans (g2.trans g3)) aT,ag,?_⟩⟩
  rw[aca,List.getElem?_zipWith,Kn,Nr]
  rfl
theorem ym {K:W.Frag}{a:Addr}{xs:List V}{te:TE}{σ:V->V->St}{H:Hp}{Q:VK}(hx:∀ H',av H H'->aF K H' a xs)(hn:xs.length<sizeLine)(p1 p2 f:Nat->V)(hp:∀ (i:Nat) (x:V),xs[i]?=some x->∃ t,x=.ref t/\H t=some (.tup [p1 i,p2 i]))
  (he:∀ (i:Nat) (H':Hp) (Q':VK),i<xs.length->av H H'->(∀ H2,av H' H2->Q' (f i) H2)->te (σ (p1 i) (p2 i)) H' Q')
  (q:∀ p H',av H H'->H p=none->H' p=some (.lst ((List.range xs.length).map f))->Q (.ref p) H'):jJ K (CS K a) Q H te σ:=by
 intro acc aT
 refine⟨fun i m H' vs=>i<=xs.length/\m=xs.length-i/\av H H'/\H' acc=some (.lst vs)/\vs=(List.range i).map f,⟨xs.length,abd _,by simp,ai aT _,ag,by simp⟩,?_⟩
 rintro i m H' vs ⟨hi,rfl,g,ha,rfl⟩
 refine⟨ha,?_⟩
 by_cases h:i=xs.length
 ·refine .inl ⟨⟨xs,hx _ g,by omega⟩,q acc H' g aT ?_⟩
  rw[ha,h]
 ·have eJ:i<xs.length:=by omega
  refine .inr ⟨⟨xs,xs[i],hx _ g,by simp[eJ]⟩,by rw[aas,acE];omega,?_⟩
  rintro z H2 ⟨rfl,hz⟩
  have xI:=hz xs (hx _ g)
  obtain⟨t,rfl,ht⟩:=hp i z xI
  refine⟨t,p1 i,p2 i,rfl,aF.of (g _ _ ht),he i H2 _ eJ g fun H3 g3=>⟨g3 _ _ ha,xs.length-(i+1),by omega,by omega,rfl,de (g.trans g3) aT,ag,?_⟩⟩
  rw[aeE,aaS]
  rfl
theorem oW {X:Cx}{own:List Str}{ys:List Str}{ks:List Nat}(hl:ks.length=ys.length)(hk:∀ p∈ks.zip ys,X.N[p.1]?=some p.2/\X.env.kindOf p.2=some .cell:=by (intro p hp;(try simp only[acY,ac3] at hp);(repeat (rcases aaf.mp hp with rfl|hp;focus exact⟨rfl,rfl⟩));cases hp)):∀ (j k:Nat),ks[j]?=some k->∃ y,(own++ys)[j+own.length]?=some y/\X.N[k]?=some y/\X.env.kindOf y=some .cell:=by
 intro j k h
 have hj:j<ks.length:=(abm.mp h).1
 have VZ:j<ys.length:=by omega
 refine⟨ys[j],by rw[adp (by omega)];simp[VZ],?_⟩
 have m:(k,ys[j])∈ks.zip ys:=by
  refine aaV (i:=j) ?_
  rw[List.getElem?_zip_eq_some]
  exact⟨h,by simp[VZ]⟩
 exact hk _ m
theorem d9 {cl:List (Str × Addr)}{P:Str->Addr->Prop}(h:∀ p∈cl,P p.1 p.2){y:Str}{c:Addr}(e:cl.lookup y=some c):P y c:=h _ (abq e)
theorem yn {pZ:List (Str × NameKind)}{cl:List (Str × Addr)}(h:∀ p∈pZ,p.2=.cell\/p.2=.free->(cl.lookup p.1).isSome=true)(y:Str)(e:pZ.lookup y=some .cell\/pZ.lookup y=some .free):∃ c,cl.lookup y=some c:=by
 have:(cl.lookup y).isSome=true:=by
  rcases e with e|e
  ·exact h _ (abq e) (.inl rfl)
  ·exact h _ (abq e) (.inr rfl)
 exact abS.mp this
theorem aI.gen {X:Cx}{x:Str}{scope:Scope}{cl:List (Str × Addr)}(ys:List Str)(ks:List Nat)(pZ:List (Str × NameKind))(kW:closureFor scope X.env=pure cl)(kind:scope.kind=.function:=by rfl)(fX:∀ z∈scope.names,z.2≠.cell:=by decide +kernel)(loc:∀ z∈scope.names,z.2=.local->scope.names.lookup z.1=some .local:=by decide +kernel)(own:scope.names.lookup x=some .local:=by rfl)
  (sub:∀ p∈cl,X.env.cells.lookup p.1=some p.2:=by (intro p hp;(repeat (rcases aaf.mp hp with rfl|hp;focus rfl));cases hp)) (rl:(relabel scope X.env).names=pZ:=by rfl) (only:∀ p∈pZ,p.2=.cell\/p.2=.free->(cl.lookup p.1).isSome=true:=by (intro p hp h;(repeat (rcases aaf.mp hp with rfl|hp;focus (first|rfl|(rcases h with h|h<;>cases h))));cases hp)) (nd:(x::ys).Nodup:=by decide) (ny:∀ y∈ys,pZ.lookup y≠some .local:=by decide +kernel) (hl:ks.length=ys.length:=by rfl)
  (hk:∀ p∈ks.zip ys,X.N[p.1]?=some p.2/\X.env.kindOf p.2=some .cell:=by (intro p hp;(try simp only[acY,ac3] at hp);(repeat (rcases aaf.mp hp with rfl|hp;focus exact⟨rfl,rfl⟩));cases hp)):aI X (x::ys) ks x scope cl:=by
 subst rl
 refine⟨kind,fX,loc,own,kW,fun y c h=>d9 (P:=fun y c=>X.env.cells.lookup y=some c) sub h,yn only,nd,rfl,by simp[hl],fun j y h=>?_,fun j k h=>oW (own:=[x]) hl hk j k h⟩
 exact ny y (aaV (by simpa using h))
theorem bD.gen {X:Cx}{x x2:Str}{scope:Scope}{cl:List (Str × Addr)}(ys:List Str)(ks:List Nat)(pZ:List (Str × NameKind))(kW:closureFor scope X.env=pure cl)(kind:scope.kind=.function:=by rfl)(fX:∀ z∈scope.names,z.2≠.cell:=by decide +kernel)(loc:∀ z∈scope.names,z.2=.local->scope.names.lookup z.1=some .local:=by decide +kernel)(own:scope.names.lookup x=some .local:=by rfl)(tW:scope.names.lookup x2=some .local:=by rfl)
  (sub:∀ p∈cl,X.env.cells.lookup p.1=some p.2:=by (intro p hp;(repeat (rcases aaf.mp hp with rfl|hp;focus rfl));cases hp)) (rl:(relabel scope X.env).names=pZ:=by rfl) (only:∀ p∈pZ,p.2=.cell\/p.2=.free->(cl.lookup p.1).isSome=true:=by (intro p hp h;(repeat (rcases aaf.mp hp with rfl|hp;focus (first|rfl|(rcases h with h|h<;>cases h))));cases hp)) (nd:(x::x2::ys).Nodup:=by decide) (ny:∀ y∈ys,pZ.lookup y≠some .local:=by decide +kernel) (hl:ks.length=ys.length:=by rfl)
  (hk:∀ p∈ks.zip ys,X.N[p.1]?=some p.2/\X.env.kindOf p.2=some .cell:=by (intro p hp;(try simp only[acY,ac3] at hp);(repeat (rcases aaf.mp hp with rfl|hp;focus exact⟨rfl,rfl⟩));cases hp)):bD X (x::x2::ys) ks x x2 scope cl:=by
 subst rl
 refine⟨kind,fX,loc,own,tW,kW,fun y c h=>d9 (P:=fun y c=>X.env.cells.lookup y=some c) sub h,yn only,nd,rfl,rfl,by simp[hl],fun j y h=>?_,fun j k h=>oW (own:=[x,x2]) hl hk j k h⟩
 exact ny y (aaV (by simpa using h))
theorem ck.gen {X:Cx}{x:Str}{scope:Scope}{cl:List (Str × Addr)}(ys:List Str)(ks:List Nat)(pZ:List (Str × NameKind))(kW:closureFor scope X.env=pure cl)(kind:scope.kind=.function:=by rfl)(Lz:∀ n:Nat,cellsFrom n scope.names cl=(x,n)::cl:=by exact fun _=>rfl)(OP:∀ h:Heap,pushCells h scope.names=h.push { cls:=.type "cell",data:=.cell none }:=by exact fun _=>rfl)
  (loc:∀ z∈scope.names,z.2=.local->scope.names.lookup z.1=some .local:=by decide +kernel) (sub:∀ p∈cl,X.env.cells.lookup p.1=some p.2:=by (intro p hp;(repeat (rcases aaf.mp hp with rfl|hp;focus rfl));cases hp)) (rl:(relabel scope X.env).names=pZ:=by rfl) (own:pZ.lookup x=some .cell:=by rfl) (only:∀ p∈pZ,p.2=.cell\/p.2=.free->p.1=x\/(cl.lookup p.1).isSome=true:=by (intro p hp h;(repeat (rcases aaf.mp hp with rfl|hp;focus (first|exact Or.inr rfl|exact Or.inl rfl|(rcases h with h|h<;>cases h))));cases hp)) (nd:(x::ys).Nodup:=by decide) (ny:∀ y∈ys,pZ.lookup y≠some .local:=by decide +kernel) (hl:ks.length=ys.length:=by rfl)
  (hk:∀ p∈ks.zip ys,X.N[p.1]?=some p.2/\X.env.kindOf p.2=some .cell:=by (intro p hp;(try simp only[acY,ac3] at hp);(repeat (rcases aaf.mp hp with rfl|hp;focus exact⟨rfl,rfl⟩));cases hp)):ck X (x::ys) ks x scope cl:=by
 subst rl
 refine⟨kind,Lz,OP,loc,own,kW,fun y c h=>d9 (P:=fun y c=>X.env.cells.lookup y=some c) sub h,fun y e=>?_,nd,rfl,by simp[hl],fun j y h=>?_,fun j k h=>oW (own:=[x]) hl hk j k h⟩
 ·have:y=x\/(cl.lookup y).isSome=true:=by
   rcases e with e|e
   ·exact only _ (abq e) (.inl rfl)
   ·exact only _ (abq e) (.inr rfl)
  rcases this with z|z
  ·exact .inl z
  ·exact .inr (abS.mp z)
 ·exact ny y (aaV (by simpa using h))
theorem sF {J:It}{xs:List V}{te:TE}{σ:V->St}{H:Hp}{Q:VK}(hn:xs.length<sizeLine)(R:Nat->List V->Hp->Prop)(R0:∀ p,H p=none->R 0 [] (upd H p (.lst [])))
  (DH:∀ H',av H H'->J.stop xs.length H') (DC:∀ (i:Nat) H',i<xs.length->av H H'->J.go i H') (Lx:∀ (i:Nat) H' x H2,av H H'->J.xE i H' x H2->H2=H'/\xs[i]?=some x)
  (he:∀ (i:Nat) (x:V) (vs:List V) (H':Hp) (acc:Addr) (Q':VK),xs[i]?=some x->av H H'->H acc=none->H' acc=some (.lst vs)->R i vs H'->vs.length=i->(∀ y H2,av H' H2->R (i+1) (vs++[y]) (upd H2 acc (.lst (vs++[y])))->Q' y H2)->te (σ x) H' Q')
  (q:∀ p H' vs,av H H'->H p=none->H' p=some (.lst vs)->vs.length=xs.length->R xs.length vs H'->Q (.ref p) H'):CompEnd J Q H te σ:=by
 intro acc aT
 refine⟨fun i m H' vs=>i<=xs.length/\m=xs.length-i/\av H H'/\H' acc=some (.lst vs)/\vs.length=i/\R i vs H',⟨xs.length,abd _,by simp,ai aT _,ag,rfl,R0 _ aT⟩,?_⟩
 rintro i m H' vs ⟨hi,rfl,g,ha,hl,r⟩
 refine⟨ha,?_⟩
 by_cases h:i=xs.length
 ·subst h
  exact .inl ⟨DH _ g,q acc H' vs g aT ha hl r⟩
 ·have eJ:i<xs.length:=by omega
  refine .inr ⟨DC i _ eJ g,by omega,?_⟩
  intro z H2 hz
  obtain⟨rfl,xI⟩:=Lx i _ _ _ g hz
  refine he i z vs H2 acc _ xI g aT ha r hl fun y H3 g3 r3=>⟨g3 _ _ ha,xs.length-(i+1),by omega,by omega,rfl,de (g.trans g3) aT,ag,?_,r3⟩
  rw[aaT,hl]
  rfl
theorem kj {K:W.Frag}{a:Addr}{xs:List V}{te:TE}{σ:V->St}{H:Hp}{Q:VK}(hn:xs.length<sizeLine)(hK:∀ H',av H H'->aF K H' a xs)(R:Nat->List V->Hp->Prop)(R0:∀ p,H p=none->R 0 [] (upd H p (.lst [])))
  (he:∀ (i:Nat) (x:V) (vs:List V) (H':Hp) (acc:Addr) (Q':VK),xs[i]?=some x->av H H'->H acc=none->H' acc=some (.lst vs)->R i vs H'->vs.length=i->(∀ y H2,av H' H2->R (i+1) (vs++[y]) (upd H2 acc (.lst (vs++[y])))->Q' y H2)->te (σ x) H' Q')
  (q:∀ p H' vs,av H H'->H p=none->H' p=some (.lst vs)->vs.length=xs.length->R xs.length vs H'->Q (.ref p) H'):CompEnd (CS K a) Q H te σ:=
 sF hn R R0 (fun H' g=>⟨xs,hK _ g,aai _⟩) (fun i H' hi g=>⟨xs,xs[i],hK _ g,by simp[hi]⟩) (fun i H' x H2 g h=>⟨h.1,h.2 xs (hK _ g)⟩) he q
theorem iU {K:W.Frag}{a:Addr}{xs:List V}{te:TE}{σ:V->St}{H:Hp}{Q:VK}(hn:xs.length<sizeLine)(hK:∀ H',av H H'->aM K H' a xs)(R:Nat->List V->Hp->Prop)(R0:∀ p,H p=none->R 0 [] (upd H p (.lst [])))
  (he:∀ (i:Nat) (x:V) (vs:List V) (H':Hp) (acc:Addr) (Q':VK),xs[i]?=some x->av H H'->H acc=none->H' acc=some (.lst vs)->R i vs H'->vs.length=i->(∀ y H2,av H' H2->R (i+1) (vs++[y]) (upd H2 acc (.lst (vs++[y])))->Q' y H2)->te (σ x) H' Q')
  (q:∀ p H' vs,av H H'->H p=none->H' p=some (.lst vs)->vs.length=xs.length->R xs.length vs H'->Q (.ref p) H'):CompEnd (CQ K a) Q H te σ:=
 sF hn R R0 (fun H' g=>⟨xs,hK _ g,aai _⟩) (fun i H' hi g=>⟨xs,xs[i],hK _ g,by simp[hi]⟩) (fun i H' x H2 g h=>⟨h.1,h.2 xs (hK _ g)⟩) he q
def Laid (row:Nat->HO)(i:Nat)(vs:List V)(H:Hp):Prop:=∃ rs:List Addr,vs=rs.map V.ref/\rs.length=i/\∀ (j:Nat) (r:Addr),rs[j]?=some r->H r=some (row j)
theorem Laid.zero {row:Nat->HO}{H:Hp}:Laid row 0 [] H:=⟨[],rfl,rfl,fun j r h=>by cases h⟩
theorem Laid.next {row:Nat->HO}{i:Nat}{vs:List V}{H' H2:Hp}{acc r:Addr}(l:Laid row i vs H')(g:av H' H2)(ha:H' acc=some (.lst vs))(hr:H' r=none)(h:H2 r=some (row i))(hd:∀ j,row j≠.lst vs):Laid row (i+1) (vs++[.ref r]) (upd H2 acc (.lst (vs++[.ref r]))):=by
 obtain⟨rs,rfl,hl,hs⟩:=l
 refine⟨rs++[r],by rw[aaS];rfl,by rw[aaT,hl];rfl,fun j r' hj=>?_⟩
 by_cases eJ:j<rs.length
 ·rw[List.getElem?_append_left eJ] at hj
  have e:=hs j r' hj
  have ne:r'≠acc:=fun z=>by
   subst z
   rw[ha] at e
   exact hd j (aac e).symm
  rw[aH ne]
  exact g _ _ e
 ·rw[adp (by omega)] at hj
  have e:j-rs.length=0:=by
   cases hq:j-rs.length with
   | zero=>rfl
   | succ n=>rw[hq] at hj;simp at hj
  rw[e] at hj
  have er:r=r':=by simpa using hj
  subst er
  have ej:j=i:=by omega
  subst ej
  have ne:r≠acc:=fun z=>by
   subst z
   rw[hr] at ha
   cases ha
  rw[aH ne]
  exact h
theorem Laid.three {row:Nat->HO}{vs:List V}{H:Hp}(l:Laid row 3 vs H):∃ r0 r1 r2,vs=[.ref r0,.ref r1,.ref r2]/\H r0=some (row 0)/\H r1=some (row 1)/\H r2=some (row 2):=by
 obtain⟨rs,rfl,hl,hs⟩:=l
 match rs,hl with
 | [r0,r1,r2],_=>exact⟨r0,r1,r2,rfl,hs 0 _ rfl,hs 1 _ rfl,hs 2 _ rfl⟩
section
variable {P:Program}{w:World}{A:Around}{E:Value->Shared->Prop}
theorem wb {j l:Addr}{us:Array Value}(ne:l≠j):∀ (n i:Nat) (s:Shared) (Q:List Value->Shared->Prop),s.heap.IsListIter j l i->s.heap.IsList l us->i+n<=us.size ->
  (∀ h',h'.IsListIter j l (i+n)->Heap.SameBut j s.heap h'->Q ((us.toList.drop i).take n) { s with heap:=h' })->wpAny (model P w) A (draw (.ref j) n) Q E s
 | 0,i,s,Q,g0,_,_,q=>by
  show wpAny _ _ (pure ([]:List Value)) Q E s
  exact aad (by simpa using q s.heap g0 (aeN ..))
 | n+1,i,s,Q,g0,g1,le,q=>by
  have lt:i<us.size:=by omega
  show wpAny _ _ (pyNext (.ref j) >>= _) Q E s
  refine aaa (aeg g0 g1 (x:=us[i]) (by simp[lt]) fun w1 k1 b1=>?_)
  refine aaa (aaW (wb ne n (i+1) _ _ k1 (g1.extBut b1.extBut ne) (by omega) fun w2 k2 b2=>aad ?_))
  have dr:us.toList.drop i=us[i]::us.toList.drop (i+1):=by simp[List.drop_eq_getElem_cons,lt]
  have z:=q w2 (by rw[show i+(n+1)=i+1+n by omega];exact k2) (b1.trans b2)
  rw[dr,List.take_succ_cons] at z
  exact z
theorem yo {s:Shared}{l:Addr}{us:Array Value}{ts:List (Bool × (Value->Sem Unit))}{Q:Unit->Shared->Prop}(ha:A.handled=none)(g1:s.heap.IsList l us)(hn:ts.length=us.size)(oQ:ts.findIdx? (·.1)=none)
  (q:∀ h',Heap.ExtBut s.heap.objs.size s.heap h'->wpAny (model P w) A (assignInOrder (ts.map (·.2)) us.toList) Q E { s with heap:=h' }):wpAny (model P w) A (unpack (.ref l) ts) Q E s:=by
 have ne:l≠s.heap.objs.size:=by
  obtain⟨o,ho,_⟩:=g1
  exact aal (aae ho)
 unfold unpack
 rw[hn,oQ]
 refine aaa (aaW ?_)
 unfold unpackItems
 refine aaa ?_
 unfold notIterableAtAll
 refine aaa (aeV g1.typeIs slot_list_iter.lookup (aad ?_))
 simp only[abL,adq]
 refine aaa (aaW (acm g1 ?_))
 refine aaa (aaW (wb ne us.size 0 _ _ ⟨_,aap _ rfl,rfl,rfl⟩ (g1.push _) (by omega) fun w1 k1 b1=>?_))
 rw[show List.take us.size (List.drop 0 us.toList)=us.toList by rw[List.drop_zero];exact adY (by simp)]
 rw[aar (by simp)]
 refine aaa (aaW (wpAny_pyNext_list_end ha k1 ((g1.push _).extBut b1.extBut ne) (by simp) fun w2 b2=>?_))
 simp only[Option.isSome_none,abL,adq]
 exact aad (q w2 fun b o hb e=>b2 b o hb (b1.extBut b o hb (aab _ e)))
end
inductive OV (K:W.Frag)(n:Nat)(t:GU)(v:V)(σ:St)(H:Hp)(Q:St->Hp->Prop):Prop
 | mk:∀ a xs,(v=.ref a)->(aM K H a xs)->(xs.length=n)->(t xs σ H Q)->OV K n t v σ H Q
theorem LJ {X:Cx}{es:List Expr}{k:Nat}{t:GU}{n:Nat}{pos:Pos}(hc:X.calm=true)(h:Nh X es t)
  (hn:(assignEach es X.env).length=n:=by rfl) (oQ:(assignEach es X.env).findIdx? (·.1)=none:=by rfl):PG X (.Tuple es k pos) (OV X.K n t):=by
 intro pins s σ H v u Q I r hw
 obtain⟨a,xs,e1,hq,hl,hw⟩:=hw
 subst e1
 cases r
 obtain⟨aK,rv,p,hz⟩:=I.list hq
 rw[assign_Tuple]
 refine aaa (abp (yo (I.ok.hd hc) p.isList (by simp[hn,<- hl,rv.length]) oQ fun h' hx=>?_))
 have I1:Inv X pins σ H { s with heap:=h' }:=I.kept (t':=s.toks) fun b o e=>hx b o (aal (aae e)) e
 exact h pins _ σ H xs _ Q I1 (by simpa using rv) hw
end L2
namespace L2
open PySem PySem.Spec PySem.Calls PyProof.Rows
section
variable {X:Cx}{N:List Str}{fr:List Nat}{x x2:Str}{scope:Scope}{cl:List (Str × Addr)}{elt iter:Expr}{px nR tp pos:Pos}{kt:Nat}{wi:TI}{te:TE}
theorem rP {JF:Expr}{tc:TT}(hc:X.bq=true)(S:bD X N fr x x2 scope cl)(hi:PI X (.Tuple [.Name x px,.Name x2 nR] kt tp) iter wi)(ht:∀ (C:Addr) (s0:Shared) (H0:Hp) (fp:List Addr) (pins:List (Addr × Obj)),PT (kI X N scope cl C s0 H0 fp pins) JF tc)(he:∀ (C:Addr) (s0:Shared) (H0:Hp) (fp:List Addr) (pins:List (Addr × Obj)),PE (kI X N scope cl C s0 H0 fp pins) elt te)
  (hs:∀ y,foldedSetIterable iter X.env y=pure y:=by intro _;rfl):PE X (.ListComp elt [⟨.Tuple [.Name x px,.Name x2 nR] kt tp,iter,[JF],0⟩] scope pos) (Ag X.K wi fr tc te):=by
 intro pins s σ H Q I h
 rw[ady]
 exact kY (use:=none) hc S hi (fun _ _ _ _ _=>Ac (ht _ _ _ _ _)) he hs I h fun acc C m H6 s7 qn hn eQ _ _ _ _ _=>⟨m,hn,fun h' fF=>⟨.ref acc,H6,eQ h' fF,rfl,qn⟩⟩
end
theorem wc {K:W.Frag}{a:Addr}{rs:List Addr}{xs:List (Int × Int)}{tc:TT}{te:TE}{σ:V->V->St}{H:Hp}{Q:VK}(hn:xs.length<sizeLine)(hl:rs.length=xs.length)(hK:∀ H',av H H'->aM K H' a (rs.map V.ref))(hx:∀ (i:Nat) (r:Addr) (x:Int × Int),rs[i]?=some r->xs[i]?=some x->H r=some (.tup [.int x.1,.int x.2]))(p:Int->Bool)
  (ht:∀ (x:Int × Int) (H':Hp) (Q':Bool->Hp->Prop),av H H'->Q' (p x.1) H'->tc (σ (.int x.1) (.int x.2)) H' Q')
  (he:∀ (x:Int × Int) (H':Hp) (Q':VK),av H H'->Q' (.int x.1) H'->te (σ (.int x.1) (.int x.2)) H' Q')
  (q:∀ l H',av H H'->H l=none->H' l=some (.lst (((xs.map (·.1)).filter p).map V.int))->Q (.ref l) H'):sE K (CQ K a) Q H tc te σ:=by
 intro acc aT
 refine⟨fun i m H' vs=>i<=xs.length/\m=xs.length-i/\av H H'/\H' acc=some (.lst vs)/\vs=((((xs.take i).map (·.1)).filter p).map V.int),⟨xs.length,abd _,by simp,ai aT _,ag,by simp⟩,?_⟩
 rintro i m H' vs ⟨hi,rfl,g,ha,rfl⟩
 refine⟨ha,?_⟩
 by_cases h:i=xs.length
 ·refine .inl ⟨⟨_,hK _ g,by rw[aas];omega⟩,q acc H' g aT ?_⟩
  rw[ha,h,abz]
 ·have eJ:i<xs.length:=by omega
  have TJ:i<rs.length:=by omega
  refine .inr ⟨⟨_,.ref rs[i],hK _ g,by rw[aaB,aat TJ];rfl⟩,?_,?_⟩
  ·rw[aas]
   have h1:=ad3 p ((xs.take i).map (·.1))
   rw[aas,abU] at h1
   omega
  rintro z H2 ⟨rfl,hz⟩
  have xI:=hz _ (hK _ g)
  rw[aaB,aat TJ] at xI
  obtain rfl:=aac xI
  have hr:=hx i rs[i] xs[i] (aat TJ) (aat eJ)
  refine⟨rs[i],.int xs[i].1,.int xs[i].2,rfl,aF.of (g _ _ hr),ht xs[i] H2 _ g ?_⟩
  have ts:(xs.take (i+1)).map (·.1)=(xs.take i).map (·.1)++[xs[i].1]:=by rw[aca,aat eJ,aaS];rfl
  cases e:p xs[i].1 with
  | true=>
   rw[aaz rfl]
   refine he xs[i] H2 _ g ⟨ha,xs.length-(i+1),by omega,by omega,rfl,de g aT,ag,?_⟩
   rw[ts,acZ,aaS]
   have:[xs[i].1].filter p=[xs[i].1]:=by simp[e]
   rw[this]
   rfl
  | false=>
   rw[aar aaj]
   refine⟨xs.length-(i+1),by omega,by omega,rfl,g,ha,?_⟩
   rw[ts,acZ,aaS]
   have:[xs[i].1].filter p=[]:=by simp[e]
   rw[this]
   simp
end L2
namespace L2
open PySem PySem.Spec PyProof.Rows
def Ho (b:Bool)(xs:List V):HO:=match b with
 | true=>.lst xs
 | false=>.tup xs
def Sq (K:W.Frag)(H:Hp)(b:Bool)(a:Addr)(xs:List V):Prop:=match b with
 | true=>aM K H a xs
 | false=>aF K H a xs
def Nt (K:W.Frag)(b:Bool)(a:Addr):It:=match b with
 | true=>CQ K a
 | false=>CS K a
theorem Sq.of {K:W.Frag}{H:Hp}{b:Bool}{a:Addr}{xs:List V}(h:H a=some (Ho b xs)):Sq K H b a xs:=by
 cases b with
 | true=>exact aM.of h
 | false=>exact aF.of h
inductive JH (K:W.Frag)(R:It->Hp->Prop)(x:V)(H1:Hp):Prop
 | mk:∀ a b xs,(x=.ref a)->(Sq K H1 b a xs)->(R (Nt K b a) H1)->JH K R x H1
def TK (K:W.Frag)(tl:TE):TI:=fun σ H R=>tl σ H fun x H1=>JH K R x H1
theorem tX {X:Cx}{tg l:Expr}{tl:TE}(hl:PE X l tl):PI X tg l (TK X.K tl):=by
 intro pins s σ H R I h
 refine dC (hl pins s σ H _ I h) fun v s1 ⟨x,H1,I1,r1,q1⟩=>?_
 obtain⟨a,b,xs,e,hq,q⟩:=q1
 subst e
 cases r1
 cases b with
 | true=>
  obtain⟨aK,rv,p,hz⟩:=I1.list hq
  refine acm p.isList ?_
  refine⟨s1.heap.objs.size,[s1.heap.objs.size],_,_,H1,rfl,I1.kept (t':=s1.toks) fun b o e=>aab _ e,sd a _,⟨_,aap _ rfl,rfl,rfl⟩,fun b hb=>?_,q⟩
  have e:b=s1.heap.objs.size:=by simpa using hb
  subst e
  exact I1.xN (aai _) (I1.bE.fresh (aai _))
 | false=>
  obtain⟨aK,rv,p,hz⟩:=I1.tuple hq
  refine abW (show s1.heap.IsTuple a aK.toArray from p) ?_
  refine⟨s1.heap.objs.size,[s1.heap.objs.size],_,_,H1,rfl,I1.kept (t':=s1.toks) fun b o e=>aab _ e,pJ a _,⟨_,aap _ rfl,rfl,rfl⟩,fun b hb=>?_,q⟩
  have e:b=s1.heap.objs.size:=by simpa using hb
  subst e
  exact I1.xN (aai _) (I1.bE.fresh (aai _))
theorem Ah {K:W.Frag}{b:Bool}{a:Addr}{xs:List V}{g:TG}{tb:TS}{D:Ends}{σ:St}{H:Hp}(Pv:Nat->St->Hp->Prop)(h0:Pv 0 σ H)(hl:∀ i σ H,i<=xs.length->Pv i σ H->Sq K H b a xs)
  (hs:∀ i x σ H,xs[i]?=some x->Pv i σ H->g x σ H fun σ2 H2=>tb { D with nx:=Pv (i+1),ct:=Pv (i+1),bk:=D.nx } σ2 H2) (hd:∀ σ H,Pv xs.length σ H->D.nx σ H) :
  ∃ W:Nat->Nat->St->Hp->Prop,(∃ m,W 0 m σ H)/\∀ i m σ H,W i m σ H ->
   ((Nt K b a).stop i H/\D.nx σ H)\/((Nt K b a).go i H/\∃ N:St->Hp->Prop,(∀ σ' H',N σ' H'->∃ m',m'<m/\W (i+1) m' σ' H')/\∀ x H',(Nt K b a).xE i H x H'->g x σ H' fun σ2 H2=>tb { D with nx:=N,ct:=N,bk:=D.nx } σ2 H2):=by
 cases b with
 | true=>exact iA Pv h0 hl hs hd
 | false=>exact tI Pv h0 hl hs hd
theorem wd {K:W.Frag}{b:Bool}{a:Addr}{xs:List V}{tc:TT}{te:TE}{σ:V->St}{H:Hp}{Q:VK}(hn:xs.length<sizeLine)(p:V->Bool)(f:V->V)(hK:∀ H',av H H'->Sq K H' b a xs)
  (ht:∀ (i:Nat) (x:V) (H':Hp) (Q':Bool->Hp->Prop),xs[i]?=some x->av H H'->(∀ H2,av H' H2->Q' (p x) H2)->tc (σ x) H' Q')
  (he:∀ (i:Nat) (x:V) (H':Hp) (Q':VK),xs[i]?=some x->p x=true->av H H'->(∀ H2,av H' H2->Q' (f x) H2)->te (σ x) H' Q')
  (q:∀ a H',av H H'->H a=none->H' a=some (.lst ((xs.filter p).map f))->Q (.ref a) H'):fO (Nt K b a) Q H tc te σ:=by
 cases b with
 | true=>exact fJ hn p f hK ht he q
 | false=>exact nQ hn p f hK ht he q
section
variable {X:Cx}{tg:Expr}
end
theorem By {X:Cx}(hc:X.calm=true):ff X (.builtin "any") (fun xs H Q=>∃ (l:Addr) (ns:List Int),xs=[.ref l]/\aF X.K H l (ns.map V.int)/\Q (.bl (ns.any (· != 0))) H):=by
 intro pins s σ H xs us Q I rv h
 obtain⟨l,ns,rfl,hH,q⟩:=h
 obtain⟨u,rfl,ru⟩:=rv.one
 cases ru
 obtain⟨aK,r,p,hz⟩:=I.tuple hH
 obtain⟨o,e,yg,n,hd⟩:=id p
 have eJ:l<s.heap.objs.size:=aae e
 refine call_any_walk (abW (A:=X.A.in1) (show s.heap.IsTuple l aK.toArray from p) ?_)
 have W:=Walks.tuple (prog:=X.prog) (w:=X.w) (A:=X.A.in1) (show X.A.in1.handled=none from I.ok.hd hc) s.heap.objs.size l (aal eJ) aK.toArray
 refine⟨s.heap.objs.size,_,_,_,_,_,fun i=>ns.getD i 0 != 0,rfl,W,⟨⟨_,aap _ rfl,rfl,rfl⟩,⟨o,aab _ e,yg,n,hd⟩⟩,?_,?_⟩
 ·intro i v s' Q' E' hP hQ
  have hv:aK[i]?=some v:=by simpa using hP
  obtain⟨b,t,hb,rfl⟩:∃ b t,ns[i]?=some b/\v=Value.int b t:=by
   cases Nq:ns[i]? with
   | none=>
    have h1:=r.none_of (i:=i) (by rw[aaB,Nq];rfl)
    rw[h1] at hv;cases hv
   | some b=>
    obtain⟨u',h1,h2⟩:=r.get (i:=i) (x:=.int b) (by rw[aaB,Nq];rfl)
    rw[h1] at hv;cases hv
    obtain⟨t,rfl⟩:=h2
    exact⟨b,t,rfl,rfl⟩
  have OK:Q' (ns.getD i 0 != 0) s':=hQ
  rw[aaA,hb] at OK
  exact truthy_int OK
 ·intro h' tk hk
  have e2:((List.range aK.toArray.size).any fun i=>ns.getD i 0 != 0)=ns.any (· != 0):=by
   have hlen:aK.toArray.size=ns.length:=by
    rw[aau,<- r.length,aas]
   rw[hlen]
   rw[acy,abM,abM]
   constructor
   ·rintro⟨i,hi,hA⟩
    have Lu:=ab0.mp hi
    rw[aaA,aat Lu] at hA
    exact⟨_,acM Lu,hA⟩
   ·rintro⟨b,hb,hA⟩
    obtain⟨i,hi,e⟩:=ach hb
    refine⟨i,ab0.mpr hi,?_⟩
    rw[aaA,aat hi,e]
    exact hA
  rw[e2]
  refine⟨.bl (ns.any (· != 0)),H,?_,rfl,q⟩
  exact I.kept (h':=h') (t':=tk) fun b o q'=>hk b o (fun zz=>by
   have:b=s.heap.objs.size:=by simpa using zz
   subst this
   exact absurd (aae q') (abo _)) (aab _ q')
def iD (K:W.Frag)(a:Addr)(xs:List V):Prop:=∃ (o:Obj) (aK:Array Value) (n:Nat),K.lookup a=some o/\o.cls=.type "tuple"/\o.data=.seq aK n/\aK.size<=sizeLine/\Vals xs aK.toList
theorem iD.sq {K:W.Frag}{a:Addr}{xs:List V}(h:iD K a xs)(H:Hp):aF K H a xs:=.inr h
theorem iD.mk {K:W.Frag}{a:Addr}{xs:List V}{od:Option Addr}{aK:Array Value}{n:Nat}{sl:Array (Option Value)}(h:K.lookup a=some ⟨.type "tuple",od,.seq aK n,sl⟩)(hz:aK.size<=sizeLine)(hv:Vals xs aK.toList):iD K a xs:=⟨_,aK,n,h,rfl,rfl,hz,hv⟩
theorem Bz {X:Cx}(hc:X.calm=true):ff X (.builtin "max") (fun xs H Q=>∃ (l:Addr) (ns:List Int),xs=[.ref l]/\aF X.K H l (ns.map V.int)/\ns≠[]/\∀ m:Int,m∈ns->(∀ n∈ns,n<=m)->Q (.int m) H):=by
 intro pins s σ H xs us Q I rv h
 obtain⟨l,ns,rfl,hH,rJ,q⟩:=h
 obtain⟨u,rfl,ru⟩:=rv.one
 cases ru
 obtain⟨aK,r,p,hz⟩:=I.tuple hH
 obtain⟨o,e,yg,n,hd⟩:=id p
 have eJ:l<s.heap.objs.size:=aae e
 have hlen:aK.toArray.size=ns.length:=by rw[aau,<- r.length,aas]
 have pos:0<ns.length:=List.length_pos_iff.mpr rJ
 have val:∀ (i:Nat) (v:Value),aK.toArray[i]?=some v->∃ t,v=.int (ns.getD i 0) t:=by
  intro i v hP
  have hv:aK[i]?=some v:=by simpa using hP
  cases hn:ns[i]? with
  | none=>
   have h1:=r.none_of (i:=i) (by rw[aaB,hn];rfl)
   rw[h1] at hv;cases hv
  | some m=>
   obtain⟨u',h1,t,h2⟩:=r.get (i:=i) (x:=.int m) (by rw[aaB,hn];rfl)
   rw[h1] at hv;cases hv
   exact⟨t,by rw[aaA,hn];exact h2⟩
 refine call_max_walk (abW (A:=X.A.in1) (show s.heap.IsTuple l aK.toArray from p) ?_)
 have W:=Walks.tuple (prog:=X.prog) (w:=X.w) (A:=X.A.in1) (show X.A.in1.handled=none from I.ok.hd hc) s.heap.objs.size l (aal eJ) aK.toArray
 refine⟨s.heap.objs.size,_,_,_,_,_,_,rfl,W,⟨⟨_,aap _ rfl,rfl,rfl⟩,⟨o,aab _ e,yg,n,hd⟩⟩,?_,by omega,CmpOf.ints_gt (fun i=>ns.getD i 0) val,?_⟩
 ·intro b hb
  have:b=s.heap.objs.size\/b=l:=by simpa using hb
  rw[aax]
  rcases this with rfl|rfl
  ·exact ada _
  ·exact aaM eJ
 ·intro v h' tk hv hk
  obtain⟨t,rfl⟩:=val _ _ hv
  have ab:=argBest_gt (fun i=>ns.getD i 0) (aK.toArray.size-1)
  refine⟨.int _,H,I.kept (h':=h') (t':=tk) fun b o q'=>hk b o (fun zz=>?_) (aab _ q'),⟨t,rfl⟩,q _ ?_ ?_⟩
  ·have:b=s.heap.objs.size:=by simpa using zz
   subst this
   exact absurd (aae q') (abo _)
  ·have lt:argBest (fun i j=>decide (ns.getD i 0 > ns.getD j 0)) (aK.toArray.size-1)<ns.length:=by have:=ab.1;omega
   rw[aaA,aat lt]
   exact acM lt
  ·intro m hm
   obtain⟨j,hj,ej⟩:=ach hm
   have:=ab.2 j (by omega)
   rw[<- ej]
   have e2:ns.getD j 0=ns[j]:=by rw[aaA,aat hj];rfl
   rw[e2] at this
   exact this
theorem BA {X:Cx}(hc:X.calm=true):ff X (.builtin "min") (fun xs H Q=>∃ (l:Addr) (ns:List Int),xs=[.ref l]/\aF X.K H l (ns.map V.int)/\ns≠[]/\∀ m:Int,m∈ns->(∀ n∈ns,m<=n)->Q (.int m) H):=by
 intro pins s σ H xs us Q I rv h
 obtain⟨l,ns,rfl,hH,rJ,q⟩:=h
 obtain⟨u,rfl,ru⟩:=rv.one
 cases ru
 obtain⟨aK,r,p,hz⟩:=I.tuple hH
 obtain⟨o,e,yg,n,hd⟩:=id p
 have eJ:l<s.heap.objs.size:=aae e
 have hlen:aK.toArray.size=ns.length:=by rw[aau,<- r.length,aas]
 have pos:0<ns.length:=List.length_pos_iff.mpr rJ
 have val:∀ (i:Nat) (v:Value),aK.toArray[i]?=some v->∃ t,v=.int (ns.getD i 0) t:=by
  intro i v hP
  have hv:aK[i]?=some v:=by simpa using hP
  cases hn:ns[i]? with
  | none=>
   have h1:=r.none_of (i:=i) (by rw[aaB,hn];rfl)
   rw[h1] at hv;cases hv
  | some m=>
   obtain⟨u',h1,t,h2⟩:=r.get (i:=i) (x:=.int m) (by rw[aaB,hn];rfl)
   rw[h1] at hv;cases hv
   exact⟨t,by rw[aaA,hn];exact h2⟩
 refine call_min_walk (abW (A:=X.A.in1) (show s.heap.IsTuple l aK.toArray from p) ?_)
 have W:=Walks.tuple (prog:=X.prog) (w:=X.w) (A:=X.A.in1) (show X.A.in1.handled=none from I.ok.hd hc) s.heap.objs.size l (aal eJ) aK.toArray
 refine⟨s.heap.objs.size,_,_,_,_,_,_,rfl,W,⟨⟨_,aap _ rfl,rfl,rfl⟩,⟨o,aab _ e,yg,n,hd⟩⟩,?_,by omega,CmpOf.ints_lt (fun i=>ns.getD i 0) val,?_⟩
 ·intro b hb
  have:b=s.heap.objs.size\/b=l:=by simpa using hb
  rw[aax]
  rcases this with rfl|rfl
  ·exact ada _
  ·exact aaM eJ
 ·intro v h' tk hv hk
  obtain⟨t,rfl⟩:=val _ _ hv
  have ab:=argBest_lt (fun i=>ns.getD i 0) (aK.toArray.size-1)
  refine⟨.int _,H,I.kept (h':=h') (t':=tk) fun b o q'=>hk b o (fun zz=>?_) (aab _ q'),⟨t,rfl⟩,q _ ?_ ?_⟩
  ·have:b=s.heap.objs.size:=by simpa using zz
   subst this
   exact absurd (aae q') (abo _)
  ·have lt:argBest (fun i j=>decide (ns.getD i 0<ns.getD j 0)) (aK.toArray.size-1)<ns.length:=by have:=ab.1;omega
   rw[aaA,aat lt]
   exact acM lt
  ·intro m hm
   obtain⟨j,hj,ej⟩:=ach hm
   have:=ab.2 j (by omega)
   rw[<- ej]
   have e2:ns.getD j 0=ns[j]:=by rw[aaA,aat hj];rfl
   rw[e2] at this
   exact this
end L2
namespace Pr
theorem quot (x y:Int):x=y*Int.fdiv x y+Int.fmod x y:=by rw[aes];omega
theorem fZ {a b c:Int}(h:1<=b)(ha:c<=a)(hc:0<=c):c<=a*b:=by
 have:=aby ha h (by omega) (by omega)
 omega
theorem bY {p:Int}(hp:1<=p):∀ n:Nat,1<=p^n
 | 0=>by simp
 | n+1=>by
  rw[aan]
  exact fZ hp (bY hp n) (by omega)
def nV (x d:Int):Prop:=∀ k,2<=k->k<d->¬ k∣x
structure aR (p:Int):Prop where
 two:2<=p
 no:∀ k,2<=k->k*k<=p->¬ k∣p
theorem DR {k d:Int}(hk:0<=k)(hd:0<=d)(h:k*k<d*d):k<d:=by
 rcases adw k d with h1|h1
 ·exact h1
 ·have:=aby h1 h1 hd hk
  omega
theorem DS {d x:Int}(h2:2<=d)(h:nV x d)(hd:d∣x):aR d:=by
 refine⟨h2,fun k k2 kk hk=>h k k2 ?_ (aah hk hd)⟩
 have:=abj k2 (show 0<=k by omega)
 omega
theorem DT {d x:Int}(h2:2<=d)(h:nV x d)(hx:x<d*d)(x1:1<x):aR x:=by
 refine⟨by omega,fun k k2 kk hk=>h k k2 ?_ hk⟩
 exact DR (by omega) (by omega) (by omega)
theorem Hw {d x:Int}(h:nV x d)(x1:1<x):d<=x:=by
 rcases adw x d with h1|h1
 ·exact absurd (acx x) (h x (by omega) h1)
 ·exact h1
def bL:List (Int × Int)->Int
 | []=>1
 | x::r=>x.1^x.2.toNat*bL r
theorem sG (xs ys:List (Int × Int)):bL (xs++ys)=bL xs*bL ys:=by
 induction xs with
 | nil=>simp[bL]
 | cons x r ih=>simp only[aez,bL,ih,aaq]
theorem sH (p e:Int):bL [(p,e)]=p^e.toNat:=by simp[bL]
structure Part (x:Int × Int):Prop where
 prime:aR x.1
 often:1<=x.2
structure Told (n:Int)(xs:List (Int × Int)):Prop where
 all:∀ x∈xs,Part x
 rise:xs.Pairwise fun x y=>x.1<y.1
 prod:bL xs=n
theorem mI {xs:List (Int × Int)}(h:∀ x∈xs,Part x):1<=bL xs:=by
 induction xs with
 | nil=>simp[bL]
 | cons x r ih=>
  simp only[bL]
  have h1:=ih fun y hy=>h y (.tail _ hy)
  exact fZ h1 (bY (by have:=(h x (.head _)).prime.two;omega) _) (by omega)
theorem lX {xs:List (Int × Int)}(h:∀ x∈xs,Part x){x:Int × Int}(hx:x∈xs):x.1^x.2.toNat<=bL xs:=by
 induction xs with
 | nil=>exact nomatch hx
 | cons y r ih=>
  simp only[bL]
  have h1:=mI fun z hz=>h z (.tail _ hz)
  have hy:1<=y.1^y.2.toNat:=bY (by have:=(h y (.head _)).prime.two;omega) _
  rcases aaf.mp hx with rfl|hx
  ·exact fZ h1 (adO _) (by omega)
  ·have h2:=ih (fun z hz=>h z (.tail _ hz)) hx
   rw[aao]
   exact fZ hy h2 (by have:=bY (show 1<=x.1 by have:=(h x (.tail _ hx)).prime.two;omega) x.2.toNat;omega)
theorem p9 {p:Int}(hp:2<=p):∀ n:Nat,(2:Int)^n<=p^n
 | 0=>by simp
 | n+1=>by
  rw[aan,aan]
  exact aby (p9 hp n) hp (by omega) (by have:=bY (show 1<=p by omega) n;omega)
theorem qa {a b:Nat}(h:a<=b):(2:Int)^a<=(2:Int)^b:=by
 obtain⟨c,rfl⟩:=Nat.exists_eq_add_of_le h
 rw[ab4]
 exact fZ (bY (by omega) c) (adO _) (by have:=bY (show (1:Int)<=2 by omega) a;omega)
theorem DU {n:Int}{xs:List (Int × Int)}(h:Told n xs)(hn:n<=10^10){x:Int × Int}(hx:x∈xs):x.2<=40:=by
 rcases adw 40 x.2 with h1|h1
 ·exfalso
  have h2:=lX h.all hx
  have h3:=p9 (h.all x hx).prime.two x.2.toNat
  have h4:=qa (show 40<=x.2.toNat by omega)
  rw[h.prod] at h2
  have:(2:Int)^40=1099511627776:=by decide
  omega
 ·exact h1
theorem Hx {n:Int}{xs:List (Int × Int)}(h:Told n xs){x:Int × Int}(hx:x∈xs):x.1<=n:=by
 have h2:=lX h.all hx
 rw[h.prod] at h2
 have h1:=(h.all x hx).often
 obtain⟨k,hk⟩:∃ k,x.2.toNat=k+1:=⟨x.2.toNat-1,by omega⟩
 rw[hk,aan] at h2
 have:=fZ (bY (show 1<=x.1 by have:=(h.all x hx).prime.two;omega) k) (adO x.1) (by have:=(h.all x hx).prime.two;omega)
 rw[aao] at this
 omega
structure Out (n left d:Int)(xs:List (Int × Int)):Prop where
 all:∀ x∈xs,Part x
 rise:xs.Pairwise fun x y=>x.1<y.1
 below:∀ x∈xs,x.1<d
 prod:bL xs*left=n
 no:nV left d
 odd:d=2\/d%2=1
theorem BB (n:Int):Out n n 2 []:=⟨fun _ h=>(nomatch h),.nil,fun _ h=>(nomatch h),by simp[bL],fun k h1 h2=>by omega,.inl rfl⟩
theorem DV {n left d:Int}{xs:List (Int × Int)}(h:Out n left d xs)(l1:1<=left):left<=n:=by
 have:=h.prod
 have:=fZ (mI h.all) (adO left) (by omega)
 rw[aao] at this
 omega
structure Hy (cK d left often:Int):Prop where
 eq:cK=d^often.toNat*left
theorem sI (left d:Int):Hy left d left 0:=⟨by simp⟩
theorem DW {cK d left often:Int}(h:Hy cK d left often)(o:0<=often)(hz:Int.fmod left d=0):Hy cK d (Int.fdiv left d) (often+1):=by
 have q:=quot left d
 rw[hz] at q
 refine⟨?_⟩
 have e:(often+1).toNat=often.toNat+1:=by omega
 rw[e,aan,h.eq,aaq]
 congr 1
 omega
theorem Hz {x d:Int}(h:Int.fmod x d≠0):¬ d∣x:=fun hd=>h (Int.fmod_eq_zero_of_dvd hd)
theorem qb {cK d left often:Int}(hi:Hy cK d left often)(h2:2<=d)(ho:d=2\/d%2=1)(hn:nV cK d)(hz:Int.fmod left d≠0)(d':Int)(hd:d'=if d=2 then 3 else d+2):nV left d'/\(d'=2\/d'%2=1)/\d<d':=by
 have hl:left∣cK:=⟨d^often.toNat,by rw[hi.eq,aao]⟩
 have up:nV left (d+1):=by
  intro k k2 kd hk
  rcases (show k<d\/k=d by omega) with h|h
  ·exact hn k k2 h (aah hk hl)
  ·subst h;exact Hz hz hk
 by_cases e:d=2
 ·rw[aaz e] at hd
  subst hd
  subst e
  exact⟨up,by omega,by omega⟩
 ·rw[aar e] at hd
  subst hd
  refine⟨?_,by omega,by omega⟩
  intro k k2 kd hk
  rcases (show k<d+1\/k=d+1 by omega) with h|h
  ·exact up k k2 h hk
  ·subst h
   refine up 2 (by omega) (by omega) (aah ?_ hk)
   omega
theorem DX {n cK left d often:Int}{xs:List (Int × Int)}(h:Out n cK d xs)(hi:Hy cK d left often)(h2:2<=d)(o:often=0)(hz:Int.fmod left d≠0){d':Int}(hd:d'=if d=2 then 3 else d+2):Out n left d' xs:=by
 obtain⟨a,b,c⟩:=qb hi h2 h.odd h.no hz d' hd
 refine⟨h.all,h.rise,fun x hx=>by have:=h.below x hx;omega,?_,a,b⟩
 have e:=hi.eq
 subst o
 simp at e
 rw[<- e]
 exact h.prod
theorem DY {n cK left d often:Int}{xs:List (Int × Int)}(h:Out n cK d xs)(hi:Hy cK d left often)(h2:2<=d)(o:0<often)(hz:Int.fmod left d≠0){d':Int}(hd:d'=if d=2 then 3 else d+2):Out n left d' (xs++[(d,often)]):=by
 obtain⟨a,b,c⟩:=qb hi h2 h.odd h.no hz d' hd
 have dv:d∣cK:=by
  obtain⟨k,hk⟩:∃ k,often.toNat=k+1:=⟨often.toNat-1,by omega⟩
  refine⟨d^k*left,?_⟩
  rw[hi.eq,hk,aan,aao (d^k) d,aaq]
 refine⟨?_,?_,?_,?_,a,b⟩
 ·intro x hx
  rcases aa9.mp hx with hx|hx
  ·exact h.all x hx
  ·rw[aaY.mp hx]
   exact⟨DS h2 h.no dv,by omega⟩
 ·refine List.pairwise_append.mpr ⟨h.rise,List.pairwise_singleton _ _,?_⟩
  intro x hx y hy
  rw[aaY.mp hy]
  exact h.below x hx
 ·intro x hx
  rcases aa9.mp hx with hx|hx
  ·have:=h.below x hx;omega
  ·rw[aaY.mp hx];exact c
 ·rw[sG,sH,aaq,<- hi.eq]
  exact h.prod
theorem BC {n left d:Int}{xs:List (Int × Int)}(h:Out n left d xs)(h2:2<=d)(hx:left<d*d)(l1:1<left):Told n (xs++[(left,1)]):=by
 refine⟨?_,?_,?_⟩
 ·intro x vJ
  rcases aa9.mp vJ with vJ|vJ
  ·exact h.all x vJ
  ·rw[aaY.mp vJ]
   exact⟨DT h2 h.no hx l1,by omega⟩
 ·refine List.pairwise_append.mpr ⟨h.rise,List.pairwise_singleton _ _,?_⟩
  intro x vJ y hy
  rw[aaY.mp hy]
  have:=h.below x vJ
  have:=Hw h.no l1
  show x.1<left
  omega
 ·rw[sG,sH,show (1:Int).toNat=1 from rfl,Int.pow_one]
  exact h.prod
theorem BD {n left d:Int}{xs:List (Int × Int)}(h:Out n left d xs)(l1:left=1):Told n xs:=by
 refine⟨h.all,h.rise,?_⟩
 have:=h.prod
 subst l1
 omega
theorem DZ {xs:List (Int × Int)}(h:∀ x∈xs,Part x):(2:Int)^xs.length<=bL xs:=by
 induction xs with
 | nil=>simp[bL]
 | cons x r ih=>
  have h1:=ih fun y hy=>h y (.tail _ hy)
  have hp:=(h x (.head _)).prime.two
  have ho:=(h x (.head _)).often
  simp only[bL,aa8]
  rw[aan,aao]
  obtain⟨k,hk⟩:∃ k,x.2.toNat=k+1:=⟨x.2.toNat-1,by omega⟩
  have:2<=x.1^x.2.toNat:=by
   rw[hk,aan,aao]
   exact fZ (bY (by omega) k) hp (by omega)
  exact aby this h1 (by have:=bY (show (1:Int)<=2 by omega) r.length;omega) (by omega)
theorem qc {p k:Int}(h:aR p)(k1:1<=k)(hk:k∣p):k=1\/k=p:=by
 have p2:=h.two
 obtain⟨m,hm⟩:=hk
 rcases (show k=1\/2<=k by omega) with e|k2
 ·exact .inl e
 ·have m1:1<=m:=by
   rcases adw m 1 with h1|h1
   ·have:=aaK (show m<=0 by omega) (show 0<=k by omega)
    omega
   ·exact h1
  rcases (show m=1\/2<=m by omega) with e|m2
  ·subst e;exact .inr (by omega)
  ·exfalso
   rcases Int.le_total k m with hle|hle
   ·have:=aaK hle (show 0<=k by omega)
    exact h.no k k2 (by omega) ⟨m,hm⟩
   ·have:=abj hle (show 0<=m by omega)
    exact h.no m m2 (by omega) ⟨k,by rw[hm,aao]⟩
theorem gP {p x:Int}(h:aR p)(hx:¬ p∣x):Nat.Coprime p.natAbs x.natAbs:=by
 have p2:=h.two
 have g1:(Nat.gcd p.natAbs x.natAbs)∣p.natAbs:=Nat.gcd_dvd_left _ _
 have g2:(Nat.gcd p.natAbs x.natAbs)∣x.natAbs:=Nat.gcd_dvd_right _ _
 have g0:0<Nat.gcd p.natAbs x.natAbs:=Nat.gcd_pos_of_pos_left _ (by omega)
 show Nat.gcd p.natAbs x.natAbs=1
 generalize Nat.gcd p.natAbs x.natAbs=g at g0 g1 g2
 have d1:(g:Int)∣p:=Int.ofNat_dvd_left.mpr g1
 rcases qc h (by omega) d1 with e|e
 ·omega
 ·exfalso
  apply hx
  rw[<- e]
  exact Int.ofNat_dvd_left.mpr g2
theorem euclid {p x y:Int}(h:aR p)(hd:p∣x*y):p∣x\/p∣y:=by
 by_cases hx:p∣x
 ·exact .inl hx
 ·right
  have c:=gP h hx
  have d:p.natAbs∣x.natAbs*y.natAbs:=by
   rw[<- aaC]
   exact aa6.mpr hd
  exact aa6.mp (c.dvd_of_dvd_mul_left d)
theorem aX {p q:Int}(h:aR p)(k:aR q)(hd:p∣q):p=q:=by
 rcases qc k (by have:=h.two;omega) hd with e|e
 ·have:=h.two;omega
 ·exact e
theorem bZ {p:Int}(h:aR p):¬ p∣1:=fun hd=>by
 have:=adj (by omega) hd
 have:=h.two
 omega
theorem nW {p q:Int}(h:aR p):∀ n:Nat,p∣q^n->p∣q
 | 0,hd=>absurd (by simpa using hd) (bZ h)
 | n+1,hd=>by
  rw[aan] at hd
  rcases euclid h hd with e|e
  ·exact nW h n e
  ·exact e
theorem LK {p:Int}(h:aR p){xs:List (Int × Int)}(hx:∀ x∈xs,Part x)(hd:p∣bL xs):∃ x∈xs,x.1=p:=by
 induction xs with
 | nil=>exact absurd hd (bZ h)
 | cons x r ih=>
  simp only[bL] at hd
  rcases euclid h hd with e|e
  ·exact⟨x,.head _,(aX h (hx x (.head _)).prime (nW h _ e)).symm⟩
  ·obtain⟨y,hy,e⟩:=ih (fun y hy=>hx y (.tail _ hy)) e
   exact⟨y,.tail _ hy,e⟩
theorem qd:∀ (n:Nat) (k:Int),2<=k->k.toNat<=n->∃ q,aR q/\q∣k:=by
 intro n
 induction n with
 | zero=>intro k h1 h2;omega
 | succ n ih=>
  intro k h1 h2
  by_cases h:∃ j,2<=j/\j*j<=k/\j∣k
  ·obtain⟨j,j2,jj,hj⟩:=h
   have:=abj j2 (show 0<=j by omega)
   obtain⟨q,hq,hd⟩:=ih j j2 (by omega)
   exact⟨q,hq,aah hd hj⟩
  ·exact⟨k,⟨h1,fun j j2 jj hj=>h ⟨j,j2,jj,hj⟩⟩,acx k⟩
def cx:List (Int × Int)->Int
 | []=>1
 | x::r=>(if x.2%2=1 then x.1 else 1)*cx r
def bI:List (Int × Int)->Int
 | []=>1
 | x::r=>x.1^(x.2 / 2).toNat*bI r
theorem BE (xs ys:List (Int × Int)):cx (xs++ys)=cx xs*cx ys:=by
 induction xs with
 | nil=>simp[cx]
 | cons x r ih=>simp only[aez,cx,ih,aaq]
theorem BG (xs ys:List (Int × Int)):bI (xs++ys)=bI xs*bI ys:=by
 induction xs with
 | nil=>simp[bI]
 | cons x r ih=>simp only[aez,bI,ih,aaq]
theorem D0 {p e:Int}(he:0<=e):(if e%2=1 then p else 1)*(p^(e / 2).toNat*p^(e / 2).toNat)=p^e.toNat:=by
 rw[<- ab4]
 split
 ·rw[aao,<- aan]
  congr 1
  omega
 ·rw[aaN]
  congr 1
  omega
theorem sJ {xs:List (Int × Int)}(h:∀ x∈xs,Part x):cx xs*bI xs*bI xs=bL xs:=by
 induction xs with
 | nil=>simp[cx,bI,bL]
 | cons x r ih=>
  have h1:=ih fun y hy=>h y (.tail _ hy)
  simp only[cx,bI,bL]
  rw[<- h1,<- D0 (p:=x.1) (show 0<=x.2 by have:=(h x (.head _)).often;omega)]
  grind
theorem sL {xs:List (Int × Int)}(h:∀ x∈xs,Part x):1<=bI xs:=by
 induction xs with
 | nil=>simp[bI]
 | cons x r ih=>
  simp only[bI]
  exact fZ (ih fun y hy=>h y (.tail _ hy)) (bY (by have:=(h x (.head _)).prime.two;omega) _) (by omega)
theorem HA {q:Int}(h:aR q){xs:List (Int × Int)}(hx:∀ x∈xs,Part x)(hd:q∣cx xs):∃ x∈xs,x.1=q:=by
 induction xs with
 | nil=>exact absurd hd (bZ h)
 | cons x r ih=>
  simp only[cx] at hd
  rcases euclid h hd with e|e
  ·split at e
   ·exact⟨x,.head _,(aX h (hx x (.head _)).prime e).symm⟩
   ·exact absurd e (bZ h)
  ·obtain⟨y,hy,e⟩:=ih (fun y hy=>hx y (.tail _ hy)) e
   exact⟨y,.tail _ hy,e⟩
theorem yq {q:Int}(h:aR q){xs:List (Int × Int)}(hx:∀ x∈xs,Part x)(hr:xs.Pairwise fun x y=>x.1<y.1):¬ q*q∣cx xs:=by
 induction xs with
 | nil=>
  intro hd
  exact bZ h (aah ⟨q,rfl⟩ hd)
 | cons x r ih=>
  intro hd
  have jw:=abT.mp hr
  have vJ:=fun y hy=>hx y (List.Mem.tail _ hy)
  simp only[cx] at hd
  have hp:=(hx x (.head _)).prime
  split at hd
  ·by_cases e:q=x.1
   ·subst e
    have h1:x.1∣cx r:=by
     obtain⟨m,hm⟩:=hd
     rw[aaq] at hm
     have:=aaP (by have:=hp.two;omega) hm
     exact⟨m,this⟩
    obtain⟨y,hy,e⟩:=HA h vJ h1
    have:=jw.1 y hy
    omega
   ·have c:Nat.Coprime q.natAbs x.1.natAbs:=gP h fun Nf=>e (aX h hp Nf)
    have c2:Nat.Coprime (q*q).natAbs x.1.natAbs:=by rw[aaC];exact c.mul_left c
    have d:(q*q).natAbs∣x.1.natAbs*(cx r).natAbs:=by
     rw[<- aaC]
     exact aa6.mpr hd
    exact ih vJ jw.2 (aa6.mp (c2.dvd_of_dvd_mul_left d))
  ·rw[aaN] at hd
   exact ih vJ jw.2 hd
theorem rQ {x:Int × Int}{r:List (Int × Int)}(hx:Part x):x.1∣bL (x::r):=by
 obtain⟨k,hk⟩:∃ k,x.2.toNat=k+1:=⟨x.2.toNat-1,by have:=hx.often;omega⟩
 refine⟨x.1^k*bL r,?_⟩
 simp only[bL]
 rw[hk,aan,aao (x.1^k),aaq]
end Pr
namespace Jc
def S (f:Nat->Nat):Nat->Nat
 | 0=>0
 | m+1=>S f m+f (m+1)
theorem nX (f g:Nat->Nat):∀ m,S (fun k=>f k+g k) m=S f m+S g m
 | 0=>rfl
 | m+1=>by simp only[S];rw[nX f g m];omega
theorem eZ {f g:Nat->Nat}:∀ {m},(∀ k,1<=k->k<=m->f k=g k)->S f m=S g m
 | 0,_=>rfl
 | m+1,h=>by
  simp only[S]
  rw[eZ (m:=m) fun k h1 h2=>h k h1 (by omega),h (m+1) (by omega) (aai _)]
theorem iV (c:Nat):∀ m,S (fun _=>c) m=m*c
 | 0=>by simp[S]
 | m+1=>by simp only[S];rw[iV c m,Nat.succ_mul]
theorem D1 (c:Nat)(f:Nat->Nat):∀ m,S (fun k=>c*f k) m=c*S f m
 | 0=>by simp[S]
 | m+1=>by simp only[S];rw[D1 c f m,adM]
theorem D2 (f:Nat->Nat->Nat)(p:Nat):∀ m,S (fun k=>S (fun j=>f k j) p) m=S (fun j=>S (fun k=>f k j) m) p
 | 0=>by
  simp only[S]
  rw[iV 0 p,Nat.mul_zero]
 | m+1=>by
  simp only[S]
  rw[D2 f p m,<- nX]
theorem D3 {f g:Nat->Nat}:∀ {m},(∀ k,1<=k->k<=m->f k%2=g k%2)->S f m%2=S g m%2
 | 0,_=>rfl
 | m+1,h=>by
  simp only[S]
  have h1:=D3 (m:=m) fun k h1 h2=>h k h1 (by omega)
  have h2:=h (m+1) (by omega) (aai _)
  omega
theorem yr (f:Nat->Nat):∀ m,S f m=((List.range' 1 m).map f).sum
 | 0=>rfl
 | m+1=>by
  simp only[S]
  rw[yr f m,List.range'_concat,aaS,List.sum_append_nat]
  simp[aer]
theorem Ai {l1:List Nat}:∀ {l2:List Nat},l1.Nodup->(∀ x∈l1,x∈l2)->l2.length<=l1.length->l1.Perm l2:=by
 induction l1 with
 | nil=>
  intro l2 _ _ h
  have:l2=[]:=List.eq_nil_of_length_eq_zero (by simpa using h)
  subst this
  exact .nil
 | cons x t ih=>
  intro l2 nd sub len
  have hx:=sub x (aaR)
  have p:=List.perm_cons_erase hx
  have V0:=acd.mp nd
  have q:t.Perm (l2.erase x):=ih V0.2 (fun y hy=>by
   have h1:=sub y (aaL _ hy)
   have ne:y≠x:=fun e=>V0.1 (e▸hy)
   exact (List.mem_erase_of_ne ne).mpr h1) (by
   have h1:=List.length_erase_of_mem hx
   have h2:(x::t).length=t.length+1:=rfl
   omega)
  exact (List.Perm.cons x q).trans p.symm
theorem D4 (f p:Nat->Nat){m:Nat}(TM:∀ k,1<=k->k<=m->1<=p k/\p k<=m)(inj:∀ k l,1<=k->k<=m->1<=l->l<=m->p k=p l->k=l):S (fun k=>f (p k)) m=S f m:=by
 rw[yr,yr]
 have e:(List.range' 1 m).map (fun k=>f (p k))=((List.range' 1 m).map p).map f:=by rw[ae2];rfl
 rw[e]
 refine List.Perm.sum_nat (List.Perm.map f (Ai ?_ ?_ ?_))
 ·refine adF.mpr ?_
  have h0:(List.range' 1 m).Nodup:=List.nodup_range'
  refine List.Pairwise.imp_of_mem ?_ h0
  intro a b ha hb ne he
  have Nu:=ab2.mp ha
  have yc:=ab2.mp hb
  exact ne (inj a b Nu.1 (by omega) yc.1 (by omega) he)
 ·intro x hx
  obtain⟨k,hk,rfl⟩:=abb.mp hx
  have OW:=ab2.mp hk
  have:=TM k OW.1 (by omega)
  exact ab2.mpr ⟨this.1,by omega⟩
 ·rw[aas]
  exact aai _
def e (a n k:Nat):Nat:=if n<2*(a*k%n) then 1 else 0
def pi (a n k:Nat):Nat:=if n<2*(a*k%n) then n-a*k%n else a*k%n
def mu (a n:Nat):Nat:=S (e a n) (n / 2)
theorem OX (a n k:Nat):e (a%n) n k=e a n k:=by
 unfold e
 rw[<- Nat.mod_mul_mod,aeD]<;>simp[adK]
theorem LM (a n:Nat):mu (a%n) n=mu a n:=by
 unfold mu
 exact eZ fun k _ _=>OX a n k
structure Ok (a n:Nat):Prop where
 odd:n%2=1
 GL:Nat.gcd a n=1
theorem f9 {a n k:Nat}(c:Nat.gcd a n=1)(h:n∣a*k):n∣k:=by
 have c':Nat.Coprime n a:=by rw[abe,ac8];exact c
 exact c'.dvd_of_dvd_mul_left h
theorem we {a n k:Nat}(o:Ok a n)(k1:1<=k)(k2:k<=n / 2):0<a*k%n:=by
 rcases adv (a*k%n) with h|h
 ·have:=f9 o.GL (adX h)
  have:=ab9 (by omega) this
  have:=o.odd
  omega
 ·exact h
theorem Aj {a n k:Nat}(o:Ok a n)(k1:1<=k)(k2:k<=n / 2):1<=pi a n k/\pi a n k<=n / 2:=by
 have h:=we o k1 k2
 have h2:a*k%n<n:=acV _ (by have:=o.odd;omega)
 have:=o.odd
 unfold pi
 split<;>omega
theorem mod_eq_sub {x y n:Nat}(h:x%n=y%n):n∣x-y:=by
 rcases Nat.le_total y x with l|l
 ·exact (Nat.dvd_iff_mod_eq_zero).mpr (Nat.sub_mod_eq_zero_of_mod_eq h)
 ·rw[Nat.sub_eq_zero_of_le l];exact Nat.dvd_zero n
theorem yt {a n k l:Nat}(o:Ok a n)(k1:1<=k)(k2:k<=n / 2)(l1:1<=l)(l2:l<=n / 2)(h:pi a n k=pi a n l):k=l:=by
 have n0:0<n:=by have:=o.odd;omega
 have a1:a*k%n<n:=acV _ n0
 have a2:a*l%n<n:=acV _ n0
 have no:=o.odd
 have same:a*k%n=a*l%n->k=l:=fun q=>by
  rcases Nat.le_total l k with z|z
  ·have d:=mod_eq_sub q
   rw[<- Nat.mul_sub] at d
   have d2:=f9 o.GL d
   rcases adv (k-l) with w|w
   ·omega
   ·have:=ab9 w d2
    omega
  ·have d:=mod_eq_sub q.symm
   rw[<- Nat.mul_sub] at d
   have d2:=f9 o.GL d
   rcases adv (l-k) with w|w
   ·omega
   ·have:=ab9 w d2
    omega
 have other:a*k%n+a*l%n=n->False:=fun q=>by
  have d:n∣a*(k+l):=by
   rw[adM]
   refine adX ?_
   rw[Nat.add_mod,q,Nat.mod_self]
  have:=ab9 (by omega) (f9 o.GL d)
  omega
 unfold pi at h
 split at h<;>split at h
 ·exact same (by omega)
 ·exact (other (by omega)).elim
 ·exact (other (by omega)).elim
 ·exact same h
theorem TN (a n k:Nat):e a n k<=1:=by unfold e;split<;>omega
theorem OY {a n k:Nat}(no:n%2=1)(hr:0<a*k%n)(r:Nat)(wg:(r+a*k)%n=0):(if n<2*(r%n) then 1 else 0)=1-e a n k:=by
 have n0:0<n:=by omega
 have h1:a*k%n<n:=acV _ n0
 have h2:r%n<n:=acV _ n0
 rw[Nat.add_mod] at wg
 have h3:r%n+a*k%n=n:=by
  have d:=adX wg
  obtain⟨q,hq⟩:=d
  have:q=1:=by
   rcases q with _|_|q
   ·omega
   ·rfl
   ·have:n*(q+1+1)=n*q+2*n:=by rw[adM,adM];omega
    have:=abd (n*q)
    omega
  subst this
  omega
 unfold e
 split<;>split<;>omega
theorem OZ {a b n k:Nat}(o:Ok a n)(ob:Ok b n)(k1:1<=k)(k2:k<=n / 2):e (a*b) n k%2=(e b n k+e a n (pi b n k))%2:=by
 have no:=o.odd
 have n0:0<n:=by omega
 have pin:=Aj ob k1 k2
 have hb:b*k%n<n:=acV _ n0
 have key:a*b*k%n=a*(b*k%n)%n:=by rw[adL,adK,adK a (b*k%n),aeD]
 by_cases c:n<2*(b*k%n)
 ·have e1:e b n k=1:=by unfold e;rw[aaz c]
  have e2:pi b n k=n-b*k%n:=by unfold pi;rw[aaz c]
  have r:=we o pin.1 pin.2
  have z:(a*(b*k%n)+a*pi b n k)%n=0:=by
   rw[<- adM,e2,Nat.add_sub_cancel' (adu hb),Nat.mul_mod_left]
  have:=OY no r (a*(b*k%n)) z
  have e3:e (a*b) n k=1-e a n (pi b n k):=by
   rw[<- this]
   unfold e
   rw[key]
  have:=TN a n (pi b n k)
  omega
 ·have e1:e b n k=0:=by unfold e;rw[aar c]
  have e2:pi b n k=b*k%n:=by unfold pi;rw[aar c]
  have e3:e (a*b) n k=e a n (pi b n k):=by
   unfold e
   rw[key,e2]
  omega
theorem LN {a b n:Nat}(o:Ok a n)(ob:Ok b n):mu (a*b) n%2=(mu a n+mu b n)%2:=by
 unfold mu
 rw[D3 (g:=fun k=>e b n k+e a n (pi b n k)) fun k h1 h2=>OZ o ob h1 h2,nX,D4 (e a n) (pi b n) (fun k h1 h2=>Aj ob h1 h2) fun k l h1 h2 h3 h4 h=>yt ob h1 h2 h3 h4 h,aer]
theorem LO {n:Nat}(no:n%2=1):mu 1 n=0:=by
 unfold mu
 rw[eZ (g:=fun _=>0),iV,Nat.mul_zero]
 intro k k1 k2
 unfold e
 rw[adJ,aew (by omega),aar (by omega)]
theorem LP {n:Nat}(no:n%2=1):mu (n-1) n=n / 2:=by
 unfold mu
 rw[eZ (g:=fun _=>1),iV,aeC]
 intro k k1 k2
 unfold e
 have h:(n-1)*k%n=n-k:=by
  have h1:(n-1)*k=n-k+n*(k-1):=by
   rw[Nat.sub_mul,adJ,Nat.mul_sub,aeC]
   have:n<=n*k:=acX n (by omega)
   omega
  rw[h1,Nat.add_mul_mod_self_left,aew (by omega)]
 rw[h,aaz (by omega)]
theorem oX (n x:Nat)(n0:0<n):∀ m,S (fun j=>if j*n<=x then 1 else 0) m=min m (x / n)
 | 0=>by simp[S]
 | m+1=>by
  simp only[S]
  rw[oX n x n0 m]
  have h:(m+1)*n<=x↔m+1<=x / n:=(Nat.le_div_iff_mul_le n0).symm
  split
  ·next c=>
   have:=h.mp c
   omega
  ·next c=>
   have:¬ m+1<=x / n:=fun z=>c (h.mpr z)
   omega
theorem LQ {n:Nat}(no:n%2=1):mu 2 n=n / 2-n / 4:=by
 unfold mu
 have h:S (fun k=>(if k*4<=n then 1 else 0)+e 2 n k) (n / 2)=S (fun _=>1) (n / 2):=eZ fun k k1 k2=>by
  unfold e
  rw[aew (by omega)]
  split<;>split<;>omega
 rw[nX,oX 4 n (by decide),iV] at h
 omega
theorem wj {a n:Nat}(o:Ok a n)(ao:a%2=1):mu a n%2=S (fun k=>a*k / n) (n / 2)%2:=by
 have no:=o.odd
 have n0:0<n:=by omega
 have h1:S (fun k=>a*k) (n / 2)=S (fun k=>n*(a*k / n)+a*k%n) (n / 2):=eZ fun k _ _=>(Nat.div_add_mod _ _).symm
 rw[nX,D1,D1] at h1
 have h2:S (fun k=>a*k%n) (n / 2)%2=S (fun k=>pi a n k+e a n k) (n / 2)%2:=D3 fun k k1 k2=>by
  have:a*k%n<n:=acV _ n0
  unfold pi e
  split<;>omega
 rw[nX,D4 (fun k=>k) (pi a n) (fun k h1 h2=>Aj o h1 h2) fun k l h1 h2 h3 h4 h=>yt o h1 h2 h3 h4 h] at h2
 have h3:S (e a n) (n / 2)=mu a n:=rfl
 rw[h3] at h2
 have m1:a*S (fun k=>k) (n / 2)%2=S (fun k=>k) (n / 2)%2:=by rw[adK,ao,adJ,aeD]
 have m2:n*S (fun k=>a*k / n) (n / 2)%2=S (fun k=>a*k / n) (n / 2)%2:=by rw[adK,no,adJ,aeD]
 omega
theorem HB {a n:Nat}(ao:a%2=1)(no:n%2=1)(c:Nat.gcd a n=1):S (fun k=>a*k / n) (n / 2)+S (fun j=>n*j / a) (a / 2)=(n / 2)*(a / 2):=by
 have n0:0<n:=by omega
 have a0:0<a:=by omega
 have half:∀ {a n k:Nat},a%2=1->n%2=1->k<=n / 2->a*k / n<=a / 2:=fun {a n k} ao no h=>by
  have n0:0<n:=by omega
  have h1:a*k<=a*(n / 2):=acg a h
  have h2:2*(a*(n / 2))=a*(n-1):=by
   rw[<- adL,adt 2 a,adL]
   congr 1
   omega
  have h3:a*(n-1)<a*n:=Nat.mul_lt_mul_of_pos_left (by omega) (by omega)
  have h4:a*k / n*n<=a*k:=Nat.div_mul_le_self _ _
  rcases ae0 (a / 2) (a*k / n) with z|z
  ·have h5:(a / 2+1)*n<=a*k / n*n:=acG n z
   have h6:2*((a / 2+1)*n)=(a+1)*n:=by
    rw[<- adL]
    congr 1
    omega
   have h7:(a+1)*n=a*n+n:=by rw[Nat.add_mul,adJ]
   omega
  ·exact z
 have e1:S (fun k=>a*k / n) (n / 2)=S (fun k=>S (fun j=>if j*n<=a*k then 1 else 0) (a / 2)) (n / 2):=eZ fun k k1 k2=>by
  rw[oX n (a*k) n0]
  have:=half ao no k2
  omega
 have e2:S (fun j=>n*j / a) (a / 2)=S (fun j=>S (fun k=>if k*a<=n*j then 1 else 0) (n / 2)) (a / 2):=eZ fun j j1 j2=>by
  rw[oX a (n*j) a0]
  have:=half no ao j2
  omega
 rw[e1,e2,D2 (fun j k=>if k*a<=n*j then 1 else 0),<- nX]
 rw[eZ (g:=fun _=>a / 2),iV]
 intro k k1 k2
 rw[<- nX,eZ (g:=fun _=>1),iV,aeC]
 intro j j1 j2
 have ne:j*n≠a*k:=fun z=>by
  have d:n∣a*k:=⟨j,by rw[<- z,adt]⟩
  have:=ab9 (by omega) (f9 c d)
  omega
 have c1:k*a=a*k:=adt _ _
 have c2:n*j=j*n:=adt _ _
 rw[c1,c2]
 split<;>split<;>omega
theorem HC {a n:Nat}(ao:a%2=1)(no:n%2=1)(c:Nat.gcd a n=1):(mu a n+mu n a)%2=(n / 2)*(a / 2)%2:=by
 have h1:=wj ⟨no,c⟩ ao
 have h2:=wj (a:=n) (n:=a) ⟨ao,by rw[ac8];exact c⟩ no
 have h3:=HB ao no c
 omega
def sg (k:Nat):Int:=if k%2=0 then 1 else -1
theorem yu (k l:Nat):sg (k+l)=sg k*sg l:=by
 unfold sg
 split<;>split<;>split<;>omega
theorem D5 {k l:Nat}(h:k%2=l%2):sg k=sg l:=by unfold sg;rw[h]
theorem JI (k:Nat):sg k*sg k=1:=by unfold sg;split<;>rfl
theorem O0 (k:Nat):sg k=1\/sg k=-1:=by unfold sg;split<;>simp
def qf (a n:Nat):Int:=if Nat.gcd a n=1 then sg (mu a n) else 0
theorem cY {a n:Nat}(h:Nat.gcd a n=1):qf a n=sg (mu a n):=aaz h
theorem fb {a n:Nat}(h:Nat.gcd a n≠1):qf a n=0:=aar h
theorem Ak (a n:Nat):Nat.gcd (a%n) n=Nat.gcd a n:=by rw[<- Nat.gcd_rec,ac8]
theorem Al (a n:Nat):qf (a%n) n=qf a n:=by
 by_cases c:Nat.gcd a n=1
 ·rw[cY c,cY ((Ak a n).trans c),LM]
 ·rw[fb c,fb fun z=>c ((Ak a n).symm.trans z)]
theorem tY {n:Nat}(no:n%2=1)(a b:Nat):qf (a*b) n=qf a n*qf b n:=by
 by_cases c:Nat.gcd (a*b) n=1
 ·obtain⟨c1,c2⟩:=Nat.coprime_mul_iff_left.mp (abe.mpr c)
  have d1:=abe.mp c1
  have d2:=abe.mp c2
  rw[cY c,cY d1,cY d2,<- yu]
  exact D5 (LN ⟨no,d1⟩ ⟨no,d2⟩)
 ·rw[fb c]
  by_cases d1:Nat.gcd a n=1
  ·by_cases d2:Nat.gcd b n=1
   ·exact absurd (abe.mp (Nat.Coprime.mul_left (abe.mpr d1) (abe.mpr d2))) c
   ·rw[fb d2,aaI]
  ·rw[fb d1,ae3]
theorem Am {n:Nat}(no:n%2=1):qf 1 n=1:=by
 rw[cY (Nat.gcd_one_left n),LO no]
 rfl
theorem HD (a:Nat):qf a 1=1:=by
 rw[cY (Nat.gcd_one_right a)]
 rfl
theorem D6 {n:Nat}(h:n≠1):qf 0 n=0:=fb (by rw[Nat.gcd_zero_left];exact h)
theorem LR (a n:Nat):qf a n=1\/qf a n=0\/qf a n=-1:=by
 by_cases c:Nat.gcd a n=1
 ·rw[cY c]
  rcases O0 (mu a n) with h|h<;>rw[h]<;>simp
 ·rw[fb c]
  simp
theorem HE {n:Nat}(no:n%2=1):qf (n-1) n=if n%4=1 then 1 else -1:=by
 have c:Nat.gcd (n-1) n=1:=by
  have h:=Nat.gcd_self_add_right (n-1) 1
  rw[show n-1+1=n by omega,Nat.gcd_one_right] at h
  exact h
 rw[cY c,LP no]
 unfold sg
 split<;>split<;>omega
def two (n:Nat):Int:=if n%8=3\/n%8=5 then -1 else 1
theorem An {n:Nat}(no:n%2=1):qf 2 n=two n:=by
 have c:Nat.gcd 2 n=1:=by
  rw[Nat.gcd_rec,no];rfl
 rw[cY c,LQ no]
 unfold sg two
 split<;>split<;>omega
def turn (a n:Nat):Int:=if a%4=3/\n%4=3 then -1 else 1
theorem D7 (a n:Nat)(ao:a%2=1)(no:n%2=1):sg ((n / 2)*(a / 2))=turn a n:=by
 have h:(n / 2)*(a / 2)%2=(n / 2%2)*(a / 2%2)%2:=by rw[adK]
 unfold sg turn
 rw[h]
 have h1:n / 2%2=0\/n / 2%2=1:=by omega
 have h2:a / 2%2=0\/a / 2%2=1:=by omega
 rcases h1 with h1|h1<;>rcases h2 with h2|h2<;>rw[h1,h2]<;>simp<;>omega
theorem wk {a n:Nat}(ao:a%2=1)(no:n%2=1):qf a n=turn a n*qf n a:=by
 by_cases c:Nat.gcd a n=1
 ·have c':Nat.gcd n a=1:=by rw[ac8];exact c
  rw[cY c,cY c',<- D7 a n ao no]
  have h:=D5 (HC ao no c)
  rw[yu] at h
  rw[<- h,aaq,JI,abl]
 ·rw[fb c,fb (by rw[ac8];exact c),aaI]
theorem D8 {b o k:Nat}(bo:b%2=1)(oo:o%2=1):qf (2^k*o) b=(if k%2=1 then two b else 1)*turn o b*qf (b%o) o:=by
 have pw:∀ k,qf (2^k) b=if k%2=1 then two b else 1:=by
  intro k
  induction k with
  | zero=>rw[Nat.pow_zero,Am bo];rfl
  | succ k ih=>
   rw[abC,tY bo,ih,An bo]
   have t:two b*two b=1:=by unfold two;split<;>rfl
   by_cases h:k%2=1
   ·rw[aaz h,aar (by omega),t]
   ·rw[aar h,aaz (by omega),aaN]
 rw[tY bo,pw,Al,aaq,<- wk oo bo]
@[irreducible] def J (x n:Int):Int:=qf (x%n).toNat n.toNat
theorem tZ (x n:Int):J x n=qf (x%n).toNat n.toNat:=by unfold J;rfl
theorem Ao {x y n:Int}(h:x%n=y%n):J x n=J y n:=by rw[tZ,tZ,h]
theorem lY {n:Int}(n0:0<n){x:Int}(x0:0<=x):J x n=qf x.toNat n.toNat:=by
 rw[tZ,Int.toNat_emod x0 (abx n0),Al]
theorem sM {n:Int}(n0:0<n)(no:n%2=1)(x y:Int):J (x*y) n=J x n*J y n:=by
 have hx:=aba x (show n≠0 by omega)
 have hy:=aba y (show n≠0 by omega)
 have e:J (x*y) n=J ((x%n)*(y%n)) n:=Ao (by rw[abE])
 rw[e,lY n0 (acq hx hy),Int.toNat_mul hx hy,tY (by omega),tZ,tZ]
theorem O1 {n:Int}(n0:0<n)(no:n%2=1):J 1 n=1:=by
 rw[lY n0 (by decide)]
 exact Am (by omega)
theorem O2 (x:Int):J x 1=1:=by
 rw[tZ]
 exact HD _
theorem LS {n:Int}(n0:0<n)(h:n≠1):J 0 n=0:=by
 rw[lY n0 (by decide)]
 exact D6 (by omega)
theorem D9 (x n:Int):J x n=1\/J x n=0\/J x n=-1:=by
 rw[tZ]
 exact LR _ _
theorem O3 {n:Int}(n0:0<n)(no:n%2=1):J (-1) n=if n%4=1 then 1 else -1:=by
 have e:J (-1) n=J (n-1) n:=Ao (by
  have:n-1=-1+n:=by omega
  rw[this,Int.add_emod_right])
 rw[e,lY n0 (by omega),show (n-1).toNat=n.toNat-1 by omega,HE (by omega)]
 split<;>split<;>omega
def cF (n:Int):Int:=if n%8=3\/n%8=5 then -1 else 1
theorem O4 {n:Int}(n0:0<n)(no:n%2=1):J 2 n=cF n:=by
 rw[lY n0 (by decide),show (2:Int).toNat=2 from rfl,An (by omega)]
 unfold two cF
 split<;>split<;>omega
def bH (a n:Int):Int:=if a%4=3/\n%4=3 then -1 else 1
theorem Ap {a n:Int}(a0:0<a)(n0:0<n):turn a.toNat n.toNat=bH a n:=by
 unfold turn bH
 split<;>split<;>omega
theorem LU {n:Int}(n0:0<n):two n.toNat=cF n:=by
 unfold two cF
 split<;>split<;>omega
theorem LV {a n:Int}(a0:0<a)(ao:a%2=1)(n0:0<n)(no:n%2=1):J a n=bH a n*J n a:=by
 rw[lY n0 (abx a0),lY a0 (abx n0),wk (by omega) (by omega),Ap a0 n0]
def GG (a b:Int):Nat:=Nat.gcd (a%b).toNat b.toNat
theorem O5 {x n:Int}(h:GG x n=1):J x n*J x n=1:=by
 have h':Nat.gcd (x%n).toNat n.toNat=1:=h
 rw[tZ,cY h',JI]
theorem LW {b l o:Int}(b0:0<b)(bo:b%2=1)(l0:0<l)(lo:l%2=1)(o0:0<=o):J (2^o.toNat*l) b=(if o%2=1 then cF b else 1)*bH l b*J (b%l) l:=by
 have p:0<(2:Int)^o.toNat*l:=acR (Int.pow_pos (by decide)) l0
 have e:((2:Int)^o.toNat*l).toNat=2^o.toNat*l.toNat:=by
  rw[Int.toNat_mul (abx (Int.pow_pos (by decide))) (abx l0)]
  congr 1
 rw[lY b0 (abx p),e,D8 (by omega) (by omega),lY l0 (aba _ (by omega)),Int.toNat_emod (abx b0) (abx l0),Ap l0 b0,LU b0]
 have:(o.toNat%2=1)=(o%2=1):=by
  apply propext
  omega
 simp only[this]
structure Dec (x p l o:Int):Prop where
 eq:x=p^o.toNat*l
 o0:0<=o
 nd:¬ p∣l
theorem Aq {p l l':Int}(p0:p≠0)(h:¬ p∣l)(h':¬ p∣l'):∀ k m:Nat,p^k*l=p^m*l'->k=m/\l=l'
 | 0,0,e=>by
  rw[aaO,aaN,aaN] at e
  exact⟨rfl,e⟩
 | 0,m+1,e=>by
  rw[aaO,aaN,aan,aao (p^m) p,aaq] at e
  exact absurd ⟨_,e⟩ h
 | k+1,0,e=>by
  rw[aaO,aaN,aan,aao (p^k) p,aaq] at e
  exact absurd ⟨_,e.symm⟩ h'
 | k+1,m+1,e=>by
  rw[aan,aan,aao (p^k) p,aao (p^m) p,aaq,aaq] at e
  obtain⟨a,b⟩:=Aq p0 h h' k m (aaP p0 e)
  exact⟨by omega,b⟩
theorem Dec.unique {x p l o l' o':Int}(p0:p≠0)(h:Dec x p l o)(h':Dec x p l' o'):o=o'/\l=l':=by
 have e:=h.eq.symm.trans h'.eq
 obtain⟨a,b⟩:=Aq p0 h.nd h'.nd _ _ e
 have:=h.o0
 have:=h'.o0
 exact⟨by omega,b⟩
theorem Dec.Ea {x p l o:Int}(h:Pr.Hy x p l o)(o0:0<=o)(z:l.fmod p≠0):Dec x p l o:=⟨h.eq,o0,fun d=>z (Int.fmod_eq_zero_of_dvd d)⟩
def gG (p o1 l1 o2 l2:Int):Int:=if o1%2=1 then (if o2%2=1 then J (-l1*l2) p else J l2 p) else (if o2%2=1 then J l1 p else 1)
def iE (o1 l1 o2 l2:Int):Int:=bH l1 l2*(if o1%2=1 then cF l2 else 1)*(if o2%2=1 then cF l1 else 1)
def hs (p o1 l1 o2 l2:Int):Int:=if p=2 then iE o1 l1 o2 l2 else gG p o1 l1 o2 l2
def HF (p r:Nat):Int:=if r%p=0 then 1 else 0
def Ar (p r:Nat):Int:=if r%p=0 then (r / p:Nat) else (r:Nat)
def RH (p ra rb:Nat):Int:=hs p (HF p ra) (Ar p ra) (HF p rb) (Ar p rb)
theorem BH {o1 l1 o2 l2 O6 O7:Int}(h1:l1%8=O6%8)(h2:l2%8=O7%8):iE o1 l1 o2 l2=iE o1 O6 o2 O7:=by
 unfold iE
 have t1:cF l1=cF O6:=by unfold cF;rw[h1]
 have t2:cF l2=cF O7:=by unfold cF;rw[h2]
 have t3:bH l1 l2=bH O6 O7:=by
  unfold bH
  rw[show l1%4=O6%4 by omega,show l2%4=O7%4 by omega]
 rw[t1,t2,t3]
theorem HG {a p l o:Int}(p0:p≠0)(d:Dec a p l o)(h:¬ p*p∣a):(o=0/\a=l)\/(o=1/\a=p*l):=by
 have o0:=d.o0
 have e:=d.eq
 rcases (show o=0\/o=1\/2<=o by omega) with z|z|z
 ·rw[z,show (0:Int).toNat=0 from rfl,aaO,aaN] at e
  exact .inl ⟨z,e⟩
 ·rw[z,show (1:Int).toNat=1 from rfl,aan,aaO,aaN] at e
  exact .inr ⟨z,e⟩
 ·exfalso
  obtain⟨k,hk⟩:∃ k,o.toNat=k+2:=⟨o.toNat-2,by omega⟩
  rw[hk,aan,aan] at e
  exact h ⟨p^k*l,by rw[e];grind⟩
theorem JJ {a l o:Int}(d:Dec a 2 l o)(h:¬ (2:Int)*2∣a):o=HF 2 (a%(16:Nat)).toNat/\l%8=Ar 2 (a%(16:Nat)).toNat%8/\(a%(16:Nat)).toNat%(2*2)≠0:=by
 have nd:=d.nd
 have h':¬ (4:Int)∣a:=h
 unfold HF Ar
 rcases HG (by decide) d h with ⟨z,e⟩|⟨z,e⟩
 ·subst z
  subst e
  rw[aar (show ¬ (a%(16:Nat)).toNat%2=0 by omega),aar (show ¬ (a%(16:Nat)).toNat%2=0 by omega)]
  omega
 ·subst z
  rw[aaz (show (a%(16:Nat)).toNat%2=0 by omega),aaz (show (a%(16:Nat)).toNat%2=0 by omega)]
  omega
end Jc
namespace Jc
open Pr (aR)
theorem qg {p:Int}(p2:2<=p):∀ (m:Nat) (x:Int),x≠0->x.natAbs<=m->∃ l o,Dec x p l o
 | 0,x,x0,h=>absurd (Int.natAbs_eq_zero.mp (by omega)) x0
 | m+1,x,x0,h=>by
  by_cases d:p∣x
  ·obtain⟨k,hk⟩:=d
   have k0:k≠0:=fun z=>x0 (by rw[hk,z,aaI])
   have e:x.natAbs=p.natAbs*k.natAbs:=by rw[hk,aaC]
   have:2*k.natAbs<=p.natAbs*k.natAbs:=acG _ (by omega)
   obtain⟨l,o,D⟩:=qg p2 m k k0 (by omega)
   refine⟨l,o+1,⟨?_,by have:=D.o0;omega,D.nd⟩⟩
   rw[show (o+1).toNat=o.toNat+1 by have:=D.o0;omega,aan,hk,D.eq]
   grind
  ·exact⟨x,0,⟨by rw[show (0:Int).toNat=0 from rfl,aaO,aaN],by decide,d⟩⟩
theorem Dec.mul {p x y l o l' o':Int}(hp:aR p)(h:Dec x p l o)(h':Dec y p l' o'):Dec (x*y) p (l*l') (o+o'):=by
 refine⟨?_,by have:=h.o0;have:=h'.o0;omega,fun d=>?_⟩
 ·rw[show (o+o').toNat=o.toNat+o'.toNat by have:=h.o0;have:=h'.o0;omega,ab4]
  have e1:=h.eq
  have e2:=h'.eq
  generalize p^o.toNat=A at e1 ⊢
  generalize p^o'.toNat=B at e2 ⊢
  subst e1
  subst e2
  grind
 ·rcases Pr.euclid hp d with z|z
  ·exact h.nd z
  ·exact h'.nd z
theorem fj {p l:Int}(hp:aR p)(h:¬ p∣l):J l p*J l p=1:=by
 refine O5 ?_
 have p2:=hp.two
 have c:=Pr.gP hp (x:=l%p) (fun d=>h (by have e:=ac9 l p;rw[<- e];exact acS d (aa7 _ _)))
 have r0:=aba l (show p≠0 by omega)
 unfold GG
 have c':=abe.mp c
 rw[ac8]
 rw[show p.toNat=p.natAbs by omega,show (l%p).toNat=(l%p).natAbs by omega]
 exact c'
theorem HH {p o1 l1 o2 l2:Int}(hp:aR p)(po:p%2=1)(n1:¬ p∣l1)(n2:¬ p∣l2):gG p o1 l1 o2 l2=1\/gG p o1 l1 o2 l2=-1:=by
 have sq:∀ l,¬ p∣l->J l p=1\/J l p=-1:=fun l h=>by
  have:=fj hp h
  rcases D9 l p with z|z|z
  ·exact .inl z
  ·rw[z] at this;cases this
  ·exact .inr z
 unfold gG
 split<;>split
 ·refine sq _ fun d=>?_
  rcases Pr.euclid hp d with z|z
  ·exact n1 (abu.mp z)
  ·exact n2 z
 ·exact sq _ n2
 ·exact sq _ n1
 ·exact .inl rfl
theorem Eb (p o1 l1 o2 l2:Int):gG p o1 l1 o2 l2=gG p o2 l2 o1 l1:=by
 unfold gG
 have e:-l1*l2=-l2*l1:=by grind
 split<;>split<;>simp_all
theorem Ec {p o1 l1 o2 l2 o3 l3:Int}(hp:aR p)(po:p%2=1)(n1:¬ p∣l1):gG p o1 l1 (o2+o3) (l2*l3)=gG p o1 l1 o2 l2*gG p o1 l1 o3 l3:=by
 have p0:0<p:=by have:=hp.two;omega
 have u1:=fj hp n1
 have u2:=fj hp (l:=-l1) (fun d=>n1 (abu.mp d))
 have m1:∀ x,J (-l1*x) p=J (-l1) p*J x p:=fun x=>sM p0 po _ _
 have m2:=sM p0 po l2 l3
 unfold gG
 rcases (show o2%2=0\/o2%2=1 by omega) with h2|h2<;>rcases (show o3%2=0\/o3%2=1 by omega) with h3|h3
 ·rw[aar (show ¬ (o2+o3)%2=1 by omega),aar (show ¬ (o2+o3)%2=1 by omega),aar (show ¬ o2%2=1 by omega),aar (show ¬ o2%2=1 by omega),aar (show ¬ o3%2=1 by omega),aar (show ¬ o3%2=1 by omega)]
  split
  ·exact m2
  ·rfl
 ·rw[aaz (show (o2+o3)%2=1 by omega),aaz (show (o2+o3)%2=1 by omega),aar (show ¬ o2%2=1 by omega),aar (show ¬ o2%2=1 by omega),aaz h3,aaz h3]
  split
  ·rw[m1,m1,m2]
   grind
  ·rw[aaN]
 ·rw[aaz (show (o2+o3)%2=1 by omega),aaz (show (o2+o3)%2=1 by omega),aaz h2,aaz h2,aar (show ¬ o3%2=1 by omega),aar (show ¬ o3%2=1 by omega)]
  split
  ·rw[m1,m1,m2]
   grind
  ·rw[abl]
 ·rw[aar (show ¬ (o2+o3)%2=1 by omega),aar (show ¬ (o2+o3)%2=1 by omega),aaz h2,aaz h2,aaz h3,aaz h3]
  split
  ·rw[m1,m1,m2]
   grind
  ·exact u1.symm
theorem tw (l:Int):cF l=1\/cF l=-1:=by unfold cF;split<;>simp
theorem tn (a b:Int):bH a b=1\/bH a b=-1:=by unfold bH;split<;>simp
theorem Ed (l:Int):cF l*cF l=1:=by rcases tw l with h|h<;>rw[h]<;>rfl
theorem LX {a b:Int}(ha:a%2=1)(hb:b%2=1):cF (a*b)=cF a*cF b:=by
 have e:a*b%8=(a%8)*(b%8)%8:=abE a b 8
 unfold cF
 rw[e]
 rcases (show a%8=1\/a%8=3\/a%8=5\/a%8=7 by omega) with h|h|h|h<;>rcases (show b%8=1\/b%8=3\/b%8=5\/b%8=7 by omega) with k|k|k|k<;>rw[h,k]<;>rfl
theorem LY {c a b:Int}(hc:c%2=1)(ha:a%2=1)(hb:b%2=1):bH c (a*b)=bH c a*bH c b:=by
 have e:a*b%4=(a%4)*(b%4)%4:=abE a b 4
 unfold bH
 rw[e]
 rcases (show a%4=1\/a%4=3 by omega) with h|h<;>rcases (show b%4=1\/b%4=3 by omega) with k|k<;>rcases (show c%4=1\/c%4=3 by omega) with j|j<;>rw[h,k,j]<;>rfl
theorem LZ (a b:Int):bH a b=bH b a:=by
 unfold bH
 by_cases h:a%4=3<;>by_cases k:b%4=3<;>simp[h,k]
theorem HI (o1 l1 o2 l2:Int):iE o1 l1 o2 l2=1\/iE o1 l1 o2 l2=-1:=by
 unfold iE
 rcases tn l1 l2 with h|h<;>rcases tw l1 with h2|h2<;>rcases tw l2 with h3|h3<;>rw[h,h2,h3]<;>split<;>split<;>decide
theorem Ee (o1 l1 o2 l2:Int):iE o1 l1 o2 l2=iE o2 l2 o1 l1:=by
 unfold iE
 rw[LZ l1 l2]
 grind
theorem Ef {o1 l1 o2 l2 o3 l3:Int}(h1:l1%2=1)(h2:l2%2=1)(h3:l3%2=1):iE o1 l1 (o2+o3) (l2*l3)=iE o1 l1 o2 l2*iE o1 l1 o3 l3:=by
 have s1:=Ed l1
 unfold iE
 rw[LY h1 h2 h3,LX h2 h3]
 have e:(if (o2+o3)%2=1 then cF l1 else 1)=(if o2%2=1 then cF l1 else 1)*(if o3%2=1 then cF l1 else 1):=by
  rcases (show o2%2=0\/o2%2=1 by omega) with k|k<;>rcases (show o3%2=0\/o3%2=1 by omega) with j|j
  ·rw[aar (show ¬ (o2+o3)%2=1 by omega),aar (show ¬ o2%2=1 by omega),aar (show ¬ o3%2=1 by omega)];rfl
  ·rw[aaz (show (o2+o3)%2=1 by omega),aar (show ¬ o2%2=1 by omega),aaz j,aaN]
  ·rw[aaz (show (o2+o3)%2=1 by omega),aaz k,aar (show ¬ o3%2=1 by omega),abl]
  ·rw[aar (show ¬ (o2+o3)%2=1 by omega),aaz k,aaz j,s1]
 rw[e]
 by_cases c:o1%2=1
 ·rw[aaz c,aaz c,aaz c]
  grind
 ·rw[aar c,aar c,aar c]
  grind
theorem b9 {p:Int}(h:aR p)(n2:p≠2):p%2=1:=by
 rcases (show p%2=0\/p%2=1 by omega) with z|z
 ·have:=h.two
  exact absurd (aaH z) (h.no 2 (by omega) (by omega))
 ·exact z
theorem t6 {l:Int}(h:¬ (2:Int)∣l):l%2=1:=by omega
theorem O8 {p a b l1 o1 l2 o2:Int}(hp:aR p)(d1:Dec a p l1 o1)(d2:Dec b p l2 o2):hs p o1 l1 o2 l2=1\/hs p o1 l1 o2 l2=-1:=by
 unfold hs
 split
 ·exact HI _ _ _ _
 ·next c=>exact HH hp (b9 hp c) d1.nd d2.nd
theorem L1 (p o1 l1 o2 l2:Int):hs p o1 l1 o2 l2=hs p o2 l2 o1 l1:=by
 unfold hs
 rw[Ee,Eb]
theorem L4 {p a b c l1 o1 l2 o2 l3 o3:Int}(hp:aR p)(d1:Dec a p l1 o1)(d2:Dec b p l2 o2)(d3:Dec c p l3 o3):hs p o1 l1 (o2+o3) (l2*l3)=hs p o1 l1 o2 l2*hs p o1 l1 o3 l3:=by
 unfold hs
 split
 ·next c=>
  subst c
  exact Ef (t6 d1.nd) (t6 d2.nd) (t6 d3.nd)
 ·next c=>exact Ec hp (b9 hp c) d1.nd
end Jc
namespace Pw
theorem mulC {n a a' b b':Int}(h1:a%n=a'%n)(h2:b%n=b'%n):a*b%n=a'*b'%n:=by
 rw[abE,h1,h2,<- abE]
theorem powC {n a b:Int}(h:a%n=b%n):∀ k:Nat,a^k%n=b^k%n
 | 0=>by rw[aaO,aaO]
 | k+1=>by rw[aan,aan];exact mulC (powC h k) h
theorem fC (a n:Int):(a%n)%n=a%n:=aeT a n
@[irreducible] def PM (x:Int) (k:Nat) (n:Int):Int:=x^k%n
theorem fD (x:Int)(k:Nat)(n:Int):PM x k n=x^k%n:=by unfold PM;rfl
theorem HJ (x n:Int)(k:Nat):PM x (k+1) n=PM x k n*x%n:=by
 rw[fD,fD,aan];exact mulC (fC _ _).symm rfl
theorem HK {x y n:Int}(k:Nat)(h:x%n=y%n):PM x k n=PM y k n:=by rw[fD,fD];exact powC h k
theorem L5 (x n:Int)(k m:Nat):PM x (k+m) n=PM x k n*PM x m n%n:=by
 rw[fD,fD,fD,ab4];exact mulC (fC _ _).symm (fC _ _).symm
theorem start (x n:Int)(k:Nat):(1%n)*(x%n)^k%n=PM x k n:=by
 rw[fD]
 have h:(1%n)*(x%n)^k%n=1*x^k%n:=mulC (fC 1 n) (powC (fC x n) k)
 rw[h,aaN]
theorem split (f:Int)(l:Nat):f^l=(f*f)^(l / 2)*f^(l%2):=by
 have h:l=2*(l / 2)+l%2:=by omega
 have e:f^2=f*f:=by rw[aan,aan,aaO,aaN]
 rw[<- e,<- aeF,<- ab4,<- h]
theorem Eg {p f n v:Int}{l:Nat}(h:p*f^l%n=v)(o:l%2=1):(p*f%n)*(f*f%n)^(l / 2)%n=v:=by
 rw[<- h,split f l,o,aan,aaO,aaN]
 have e:p*((f*f)^(l / 2)*f)=p*f*(f*f)^(l / 2):=by
  rw[aao ((f*f)^(l / 2)) f,aaq]
 rw[e]
 exact mulC (fC _ _) (powC (fC _ _) _)
theorem BI {p f n v:Int}{l:Nat}(h:p*f^l%n=v)(o:l%2=0):p*(f*f%n)^(l / 2)%n=v:=by
 rw[<- h,split f l,o,aaO,abl]
 exact mulC rfl (powC (fC _ _) _)
theorem done {p f n v:Int}(h:p*f^0%n=v)(h0:0<=p)(h1:p<n):p=v:=by
 rw[aaO,abl,ab3 h0 h1] at h
 exact h
end Pw
namespace Jc
open Pr (aR)
def PN (f:Nat->Nat):Nat->Nat
 | 0=>1
 | m+1=>PN f m*f (m+1)
theorem t7 (f:Nat->Nat):∀ m,PN f m=((List.range' 1 m).map f).prod
 | 0=>rfl
 | m+1=>by
  simp only[PN]
  rw[t7 f m,List.range'_concat,aaS,List.prod_append_nat]
  simp[aer]
theorem HL (p:Nat->Nat){m:Nat}(TM:∀ k,1<=k->k<=m->1<=p k/\p k<=m)(inj:∀ k l,1<=k->k<=m->1<=l->l<=m->p k=p l->k=l):PN p m=PN (fun k=>k) m:=by
 rw[t7,t7]
 refine List.Perm.prod_nat ?_
 have e:(List.range' 1 m).map (fun k=>k)=List.range' 1 m:=by simp
 rw[e]
 refine Ai ?_ ?_ ?_
 ·refine adF.mpr ?_
  have h0:(List.range' 1 m).Nodup:=List.nodup_range'
  refine List.Pairwise.imp_of_mem ?_ h0
  intro a b ha hb ne he
  have Nu:=ab2.mp ha
  have yc:=ab2.mp hb
  exact ne (inj a b Nu.1 (by omega) yc.1 (by omega) he)
 ·intro x hx
  obtain⟨k,hk,rfl⟩:=abb.mp hx
  have OW:=ab2.mp hk
  have:=TM k OW.1 (by omega)
  exact ab2.mpr ⟨this.1,by omega⟩
 ·rw[aas]
  exact aai _
theorem wm (a:Nat):∀ m,PN (fun k=>a*k) m=a^m*PN (fun k=>k) m
 | 0=>by simp[PN]
 | m+1=>by
  simp only[PN]
  rw[wm a m,abC]
  grind
theorem As {a n:Nat}(o:Ok a n):∀ m,m<=n / 2->((PN (fun k=>a*k) m:Nat):Int)%n=sg (S (e a n) m)*((PN (pi a n) m:Nat):Int)%n
 | 0,_=>by simp[PN,S,sg]
 | m+1,hm=>by
  have n0:0<n:=by have:=o.odd;omega
  have ih:=As o m (by omega)
  simp only[PN,S]
  rw[abR (PN (fun k=>a*k) m) (a*(m+1)),abR (PN (pi a n) m) (pi a n (m+1)),yu]
  have step:((a*(m+1):Nat):Int)%n=sg (e a n (m+1))*((pi a n (m+1):Nat):Int)%n:=by
   have h2:a*(m+1)%n<n:=acV _ n0
   have q:=ac9 ((a*(m+1):Nat):Int) n
   have r:((a*(m+1):Nat):Int)%n=((a*(m+1)%n:Nat):Int):=by rw[Int.natCast_emod]
   unfold e pi sg
   by_cases c:n<2*(a*(m+1)%n)
   ·rw[aaz c,aaz c,aar (by decide),r]
    have:(-1:Int)*((n-a*(m+1)%n:Nat):Int)=((a*(m+1)%n:Nat):Int)+n*(-1):=by
     rw[Int.natCast_sub (adu h2)]
     omega
    rw[this,Int.add_mul_emod_self_left,ab3 (by omega) (by omega)]
   ·rw[aar c,aar c,aaz rfl,aaN,r,ab3 (by omega) (by omega)]
  have z:=Pw.mulC ih step
  rw[z]
  congr 1
  grind
theorem oY {p:Int}(hp:aR p):∀ m:Nat,(m:Int)<p->¬ p∣((PN (fun k=>k) m:Nat):Int)
 | 0,_,d=>Pr.bZ hp d
 | m+1,h,d=>by
  simp only[PN] at d
  rw[abR] at d
  rcases Pr.euclid hp d with z|z
  ·exact oY hp m (by omega) z
  ·have:=adj (by omega) z
   omega
theorem O9 {p:Nat}(hp:aR (p:Int))(po:p%2=1){a:Nat}(c:Nat.gcd a p=1):(p:Int)∣(a:Int)^(p / 2)-sg (mu a p):=by
 have o:Ok a p:=⟨po,c⟩
 have h1:=As o (p / 2) (aai _)
 rw[wm,HL (pi a p) (fun k h1 h2=>Aj o h1 h2) fun k l h1 h2 h3 h4 h=>yt o h1 h2 h3 h4 h] at h1
 have h2:=aaE.mp h1
 rw[abR,aeH,<- Int.sub_mul] at h2
 have d:=aaH h2
 rcases Pr.euclid hp d with z|z
 ·exact z
 ·exact absurd z (oY hp (p / 2) (by have:=hp.two;omega))
theorem sN {p:Int}(hp:aR p)(po:p%2=1)(x:Int):Pw.PM x (p / 2).toNat p=J x p%p:=by
 have p2:=hp.two
 obtain⟨q,rfl⟩:∃ q:Nat,p=(q:Int):=⟨p.toNat,by omega⟩
 have hx:=aba x (show (q:Int)≠0 by omega)
 rw[show ((q:Int) / 2).toNat=q / 2 by omega]
 rw[Pw.HK _ (Pw.fC x q).symm]
 obtain⟨r,hr⟩:∃ r:Nat,x%(q:Int)=(r:Int):=⟨(x%(q:Int)).toNat,by omega⟩
 rw[tZ,hr,abn,abn,Pw.fD]
 by_cases c:Nat.gcd r q=1
 ·rw[cY c]
  exact aaE.mpr (abg (O9 hp (by omega) c))
 ·rw[fb c]
  have d:(q:Int)∣(r:Int):=by
   by_cases d:(q:Int)∣(r:Int)
   ·exact d
   ·have k:=Pr.gP hp d
    rw[Int.natAbs_natCast,Int.natAbs_natCast] at k
    exact absurd (by rw[ac8];exact abe.mp k) c
  have z:(r:Int)%q=0%q:=by rw[abg d,Int.zero_emod]
  rw[Pw.powC z]
  obtain⟨k,hk⟩:∃ k,q / 2=k+1:=⟨q / 2-1,by omega⟩
  rw[hk,aan,aaI]
end Jc
namespace Pl
open Jc
def Nv (a b c:Nat):Bool:=[0,1,4].any fun x=>[0,1,4].any fun y=>[0,1,4].any fun z=>(x==1 || y==1 || z==1)&&(a*x+b*y+c*z)%8==0
def RI (a b c:Nat):Bool:=(a%4 != 0)&&(b%4 != 0)&&(c%4 != 0)&&!(a%2==0&&b%2==0)&&!(b%2==0&&c%2==0)&&!(c%2==0&&a%2==0)
def Pa (a b c:Nat):Bool:=!(RI a b c) || (decide (RH 2 ((16-a)*c%16) ((16-b)*c%16)=-1)==!(Nv a b c))
theorem Eh:((List.range 16).all fun a=>(List.range 16).all fun b=>(List.range 16).all fun c=>Pa a b c)=true:=by decide +kernel
end Pl
namespace Pl
open Pr (aR Told)
open Jc
theorem k8:∀ {l1 l2:List Int},l1.Pairwise (·<·)->l2.Pairwise (·<·)->(∀ x,x∈l1↔x∈l2)->l1=l2
 | [],[],_,_,_=>rfl
 | [],b::l2,_,_,h=>absurd ((h b).mpr (aaR ..)) (by simp)
 | a::l1,[],_,_,h=>absurd ((h a).mp (aaR ..)) (by simp)
 | a::l1,b::l2,h1,h2,h=>by
  obtain⟨a1,a2⟩:=abT.mp h1
  obtain⟨b1,b2⟩:=abT.mp h2
  have e:a=b:=by
   have x1:=(h a).mp (aaR ..)
   have x2:=(h b).mpr (aaR ..)
   rcases aaf.mp x1 with z|z
   ·exact z
   ·rcases aaf.mp x2 with w|w
    ·exact w.symm
    ·have:=b1 _ z
     have:=a1 _ w
     omega
  subst e
  congr 1
  refine k8 a2 b2 fun x=>⟨fun m=>?_,fun m=>?_⟩
  ·rcases aaf.mp ((h x).mp (aaL _ m)) with z|z
   ·have:=a1 _ m
    omega
   ·exact z
  ·rcases aaf.mp ((h x).mpr (aaL _ m)) with z|z
   ·have:=b1 _ m
    omega
   ·exact z
theorem Au {p:Int}:∀ {ps:List Int},p∈ps->p∣ps.prod
 | q::r,h=>by
  rw[aeO]
  rcases aaf.mp h with rfl|h
  ·exact aa7 _ _
  ·exact aah (Au h) (aaw _ _)
theorem Av {p:Int}(hp:aR p):∀ {ps:List Int},(∀ q∈ps,aR q)->p∣ps.prod->p∈ps
 | [],_,hd=>absurd hd (by rw[List.prod_nil];exact Pr.bZ hp)
 | q::r,h,hd=>by
  rw[aeO] at hd
  rcases Pr.euclid hp hd with z|z
  ·rw[Pr.aX hp (h q (aaR ..)) z]
   exact aaR ..
  ·exact aaL _ (Av hp (fun x m=>h x (aaL _ m)) z)
structure rR (a b c:Int):Prop where
 a0:a≠0
 b0:b≠0
 c0:c≠0
 sa:∀ p,aR p->¬ p*p∣a
 sb:∀ p,aR p->¬ p*p∣b
 sc:∀ p,aR p->¬ p*p∣c
 ab:∀ p,aR p->p∣a->¬ p∣b
 bc:∀ p,aR p->p∣b->¬ p∣c
 ca:∀ p,aR p->p∣c->¬ p∣a
theorem rR.Nw {a b c:Int}(h:rR a b c):rR b c a:=⟨h.b0,h.c0,h.a0,h.sb,h.sc,h.sa,h.bc,h.ca,h.ab⟩
theorem Ei {n:Int}{xs:List (Int × Int)}(h:Told n xs)(sq:∀ p,aR p->¬ p*p∣n):Pr.bI xs=1:=by
 have r1:=Pr.sL h.all
 by_cases e:Pr.bI xs=1
 ·exact e
 ·obtain⟨q,hq,hd⟩:=Pr.qd (Pr.bI xs).toNat (Pr.bI xs) (by omega) (aai _)
  exfalso
  refine sq q hq ?_
  rw[<- h.prod,<- Pr.sJ h.all,aaq]
  exact aah (ace hd hd) (aaw _ _)
theorem gcd_one {a b g:Int}(h:∀ p,aR p->p∣a->¬ p∣b)(a0:a≠0)(g0:0<=g)(ga:g∣a)(gb:g∣b):g=1:=by
 by_cases e:g=1
 ·exact e
 ·exfalso
  have gn:g≠0:=fun z=>a0 (ae4.mp (z▸ga))
  obtain⟨q,hq,hd⟩:=Pr.qd g.toNat g (by omega) (aai _)
  exact h q hq (aah hd ga) (aah hd gb)
theorem Ej {n:Int}{xs:List (Int × Int)}(h:Told n xs){p:Int}:p∈xs.map (·.1)↔aR p/\p∣n:=by
 constructor
 ·intro m
  obtain⟨x,hx,rfl⟩:=abb.mp m
  have pt:=h.all x hx
  refine⟨pt.prime,?_⟩
  rw[<- h.prod]
  clear h
  induction xs with
  | nil=>cases hx
  | cons y ys ih=>
   rcases aaf.mp hx with rfl|hx
   ·exact Pr.rQ pt
   ·have:=ih hx (abb.mpr ⟨x,hx,rfl⟩)
    exact aah this (aaw _ _)
 ·rintro⟨hp,hd⟩
  rw[<- h.prod] at hd
  obtain⟨x,hx,e⟩:=Pr.LK hp h.all hd
  exact abb.mpr ⟨x,hx,e⟩
def Rt (x p:Int):Prop:=∃ r:Int,p∣r*r-x
def rS (a b c:Int):Prop:=∃ x y z:Int,(x%2=1\/y%2=1\/z%2=1)/\(a*x*x+b*y*y+c*z*z)%8=0
def RJ (a b c x:Int):Prop:=(x=0/\((a<0/\b<0/\c<0)\/(0<a/\0<b/\0<c)))\/(x=2/\¬ rS a b c) \/
 (aR x/\x≠2/\((x∣a/\¬ Rt (-(b*c)) x)\/(x∣b/\¬ Rt (-(c*a)) x)\/(x∣c/\¬ Rt (-(a*b)) x)))
theorem HM {x:Int}{p:Nat}(hp:aR (p:Int))(po:p%2=1)(nd:¬ (p:Int)∣x)(h:Rt x p):J x p=1:=by
 obtain⟨r,hr⟩:=h
 have e:x%p=(r*r)%p:=(aaE.mpr (abg hr)).symm
 have nr:¬ (p:Int)∣r:=fun z=>nd (by
  have:(p:Int)∣r*r-(r*r-x):=adP (aah z (aa7 _ _)) hr
  rw[show r*r-(r*r-x)=x by omega] at this
  exact this)
 have p0:(0:Int)<p:=by have:=hp.two;omega
 rw[Ao e,sM p0 (by omega),fj hp nr]
theorem Ek {a b c:Int}(P:rR a b c):(if -a*c<0/\-b*c<0 then (-1:Int) else 1)=-1↔RJ a b c 0:=by
 have eb:RJ a b c 0↔((a<0/\b<0/\c<0)\/(0<a/\0<b/\0<c)):=by
  constructor
  ·rintro (⟨_,z⟩|⟨z,_⟩|⟨hp,_,_⟩)
   ·exact z
   ·cases z
   ·have:=hp.two
    omega
  ·exact fun z=>.inl ⟨rfl,z⟩
 rw[eb]
 have key:∀ x:Int,x≠0->(-x*c<0↔(x<0/\c<0)\/(0<x/\0<c)):=by
  intro x hx
  have c0:=P.c0
  rw[acQ]
  rcases abw hx with h|h<;>rcases abw c0 with k|k
  ·have:=acK h k
   omega
  ·have:=acL h k
   omega
  ·have:=abO h k
   omega
  ·have:=acR h k
   omega
 have ka:=key a P.a0
 have kb:=key b P.b0
 split
 ·rename_i h
  have:=ka.mp h.1
  have:=kb.mp h.2
  constructor
  ·intro _
   omega
  ·intro _
   rfl
 ·rename_i h
  constructor
  ·intro z
   cases z
  ·intro z
   exact absurd ⟨ka.mpr (by omega),kb.mpr (by omega)⟩ h
theorem Pb (x:Int):(x%2=1/\x*x%8=1)\/(x%2=0/\(x*x%8=0\/x*x%8=4)):=by
 have h:x%8=0\/x%8=1\/x%8=2\/x%8=3\/x%8=4\/x%8=5\/x%8=6\/x%8=7:=by omega
 rcases h with h|h|h|h|h|h|h|h
 all_goals (rw[abE,h])
 all_goals (have:x%2=x%8%2:=by omega)
 all_goals (rw[h] at this)
 all_goals (rw[this])
 all_goals decide
theorem HN (a b c:Nat):Nv a b c=true↔∃ x y z:Nat,x∈[0,1,4]/\y∈[0,1,4]/\z∈[0,1,4]/\(x=1\/y=1\/z=1)/\(a*x+b*y+c*z)%8=0:=by
 unfold Nv
 constructor
 ·intro h
  obtain⟨x,hx,h⟩:=abM.mp h
  obtain⟨y,hy,h⟩:=abM.mp h
  obtain⟨z,hz,h⟩:=abM.mp h
  rw[ab8,ado,ado] at h
  refine⟨x,y,z,hx,hy,hz,?_,by simpa using h.2⟩
  rcases h.1 with (w|w)|w
  ·exact .inl (by simpa using w)
  ·exact .inr (.inl (by simpa using w))
  ·exact .inr (.inr (by simpa using w))
 ·rintro⟨x,y,z,hx,hy,hz,o,e⟩
  refine abM.mpr ⟨x,hx,abM.mpr ⟨y,hy,abM.mpr ⟨z,hz,?_⟩⟩⟩
  rw[ab8,ado,ado]
  refine⟨?_,by simpa using e⟩
  rcases o with o|o|o
  ·exact .inl (.inl (by simpa using o))
  ·exact .inl (.inr (by simpa using o))
  ·exact .inr (by simpa using o)
theorem El (x:Int):(x*x%8).toNat∈[0,1,4]:=by
 rcases Pb x with ⟨_,h⟩|⟨_,h|h⟩<;>rw[h]<;>decide
theorem Pc (a b c x y z:Int):(((a%16).toNat*(x*x%8).toNat+(b%16).toNat*(y*y%8).toNat+(c%16).toNat*(z*z%8).toNat)%8=0)↔(a*x*x+b*y*y+c*z*z)%8=0:=by
 have k:∀ u v:Int,(((u%16).toNat*(v*v%8).toNat:Nat):Int)%8=(u*v*v)%8:=by
  intro u v
  have h1:=aba u (show (16:Int)≠0 by decide)
  have h2:=aba (v*v) (show (8:Int)≠0 by decide)
  rw[abR,aeh h1,aeh h2,aaq u v v,abE,abE u (v*v),ad9 u (by decide:(8:Int)∣16),ad9 (v*v) (acx 8)]
 have ka:=k a x
 have kb:=k b y
 have kc:=k c z
 generalize (a%16).toNat*(x*x%8).toNat=A at *
 generalize (b%16).toNat*(y*y%8).toNat=B at *
 generalize (c%16).toNat*(z*z%8).toNat=C at *
 generalize a*x*x=A' at *
 generalize b*y*y=B' at *
 generalize c*z*z=C' at *
 omega
theorem HP (a b c:Int):rS a b c↔Nv (a%16).toNat (b%16).toNat (c%16).toNat=true:=by
 rw[HN]
 constructor
 ·rintro⟨x,y,z,o,e⟩
  refine⟨_,_,_,El x,El y,El z,?_,(Pc a b c x y z).mpr e⟩
  have kx:=Pb x
  have ky:=Pb y
  have kz:=Pb z
  generalize x*x%8=X at *
  generalize y*y%8=Y at *
  generalize z*z%8=Z at *
  omega
 ·rintro⟨x,y,z,hx,hy,hz,o,e⟩
  have rt:∀ x:Nat,x∈[0,1,4]->∃ r:Int,(r*r%8).toNat=x/\(x=1->r%2=1):=by
   intro x hx
   rcases aaf.mp hx with rfl|hx
   ·exact⟨0,rfl,by decide⟩
   ·rcases aaf.mp hx with rfl|hx
    ·exact⟨1,rfl,by decide⟩
    ·rcases aaf.mp hx with rfl|hx
     ·exact⟨2,rfl,by decide⟩
     ·cases hx
  obtain⟨r,er,or⟩:=rt x hx
  obtain⟨s,es,os⟩:=rt y hy
  obtain⟨t,et,ot⟩:=rt z hz
  refine⟨r,s,t,?_,(Pc a b c r s t).mp (by rw[er,es,et];exact e)⟩
  rcases o with o|o|o
  ·exact .inl (or o)
  ·exact .inr (.inl (os o))
  ·exact .inr (.inr (ot o))
theorem Pd:aR 2:=⟨by decide,fun k h1 h2=>by have:=aby h1 h1 (by decide) (by omega);omega⟩
theorem HQ (a c:Int):((-a*c)%(16:Nat)).toNat=(16-(a%16).toNat)*(c%16).toNat%16:=by
 have a0:=aba a (show (16:Int)≠0 by decide)
 have a1:=abJ a (show (0:Int)<16 by decide)
 have c0:=aba c (show (16:Int)≠0 by decide)
 have e:(((16-(a%16).toNat)*(c%16).toNat%16:Nat):Int)=(-a*c)%16:=by
  rw[Int.natCast_emod,abR,aeh c0,show ((16-(a%16).toNat:Nat):Int)=16-a%16 by omega]
  show (16-a%16)*(c%16)%16=_
  rw[abE,ad9 c (acx 16),show (16-a%16)%16=(-a)%16 by omega,<- abE]
 show ((-a*c)%16).toNat=_
 omega
theorem HR {x:Int}(h:x%4≠0):(x%16).toNat%4≠0:=by omega
theorem Pe {x y:Int}(h:¬ (x%2=0/\y%2=0)):((x%16).toNat%2==0&&(y%16).toNat%2==0)=false:=by
 rw[Bool.and_eq_false_iff,beq_eq_false_iff_ne,beq_eq_false_iff_ne]
 by_cases k:x%2=0
 ·have:¬ y%2=0:=fun z=>h ⟨k,z⟩
  right
  clear h k
  omega
 ·left
  clear h
  omega
theorem L6 {x y z:Nat}(hx:x%4≠0)(hy:y%4≠0)(hz:z%4≠0)(h1:(x%2==0&&y%2==0)=false)(h2:(y%2==0&&z%2==0)=false)(h3:(z%2==0&&x%2==0)=false):RI x y z=true:=by
 unfold RI
 rw[h1,h2,h3,(bne_iff_ne (a:=x%4) (b:=0)).mpr hx,(bne_iff_ne (a:=y%4) (b:=0)).mpr hy,(bne_iff_ne (a:=z%4) (b:=0)).mpr hz]
 rfl
theorem HU {a b c:Int}(P:rR a b c){o1 l1 o2 l2:Int}(d1:Dec (-a*c) 2 l1 o1)(d2:Dec (-b*c) 2 l2 o2):hs 2 o1 l1 o2 l2=-1↔RJ a b c 2:=by
 have eb:RJ a b c 2↔¬ rS a b c:=by
  constructor
  ·rintro (⟨z,_⟩|⟨_,z⟩|⟨_,z,_⟩)
   ·cases z
   ·exact z
   ·exact absurd rfl z
  ·exact fun z=>.inr (.inl ⟨rfl,z⟩)
 rw[eb,HP]
 have s4:∀ {x:Int},(∀ p,aR p->¬ p*p∣x)->x%4≠0:=fun h z=>h 2 Pd (aaH z)
 have a4:=s4 P.sa
 have b4:=s4 P.sb
 have c4:=s4 P.sc
 have GL:∀ {x y:Int},(∀ p,aR p->p∣x->¬ p∣y)->¬ (x%2=0/\y%2=0):=fun h z=>h 2 Pd (aaH z.1) (aaH z.2)
 have ab:=GL P.ab
 have bc:=GL P.bc
 have ca:=GL P.ca
 have n4:∀ {x:Int},x%4≠0->¬ (x%2=0/\c%2=0)->¬ (2:Int)*2∣-x*c:=by
  intro x hx hn z
  have z':=abg z
  have e:(-x*c)%4=((-x)%4)*(c%4)%4:=abE _ _ _
  have z2:(-x)%4*(c%4)%4=0:=by rw[<- e];exact z'
  have vJ:(-x)%4=1\/(-x)%4=2\/(-x)%4=3:=by omega
  have nL:c%4=1\/c%4=2\/c%4=3:=by omega
  rcases vJ with h1|h1|h1<;>rcases nL with h2|h2|h2<;>rw[h1,h2] at z2<;>first|omega|cases z2
 obtain⟨e1,f1,_⟩:=JJ d1 (n4 a4 (fun z=>ca ⟨z.2,z.1⟩))
 obtain⟨e2,f2,_⟩:=JJ d2 (n4 b4 bc)
 rw[HQ] at e1 f1 e2 f2
 have ra:(a%16).toNat<16:=by omega
 have rb:(b%16).toNat<16:=by omega
 have rc:(c%16).toNat<16:=by omega
 have ch:=acp.mp (acp.mp (acp.mp Eh _ (ab0.mpr ra)) _ (ab0.mpr rb)) _ (ab0.mpr rc)
 have ad:RI (a%16).toNat (b%16).toNat (c%16).toNat=true:=by
  have k4:∀ {x:Int},x%4≠0->(x%16).toNat%4≠0:=HR
  exact L6 (k4 a4) (k4 b4) (k4 c4) (Pe ab) (Pe bc) (Pe ca)
 unfold Pa at ch
 rw[ad] at ch
 have XY:(decide (RH 2 ((16-(a%16).toNat)*(c%16).toNat%16) ((16-(b%16).toNat)*(c%16).toNat%16)=-1)==!(Nv (a%16).toNat (b%16).toNat (c%16).toNat))=true:=by simpa using ch
 have hv:hs 2 o1 l1 o2 l2=RH 2 ((16-(a%16).toNat)*(c%16).toNat%16) ((16-(b%16).toNat)*(c%16).toNat%16):=by
  unfold RH hs
  rw[aaz rfl,aaz (show ((2:Nat):Int)=2 from rfl),e1,e2]
  exact BH f1 f2
 rw[hv]
 have Pf:=eq_of_beq XY
 cases hF:Nv (a%16).toNat (b%16).toNat (c%16).toNat with
 | true=>
  rw[hF] at Pf
  constructor
  ·intro z
   rw[abr z] at Pf
   cases Pf
  ·intro z
   exact absurd rfl z
 | false=>
  rw[hF] at Pf
  constructor
  ·intro _ z
   cases z
  ·intro _
   exact acB Pf
end Pl
namespace Jc
open Pr (aR)
def Df (f:Int->Int):Int->Int:=fun x=>f (x+1)-f x
def Dg:Nat->Int->(Int->Int)->Prop
 | 0,c,f=>∀ x,f x=c
 | k+1,c,f=>Dg k (((k:Int)+1)*c) (Df f)
theorem Dg.congr:∀ {k:Nat}{c:Int}{f g:Int->Int},Dg k c f->(∀ x,f x=g x)->Dg k c g
 | 0,c,f,g,h,e=>fun x=>by rw[<- e];exact h x
 | k+1,c,f,g,h,e=>Dg.congr (k:=k) h fun x=>by unfold Df;rw[e,e]
theorem Dg.add:∀ {k:Nat}{c d:Int}{f g:Int->Int},Dg k c f->Dg k d g->Dg k (c+d) (fun x=>f x+g x)
 | 0,c,d,f,g,h,h'=>fun x=>by show f x+g x=c+d;rw[h x,h' x]
 | k+1,c,d,f,g,h,h'=>by
  show Dg k (((k:Int)+1)*(c+d)) _
  rw[Int.mul_add]
  exact (Dg.add (k:=k) h h').congr fun x=>by show (f (x+1)-f x)+(g (x+1)-g x)=(f (x+1)+g (x+1))-(f x+g x);omega
theorem Dg.up:∀ {k:Nat}{c:Int}{f:Int->Int},Dg k c f->Dg (k+1) 0 f
 | 0,c,f,h=>fun x=>by
  show f (x+1)-f x=((0:Nat)+1:Int)*0
  rw[h,h]
  omega
 | k+1,c,f,h=>by
  show Dg (k+1) (((k+1:Nat)+1:Int)*0) (Df f)
  rw[aaI]
  exact Dg.up (k:=k) h
theorem Dg.HV:∀ {k:Nat}{c:Int}{f:Int->Int},Dg k c f->Dg (k+1) c (fun x=>x*f x)
 | 0,c,f,h=>fun x=>by
  show (x+1)*f (x+1)-x*f x=((0:Nat)+1:Int)*c
  rw[h,h]
  grind
 | k+1,c,f,h=>by
  have h1:Dg k (((k:Int)+1)*c) (Df f):=h
  have a:=Dg.HV (k:=k) h1
  have b:Dg (k+1) c f:=h
  have d:=h1.up
  have s:=(a.add b).add d
  show Dg (k+1) (((k+1:Nat)+1:Int)*c) _
  have e:((k:Int)+1)*c+c+0=((k+1:Nat)+1:Int)*c:=by
   rw[aet,Int.add_mul (((k+1:Nat):Int)),aaN]
   rfl
  rw[<- e]
  refine s.congr fun x=>?_
  show x*(f (x+1)-f x)+f x+(f (x+1)-f x)=(x+1)*f (x+1)-x*f x
  grind
theorem Em:∀ k:Nat,Dg k 1 (fun x=>x^k)
 | 0=>fun x=>by simp
 | k+1=>(Em k).HV.congr fun x=>by rw[aan,aao]
theorem Dg.zero {p:Int}:∀ {k:Nat}{c:Int}{f:Int->Int},Dg k c f->∀ x0:Int,(∀ j:Nat,j<=k->p∣f (x0+j))->p∣c*((PN (fun k=>k) k:Nat):Int)
 | 0,c,f,h,x0,z=>by
  have:=z 0 (aai 0)
  rw[h] at this
  show p∣c*(1:Nat)
  simpa using this
 | k+1,c,f,h,x0,z=>by
  have:=Dg.zero (k:=k) h x0 fun j hj=>by
   have h1:=z (j+1) (by omega)
   have h2:=z j (by omega)
   unfold Df
   refine adP ?_ h2
   rw[show x0+(j:Int)+1=x0+((j+1:Nat):Int) by omega]
   exact h1
  show p∣c*((PN (fun k=>k) k*(k+1):Nat):Int)
  rw[abR]
  have e:((k:Int)+1)*c*((PN (fun k=>k) k:Nat):Int)=c*(((PN (fun k=>k) k:Nat):Int)*((k+1:Nat):Int)):=by
   rw[show ((k+1:Nat):Int)=(k:Int)+1 by omega]
   grind
  rw[e] at this
  exact this
theorem L7 {p:Int}(hp:aR p)(n2:p≠2):∃ z:Int,2<=z/\z<p/\J z p=-1:=by
 have po:=b9 hp n2
 have p3:3<=p:=by have:=hp.two;omega
 have key:∃ z:Int,1<=z/\z<p/\J z p≠1:=aaQ fun no=>by
  have all:∀ z:Int,1<=z->z<p->J z p=1:=fun z h1 h2=>aaQ fun h=>no ⟨z,h1,h2,h⟩
  obtain⟨k,hk⟩:∃ k:Nat,(p / 2).toNat=k+1:=⟨(p / 2).toNat-1,by omega⟩
  have f0:Dg (k+1) 1 (fun x=>x^(k+1)+(-1)):=by
   have c0:Dg (k+1) 0 (fun _=>(-1:Int)):=by
    have:∀ m:Nat,Dg (m+1) 0 (fun _=>(-1:Int)):=fun m=>by
     induction m with
     | zero=>exact Dg.up (k:=0) (c:=-1) fun _=>rfl
     | succ m ih=>exact ih.up
    exact this k
   have:=(Em (k+1)).add c0
   rwa[aet] at this
  have:=Dg.zero (p:=p) f0 1 fun j hj=>by
   have e:=sN hp po (1+(j:Int))
   rw[all (1+(j:Int)) (by omega) (by omega),hk,Pw.fD,ab3 (show (0:Int)<=1 by decide) (by omega)] at e
   show p∣(1+(j:Int))^(k+1)+(-1)
   refine aaH ?_
   have:=aaE.mp (e.trans (ab3 (show (0:Int)<=1 by decide) (by omega:(1:Int)<p)).symm)
   rw[<- Int.sub_eq_add_neg]
   exact this
  rw[aaN] at this
  exact oY hp (k+1) (by omega) this
 obtain⟨z,z1,z2,hz⟩:=key
 have nd:¬ p∣z:=fun h=>by have:=adj (by omega) h;omega
 have u:=fj hp nd
 have jm:J z p=-1:=by
  rcases D9 z p with e|e|e
  ·exact absurd e hz
  ·rw[e] at u;cases u
  ·exact e
 refine⟨z,?_,z2,jm⟩
 by_cases c:2<=z
 ·exact c
 ·have e1:z=1:=by omega
  rw[e1,O1 (by omega) po] at jm
  cases jm
structure GN (p n root over a9:Int)(h:Nat):Prop where
 ro:root*root%p=n*over%p
 ov:over^(if h=0 then 1 else 2*h)%p=1%p
 tu:h≠0->a9^(2*h)%p=(-1)%p
 two:h=0\/∃ j,h=2^j
theorem qh {h:Nat}(h0:h≠0)(t:h=0\/∃ j,h=2^j):(h / 2=0\/∃ j,h / 2=2^j)/\(if h / 2=0 then 1 else 2*(h / 2))=h:=by
 rcases t with z|⟨j,rfl⟩
 ·exact absurd z h0
 ·cases j with
  | zero=>exact⟨.inl rfl,rfl⟩
  | succ j=>
   have e:2^(j+1) / 2=2^j:=by rw[abC];omega
   have p:0<2^j:=aeB (by decide)
   rw[e]
   exact⟨.inr ⟨j,rfl⟩,by rw[aar (by omega),abC];omega⟩
theorem En (t:Int)(h:Nat):(t*t)^h=t^(2*h):=by
 rw[aeF]
 congr 1
 rw[aan,aan,aaO,aaN]
theorem Aw {p a9:Int}{h:Nat}(h0:h≠0)(t:h=0\/∃ j,h=2^j)(tu:a9^(2*h)%p=(-1)%p):h / 2≠0->(a9*a9%p)^(2*(h / 2))%p=(-1)%p:=fun z=>by
 have e:=(qh h0 t).2
 rw[aar z] at e
 rw[e,Pw.powC (Pw.fC _ _),En]
 exact tu
theorem GN.keep {p n root over a9:Int}{h:Nat}(T:GN p n root over a9 h)(h0:h≠0)(c:over^h%p=1%p):GN p n root over (a9*a9%p) (h / 2):=by
 obtain⟨a,b⟩:=qh h0 T.two
 exact⟨T.ro,by rw[b];exact c,Aw h0 T.two (T.tu h0),a⟩
theorem GN.turn {p n root over a9:Int}{h:Nat}(hp:aR p)(T:GN p n root over a9 h)(h0:h≠0)(c:¬ over^h%p=1%p):GN p n (root*a9%p) (over*a9*a9%p) (a9*a9%p) (h / 2):=by
 obtain⟨a,b⟩:=qh h0 T.two
 have ov:=T.ov
 rw[aar h0] at ov
 have m1:over^h%p=(-1)%p:=by
  have d:p∣(over^h-1)*(over^h+1):=by
   refine aaH ?_
   have z:=aaE.mp ov
   rw[show over^(2*h)=over^h*over^h by rw[show 2*h=h+h by omega,ab4]] at z
   rw[show (over^h-1)*(over^h+1)=over^h*over^h-1 by grind]
   exact z
  rcases Pr.euclid hp d with z|z
  ·exact absurd (aaE.mpr (abg z)) c
  ·exact aaE.mpr (abg (by rw[Int.sub_neg];exact z))
 refine⟨?_,?_,Aw h0 T.two (T.tu h0),a⟩
 ·have e1:(root*a9%p)*(root*a9%p)%p=(root*root)*(a9*a9)%p:=by
   rw[Pw.mulC (Pw.fC _ _) (Pw.fC _ _)]
   congr 1
   grind
  have e2:n*(over*a9*a9%p)%p=(n*over)*(a9*a9)%p:=by
   rw[Pw.mulC rfl (Pw.fC _ _)]
   congr 1
   grind
  rw[e1,e2]
  exact Pw.mulC T.ro rfl
 ·rw[b,Pw.powC (Pw.fC _ _),aaq,Int.mul_pow,En,Pw.mulC m1 (T.tu h0)]
  rfl
theorem GN.done {p n root over a9:Int}(T:GN p n root over a9 0):root*root%p=n%p:=by
 have ov:=T.ov
 rw[aaz rfl,aan,aaO,aaN] at ov
 rw[T.ro,Pw.mulC rfl ov,abl]
theorem BJ {p n z:Int}{o:Nat}{e:Nat}(hp:aR p)(po:p%2=1)(hn:J n p=1)(hz:J z p=-1)(oo:o%2=1)(pe:p-1=2^e*(o:Int))(e1:1<=e) :
  GN p n (Pw.PM n ((o+1) / 2) p) (Pw.PM n o p) (Pw.PM z o p) (2^e / 4):=by
 have p2:=hp.two
 have hf:(p / 2).toNat=o*2^(e-1):=by
  obtain⟨k,rfl⟩:∃ k,e=k+1:=⟨e-1,by omega⟩
  have q:p-1=2*((o*2^k:Nat):Int):=by
   rw[pe,aan,abR,aeH]
   show (2:Int)^k*2*(o:Int)=2*((o:Int)*2^k)
   grind
  rw[show k+1-1=k by omega]
  omega
 have en:n^(o*2^(e-1))%p=1%p:=by
  have h:=sN hp po n
  rw[hf,hn,Pw.fD] at h
  exact h
 have ez:z^(o*2^(e-1))%p=(-1)%p:=by
  have h:=sN hp po z
  rw[hf,hz,Pw.fD] at h
  exact h
 refine⟨?_,?_,fun h0=>?_,?_⟩
 ·have h:=(Pw.L5 n p ((o+1) / 2) ((o+1) / 2)).symm
  rw[h,show (o+1) / 2+(o+1) / 2=o+1 by omega,Pw.HJ,aao]
 ·rw[Pw.fD,Pw.powC (Pw.fC _ _),<- aeF]
  have k:(if 2^e / 4=0 then 1 else 2*(2^e / 4))=2^(e-1):=by
   rcases (show e=1\/2<=e by omega) with z|z
   ·subst z;rfl
   ·obtain⟨j,rfl⟩:∃ j,e=j+2:=⟨e-2,by omega⟩
    have p:0<2^j:=aeB (by decide)
    rw[show j+2-1=j+1 by omega,abC,abC,aar (by omega)]
    omega
  rw[k]
  exact en
 ·rw[Pw.fD,Pw.powC (Pw.fC _ _),<- aeF]
  have k:2*(2^e / 4)=2^(e-1):=by
   rcases (show e=1\/2<=e by omega) with z|z
   ·subst z;exact absurd rfl h0
   ·obtain⟨j,rfl⟩:∃ j,e=j+2:=⟨e-2,by omega⟩
    rw[show j+2-1=j+1 by omega,abC,abC]
    omega
  rw[k]
  exact ez
 ·rcases (show e=1\/2<=e by omega) with z|z
  ·subst z;exact .inl rfl
  ·obtain⟨j,rfl⟩:∃ j,e=j+2:=⟨e-2,by omega⟩
   refine .inr ⟨j,?_⟩
   rw[abC,abC]
   omega
end Jc
namespace Sm
structure P3 where
 (x y z:Int)
structure F6 where
 (a b c d e f:Int)
structure T3 where
 (r0 r1 r2:P3)
def rp (r s:P3):Int:=r.x*s.x+r.y*s.y+r.z*s.z
def wo (Q:F6)(P:P3):Int:=Q.a*(P.x*P.x)+Q.b*(P.y*P.y)+Q.c*(P.z*P.z)+Q.d*(P.y*P.z)+Q.e*(P.x*P.z)+Q.f*(P.x*P.y)
def sl (Q:F6):T3:=⟨⟨2*Q.a,Q.f,Q.e⟩,⟨Q.f,2*Q.b,Q.d⟩,⟨Q.e,Q.d,2*Q.c⟩⟩
def tb (t:T3)(P:P3):P3:=⟨rp t.r0 P,rp t.r1 P,rp t.r2 P⟩
def tr (t:T3):T3:=⟨⟨t.r0.x,t.r1.x,t.r2.x⟩,⟨t.r0.y,t.r1.y,t.r2.y⟩,⟨t.r0.z,t.r1.z,t.r2.z⟩⟩
def bl (Q:F6)(x y:P3):Int:=rp (tb (sl Q) x) y
def ch (Q:F6)(t:T3):F6:=⟨wo Q (tr t).r0,wo Q (tr t).r1,wo Q (tr t).r2,bl Q (tr t).r1 (tr t).r2,bl Q (tr t).r0 (tr t).r2,bl Q (tr t).r0 (tr t).r1⟩
def pt (t u:T3):T3:=⟨tb (tr u) t.r0,tb (tr u) t.r1,tb (tr u) t.r2⟩
def cr (r s:P3):P3:=⟨r.y*s.z-r.z*s.y,r.z*s.x-r.x*s.z,r.x*s.y-r.y*s.x⟩
def me (t:T3):Int:=rp t.r0 (cr t.r1 t.r2)
theorem Pg (Q:F6)(t:T3)(P:P3):wo (ch Q t) P=wo Q (tb t P):=by
 simp only[wo,ch,bl,tb,sl,tr,rp]
 grind
theorem JK (t u:T3):me (pt t u)=me t*me u:=by
 simp only[me,pt,tb,tr,cr,rp]
 grind
def lw (Q:F6)(P:P3):Int:=Q.a*P.x*P.x+Q.b*P.y*P.y+Q.c*P.z*P.z+Q.d*P.y*P.z+Q.e*P.x*P.z+Q.f*P.x*P.y
def rt (r:P3)(t:T3):P3:=⟨r.x*t.r0.x+r.y*t.r1.x+r.z*t.r2.x,r.x*t.r0.y+r.y*t.r1.y+r.z*t.r2.y,r.x*t.r0.z+r.y*t.r1.z+r.z*t.r2.z⟩
theorem iW (Q:F6)(x:P3):bl Q x x=2*wo Q x:=by
 simp only[bl,tb,sl,rp,wo]
 grind
theorem Eo (Q:F6)(t:T3)(c:P3):rt (rt c (sl Q)) t=⟨bl Q c (tr t).r0,bl Q c (tr t).r1,bl Q c (tr t).r2⟩:=by
 simp only[rt,sl,bl,tb,tr,rp,P3.mk.injEq]
 refine⟨?_,?_,?_⟩<;>grind
def Bd (k:Nat)(x:Int):Prop:=x.natAbs<=2^k
theorem Bd.mul {j k:Nat}{x y:Int}(h:Bd j x)(h2:Bd k y):Bd (j+k) (x*y):=by
 unfold Bd at *
 rw[aaC,Nat.pow_add]
 exact abY h h2
theorem Bd.add {j:Nat}{x y:Int}(h:Bd j x)(h2:Bd j y):Bd (j+1) (x+y):=by
 unfold Bd at *
 rw[abC]
 omega
theorem Bd.sub {j:Nat}{x y:Int}(h:Bd j x)(h2:Bd j y):Bd (j+1) (x-y):=by
 unfold Bd at *
 rw[abC]
 omega
theorem Bd.mono {j k:Nat}{x:Int}(h:Bd j x)(hk:j<=k):Bd k x:=aag h (abV (by decide) hk)
structure BP (k:Nat)(P:P3):Prop where
 (x:Bd k P.x) (y:Bd k P.y) (z:Bd k P.z)
structure BF (k:Nat)(Q:F6):Prop where
 (a:Bd k Q.a) (b:Bd k Q.b) (c:Bd k Q.c) (d:Bd k Q.d) (e:Bd k Q.e) (f:Bd k Q.f)
structure BT (k:Nat)(t:T3):Prop where
 (r0:BP k t.r0) (r1:BP k t.r1) (r2:BP k t.r2)
theorem BP.mono {j k:Nat}{P:P3}(h:BP j P)(hk:j<=k):BP k P:=⟨h.x.mono hk,h.y.mono hk,h.z.mono hk⟩
theorem Ep {j k:Nat}{r s:P3}(h:BP j r)(h2:BP k s):Bd (j+k+2) (rp r s):=((h.x.mul h2.x).add (h.y.mul h2.y)).add ((h.z.mul h2.z).mono (abk _))
theorem Er {j k:Nat}{Q:F6}{P:P3}(h:BF j Q)(p:BP k P):Bd (j+(k+k)+5) (wo Q P):=
 (((((h.a.mul (p.x.mul p.x)).add (h.b.mul (p.y.mul p.y))).add ((h.c.mul (p.z.mul p.z)).mono (by omega))).add ((h.d.mul (p.y.mul p.z)).mono (by omega))).add ((h.e.mul (p.x.mul p.z)).mono (by omega))).add ((h.f.mul (p.x.mul p.y)).mono (by omega))
theorem Ph {j k:Nat}{t:T3}{P:P3}(h:BT j t)(p:BP k P):BP (j+k+2) (tb t P):=⟨Ep h.r0 p,Ep h.r1 p,Ep h.r2 p⟩
theorem Es {k:Nat}{t:T3}(h:BT k t):BT k (tr t):=⟨⟨h.r0.x,h.r1.x,h.r2.x⟩,⟨h.r0.y,h.r1.y,h.r2.y⟩,⟨h.r0.z,h.r1.z,h.r2.z⟩⟩
theorem yv {k:Nat}{x:Int}(h:Bd k x):Bd (k+1) (2*x):=by
 unfold Bd at *
 rw[abC]
 omega
theorem Ax {k:Nat}{Q:F6}(h:BF k Q):BT (k+1) (sl Q):=⟨⟨yv h.a,h.f.mono (abk _),h.e.mono (abk _)⟩,⟨h.f.mono (abk _),yv h.b,h.d.mono (abk _)⟩,⟨h.e.mono (abk _),h.d.mono (abk _),yv h.c⟩⟩
theorem Pj (a b c:Int):[a,b,c].sum=a+b+c:=by
 simp[List.sum_cons]
 omega
theorem TQ (a b c d e f:Int):[a,b,c,d,e,f].sum=a+b+c+d+e+f:=by
 simp[List.sum_cons]
 omega
end Sm
namespace Lw
def Et (a b c:Int):Prop:=∃ u v w:Int,u*a+v*b+w*c=1
def t8 (a b c:Int):Prop:=0<a\/(a=0/\0<b)\/(a=0/\b=0/\0<c)
theorem L8 {x y z d:Int}(hd:d≠0)(hx:d∣x)(hy:d∣y)(hz:d∣z)(hb:∃ u v w:Int,u*x+v*y+w*z=d):Et (x.fdiv d) (y.fdiv d) (z.fdiv d)/\x=d*x.fdiv d/\y=d*y.fdiv d/\z=d*z.fdiv d:=by
 obtain⟨x',rfl⟩:=hx
 obtain⟨y',rfl⟩:=hy
 obtain⟨z',rfl⟩:=hz
 obtain⟨u,v,w,e⟩:=hb
 rw[abD _ hd,abD _ hd,abD _ hd]
 refine⟨⟨u,v,w,?_⟩,rfl,rfl,rfl⟩
 have:d*(u*x'+v*y'+w*z')=d*1:=by grind
 exact aaP hd this
end Lw
namespace Sm
theorem BP.cy {j k:Nat}{P:P3}(h:BP j P)(hk:j<=k:=by omega):BP k P:=h.mono hk
theorem BF.mono {j k:Nat}{F:F6}(h:BF j F)(hk:j<=k:=by omega):BF k F:=⟨h.a.mono hk,h.b.mono hk,h.c.mono hk,h.d.mono hk,h.e.mono hk,h.f.mono hk⟩
theorem BT.mono {j k:Nat}{t:T3}(h:BT j t)(hk:j<=k:=by omega):BT k t:=⟨h.r0.mono hk,h.r1.mono hk,h.r2.mono hk⟩
end Sm
namespace Pn
open Sm Lw
def sz (Q:F6):Int:=4*Q.a*Q.b*Q.c+Q.d*Q.e*Q.f-Q.a*Q.d*Q.d-Q.b*Q.e*Q.e-Q.c*Q.f*Q.f
def N3 (P:P3):Prop:=P.x≠0\/P.y≠0\/P.z≠0
def tm (d:Int)(P:P3):P3:=⟨d*P.x,d*P.y,d*P.z⟩
theorem Eu (Q:F6)(d:Int)(P:P3):wo Q (tm d P)=d*d*wo Q P:=by
 simp only[wo,tm]
 grind
def ad (P R:P3):P3:=⟨P.x+R.x,P.y+R.y,P.z+R.z⟩
theorem Pm (Q:F6)(P R:P3):wo Q (ad P R)-wo Q P-wo Q R=bl Q P R:=by
 simp only[wo,ad,bl,tb,sl,rp]
 grind
theorem HW (Q:F6)(P R:P3):bl Q P R=bl Q R P:=by
 simp only[bl,tb,sl,rp]
 grind
theorem Po (Q:F6)(P R:P3):tb (sl Q) (cr (tb (sl Q) P) (tb (sl Q) R))=tm (2*sz Q) (cr P R):=by
 simp only[tb,sl,cr,rp,tm,sz,P3.mk.injEq]
 refine⟨?_,?_,?_⟩<;>grind
theorem wq {u P R:P3}(h1:rp u P=0)(h2:rp u R=0):cr u (cr P R)=⟨0,0,0⟩:=by
 have e:cr u (cr P R)=⟨P.x*rp u R-R.x*rp u P,P.y*rp u R-R.y*rp u P,P.z*rp u R-R.z*rp u P⟩:=by
  simp only[cr,rp,P3.mk.injEq]
  refine⟨?_,?_,?_⟩<;>grind
 rw[e,h1,h2]
 simp
theorem aQ {a b:Int}(h:a*b=0)(ha:a≠0):b=0:=by
 rcases ab5.mp h with w|w
 ·exact absurd w ha
 ·exact w
theorem Ew {u v w:P3}(n:N3 w)(h1:cr u w=⟨0,0,0⟩)(h2:cr v w=⟨0,0,0⟩):cr u v=⟨0,0,0⟩:=by
 simp only[cr,P3.mk.injEq] at *
 obtain⟨a1,a2,a3⟩:=h1
 obtain⟨b1,b2,b3⟩:=h2
 rcases n with n|n|n
 ·refine⟨aQ (a:=w.x) ?_ n,aQ (a:=w.x) ?_ n,aQ (a:=w.x) ?_ n⟩<;>grind
 ·refine⟨aQ (a:=w.y) ?_ n,aQ (a:=w.y) ?_ n,aQ (a:=w.y) ?_ n⟩<;>grind
 ·refine⟨aQ (a:=w.z) ?_ n,aQ (a:=w.z) ?_ n,aQ (a:=w.z) ?_ n⟩<;>grind
theorem HX {Q:F6}{P D:P3}(hs:sz Q≠0)(n:N3 (cr P D))(h1:wo Q P=0)(h2:wo Q D=0)(h3:bl Q P D=0):False:=by
 have pp:rp (tb (sl Q) P) P=0:=by
  have:=iW Q P
  unfold bl at this
  omega
 have pd:rp (tb (sl Q) P) D=0:=h3
 have dd:rp (tb (sl Q) D) D=0:=by
  have:=iW Q D
  unfold bl at this
  omega
 have dp:rp (tb (sl Q) D) P=0:=by
  have:=HW Q D P
  unfold bl at this h3
  omega
 have c0:=Ew n (wq pp pd) (wq dp dd)
 have e:=Po Q P D
 rw[c0] at e
 simp only[tb,rp,tm,P3.mk.injEq] at e
 obtain⟨e1,e2,e3⟩:=e
 rcases n with n|n|n
 ·exact n (aQ (a:=2*sz Q) (by rw[<- e1];simp) (by omega))
 ·exact n (aQ (a:=2*sz Q) (by rw[<- e2];simp) (by omega))
 ·exact n (aQ (a:=2*sz Q) (by rw[<- e3];simp) (by omega))
def L3 (P:P3):Prop:=Et P.x P.y P.z/\t8 P.x P.y P.z
theorem P3.ext' {P R:P3}(h:P.x=R.x/\P.y=R.y/\P.z=R.z):P=R:=by
 cases P;cases R
 simp only at h
 obtain⟨rfl,rfl,rfl⟩:=h
 rfl
instance:DecidableEq P3:=fun P R=>decidable_of_iff (P.x=R.x/\P.y=R.y/\P.z=R.z) ⟨P3.ext',fun h=>by subst h;exact⟨rfl,rfl,rfl⟩⟩
theorem t9 {P:P3}(h:¬ N3 P):P=⟨0,0,0⟩:=by
 unfold N3 at h
 exact P3.ext' ⟨by show P.x=0;omega,by show P.y=0;omega,by show P.z=0;omega⟩
end Pn
namespace Jc
open Pr (aR)
theorem ua {p n:Int}(hp:aR p):∀ (m h:Nat),h<=m->∀ (root over a9:Int),GN p n root over a9 h->∃ r:Int,r*r%p=n%p
 | m,0,_,root,over,a9,T=>⟨root,T.done⟩
 | 0,h+1,hm,_,_,_,_=>by omega
 | m+1,h+1,hm,root,over,a9,T=>by
  by_cases c:over^(h+1)%p=1%p
  ·exact ua hp m ((h+1) / 2) (by omega) _ _ _ (T.keep (by omega) c)
  ·exact ua hp m ((h+1) / 2) (by omega) _ _ _ (T.turn hp (by omega) c)
theorem twos:∀ (m k:Nat),k<=m->0<k->∃ e o:Nat,o%2=1/\k=2^e*o
 | 0,k,h,h0=>by omega
 | m+1,k,h,h0=>by
  by_cases c:k%2=1
  ·exact⟨0,k,c,by simp⟩
  ·obtain⟨e,o,oo,ek⟩:=twos m (k / 2) (by omega) (by omega)
   refine⟨e+1,o,oo,?_⟩
   have:k=2*(k / 2):=by omega
   rw[this,ek,abC]
   grind
theorem oZ {p n:Int}(hp:aR p)(n2:p≠2)(hn:J n p=1):∃ r:Int,p∣r*r-n:=by
 have po:=b9 hp n2
 have p2:=hp.two
 obtain⟨z,_,_,hz⟩:=L7 hp n2
 obtain⟨e,o,oo,ek⟩:=twos (p-1).toNat (p-1).toNat (aai _) (by omega)
 have e1:1<=e:=by
  cases e with
  | zero=>simp at ek;omega
  | succ e=>omega
 have pe:p-1=2^e*(o:Int):=by
  have:((p-1).toNat:Int)=p-1:=by omega
  rw[<- this,ek,abR,aeH]
  rfl
 obtain⟨r,hr⟩:=ua hp _ _ (aai _) _ _ _ (BJ hp po hn hz oo pe e1)
 exact⟨r,aaH (aaE.mp hr)⟩
theorem Dg.smul (d:Int):∀ {k:Nat}{c:Int}{f:Int->Int},Dg k c f->Dg k (d*c) (fun x=>d*f x)
 | 0,c,f,h=>fun x=>by show d*f x=d*c;rw[h x]
 | k+1,c,f,h=>by
  have h1:Dg k (((k:Int)+1)*c) (Df f):=h
  have:=Dg.smul d (k:=k) h1
  show Dg k (((k:Int)+1)*(d*c)) _
  rw[show ((k:Int)+1)*(d*c)=d*(((k:Int)+1)*c) by grind]
  exact this.congr fun x=>by show d*(f (x+1)-f x)=d*f (x+1)-d*f x;grind
theorem Dg.TR (D N:Int){k:Nat}{c:Int}{f:Int->Int}(h:Dg k c f):Dg (k+2) (-D*c) (fun x=>-(D*(x*x)+N)*f x):=by
 have a:=(h.HV.HV).smul (-D)
 have b:=(h.smul (-N)).up.up
 have s:=a.add b
 rw[aet] at s
 exact s.congr fun x=>by grind
theorem Ay (D N:Int):∀ h:Nat,Dg (2*h) ((-D)^h) (fun x=>(-(D*(x*x)+N))^h)
 | 0=>fun x=>by simp
 | h+1=>by
  have:=(Ay D N h).TR D N
  rw[show 2*(h+1)=2*h+2 by omega,aan,aao ((-D)^h)]
  exact this.congr fun x=>by rw[aan,aao]
theorem Az {p x:Int}(hp:aR p):∀ k:Nat,p∣x^k->p∣x
 | 0,h=>by
  rw[aaO] at h
  exact absurd h (Pr.bZ hp)
 | k+1,h=>by
  rw[aan] at h
  rcases Pr.euclid hp h with z|z
  ·exact Az hp k z
  ·exact z
theorem qi {p D N:Int}(hp:aR p)(n2:p≠2)(hD:¬ p∣D):∃ X Y:Int,p∣Y*Y+(D*(X*X)+N):=aaQ fun no=>by
 have po:=b9 hp n2
 have p3:3<=p:=by have:=hp.two;omega
 have neg:∀ X:Int,J (-(D*(X*X)+N)) p=-1:=fun X=>by
  have nd:¬ p∣-(D*(X*X)+N):=fun h=>no ⟨X,0,by simpa using abu.mp h⟩
  have u:=fj hp nd
  rcases D9 (-(D*(X*X)+N)) p with e|e|e
  ·obtain⟨r,hr⟩:=oZ hp n2 e
   refine absurd ⟨X,r,?_⟩ no
   rwa[Int.sub_neg] at hr
  ·rw[e] at u;cases u
  ·exact e
 obtain⟨k,hk⟩:∃ k:Nat,(p / 2).toNat=k+1:=⟨(p / 2).toNat-1,by omega⟩
 have f0:Dg (2*(k+1)) ((-D)^(k+1)) (fun x=>(-(D*(x*x)+N))^(k+1)+1):=by
  have c0:∀ m:Nat,Dg (m+1) 0 (fun _=>(1:Int)):=fun m=>by
   induction m with
   | zero=>exact Dg.up (k:=0) (c:=1) fun _=>rfl
   | succ m ih=>exact ih.up
  have:=(Ay D N (k+1)).add (c0 (2*k+1))
  rwa[aet] at this
 have:=Dg.zero (p:=p) f0 0 fun j hj=>by
  have e:=sN hp po (-(D*((0+(j:Int))*(0+(j:Int)))+N))
  rw[neg,hk,Pw.fD] at e
  show p∣(-(D*((0+(j:Int))*(0+(j:Int)))+N))^(k+1)+1
  refine aaH ?_
  have:=aaE.mp e
  rwa[Int.sub_neg] at this
 rcases Pr.euclid hp this with z|z
 ·exact hD (abu.mp (Az hp _ z))
 ·exact oY hp (2*(k+1)) (by omega) z
theorem jL {p a:Int}(hp:aR p)(n2:p≠2)(h:¬ p∣a):∃ s:Int,p∣a*s-1:=by
 have po:=b9 hp n2
 have p3:3<=p:=by have:=hp.two;omega
 obtain⟨k,hk⟩:∃ k:Nat,(p / 2).toNat=k+1:=⟨(p / 2).toNat-1,by omega⟩
 have e:=sN hp po a
 rw[hk,Pw.fD] at e
 have d:p∣a^(k+1)-J a p:=aaH (aaE.mp e)
 have u:=fj hp h
 refine⟨a^k*a^(k+1),?_⟩
 have e2:a*(a^k*a^(k+1))-1=(a^(k+1)-J a p)*(a^(k+1)+J a p):=by
  have e3:a*(a^k*a^(k+1))=a^(k+1)*a^(k+1):=by rw[aan];grind
  rw[e3]
  generalize a^(k+1)=b
  generalize J a p=j at u
  grind
 rw[e2]
 exact aah d (aa7 _ _)
end Jc
namespace Pn
open Sm Lw
open Pr (aR)
open Jc (oZ qi jL J)
def Nd (p:Int)(u:P3):Prop:=¬ (p∣u.x/\p∣u.y/\p∣u.z)
theorem Nx {p:Int}(hp:aR p):¬ p∣1:=Pr.bZ hp
theorem V1 (F:F6)(x y z:Int):4*F.a*wo F ⟨x,y,z⟩=(2*F.a*x+F.f*y+F.e*z)*(2*F.a*x+F.f*y+F.e*z)+((4*F.a*F.b-F.f*F.f)*(y*y)+2*(2*F.a*F.d-F.e*F.f)*(y*z)+(4*F.a*F.c-F.e*F.e)*(z*z)):=by
 unfold wo
 grind
theorem n4 {p a:Int}(hp:aR p)(n2:p≠2)(h:¬ p∣a):¬ p∣4*a:=fun z=>by
 have t2:¬ p∣2:=fun z=>by
  have:=adj (by decide) z
  have:=hp.two
  omega
 rw[show (4:Int)*a=2*(2*a) by omega] at z
 rcases Pr.euclid hp z with z|z
 ·exact t2 z
 ·rcases Pr.euclid hp z with z|z
  ·exact t2 z
  ·exact h z
theorem TU {p a:Int}(hp:aR p)(n2:p≠2)(h:¬ p∣a):¬ p∣2*a:=fun z=>n4 hp n2 h (by rw[show (4:Int)*a=2*(2*a) by omega];exact aah z (aaw _ _))
theorem HY {p:Int}{F:F6}(hp:aR p)(n2:p≠2)(hs:¬ p∣sz F):∃ u:P3,Nd p u/\p∣wo F u:=by
 by_cases ha:p∣F.a
 ·refine⟨⟨1,0,0⟩,fun h=>Nx hp h.1,?_⟩
  have e:wo F ⟨1,0,0⟩=F.a:=by unfold wo;grind
  rw[e];exact ha
 obtain⟨s,Pp⟩:=jL hp n2 (TU hp n2 ha)
 have out:∀ u:P3,p∣4*F.a*wo F u->p∣wo F u:=fun u h=>(Pr.euclid hp h).resolve_left (n4 hp n2 ha)
 by_cases hD:p∣4*F.a*F.b-F.f*F.f
 ·refine⟨⟨-F.f*s,1,0⟩,fun h=>Nx hp h.2.1,out _ ?_⟩
  rw[V1]
  have d1:p∣2*F.a*(-F.f*s)+F.f*1+F.e*0:=by
   have e:2*F.a*(-F.f*s)+F.f*1+F.e*0=-F.f*(2*F.a*s-1):=by grind
   rw[e];exact aah Pp (aaw _ _)
  refine acS (aah d1 (aa7 _ _)) ?_
  have e:(4*F.a*F.b-F.f*F.f)*(1*1)+2*(2*F.a*F.d-F.e*F.f)*(1*0)+(4*F.a*F.c-F.e*F.e)*(0*0)=4*F.a*F.b-F.f*F.f:=by grind
  rw[e];exact hD
 ·obtain⟨X,Y,hc⟩:=qi (N:=4*F.a*sz F) hp n2 hD
  obtain⟨sD,XZ⟩:=jL hp n2 hD
  obtain⟨m1,X4⟩:=Pp
  obtain⟨m2,X5⟩:=XZ
  obtain⟨m3,X6⟩:=hc
  refine⟨⟨s*(X-F.f*(sD*(Y-(2*F.a*F.d-F.e*F.f)))-F.e),sD*(Y-(2*F.a*F.d-F.e*F.f)),1⟩,fun h=>Nx hp h.2.2,out _ ?_⟩
  rw[V1]
  generalize hy:sD*(Y-(2*F.a*F.d-F.e*F.f))=y
  generalize hx:s*(X-F.f*y-F.e)=x
  generalize hM:2*F.a*F.d-F.e*F.f=M at *
  generalize hE:4*F.a*F.c-F.e*F.e=E2 at *
  generalize X7:4*F.a*F.b-F.f*F.f=D at *
  have d1:p∣2*F.a*x+F.f*y+F.e*1-X:=by
   refine⟨m1*(X-F.f*y-F.e),?_⟩
   rw[<- hx]
   have:2*F.a*(s*(X-F.f*y-F.e))=(2*F.a*s-1)*(X-F.f*y-F.e)+(X-F.f*y-F.e):=by grind
   rw[this,X4]
   grind
  have d2:p∣D*y+M-Y:=by
   refine⟨m2*(Y-M),?_⟩
   rw[<- hy]
   have:D*(sD*(Y-M))=(D*sD-1)*(Y-M)+(Y-M):=by grind
   rw[this,X5]
   grind
  have key:D*E2-M*M=4*F.a*sz F:=by
   rw[<- X7,<- hE,<- hM]
   unfold sz
   grind
  have d3:p∣X*X+(D*(y*y)+2*M*(y*1)+E2*(1*1)):=by
   refine (Pr.euclid hp (x:=D) ?_).resolve_left hD
   obtain⟨m4,X8⟩:=d2
   refine⟨m3+m4*(D*y+M+Y),?_⟩
   have e1:D*(X*X+(D*(y*y)+2*M*(y*1)+E2*(1*1)))=D*(X*X)+(D*y+M)*(D*y+M)+(D*E2-M*M):=by grind
   rw[e1,key]
   have e2:(D*y+M)*(D*y+M)=Y*Y+(D*y+M-Y)*(D*y+M+Y):=by grind
   rw[e2,X8]
   have e3:D*(X*X)+(Y*Y+p*m4*(D*y+M+Y))+4*F.a*sz F=(Y*Y+(D*(X*X)+4*F.a*sz F))+p*m4*(D*y+M+Y):=by grind
   rw[e3,X6]
   grind
  obtain⟨m5,X9⟩:=d1
  obtain⟨m6,V2⟩:=d3
  refine⟨m6+m5*(2*F.a*x+F.f*y+F.e*1+X),?_⟩
  have e4:(2*F.a*x+F.f*y+F.e*1)*(2*F.a*x+F.f*y+F.e*1)=X*X+(2*F.a*x+F.f*y+F.e*1-X)*(2*F.a*x+F.f*y+F.e*1+X):=by grind
  rw[e4,X9]
  generalize 2*F.a*x+F.f*y+F.e*1+X=w
  generalize D*(y*y)+2*M*(y*1)+E2*(1*1)=v at *
  grind
def co (t:T3):T3:=⟨cr t.r1 t.r2,cr t.r2 t.r0,cr t.r0 t.r1⟩
theorem ub (t:T3)(u:P3):tb (tr (co t)) (tb t u)=tm (me t) u:=by
 simp only[tb,tr,co,cr,rp,tm,me,P3.mk.injEq]
 refine⟨?_,?_,?_⟩<;>grind
theorem lZ (t:T3)(u:P3):tb t (tb (tr (co t)) u)=tm (me t) u:=by
 simp only[tb,tr,co,cr,rp,tm,me,P3.mk.injEq]
 refine⟨?_,?_,?_⟩<;>grind
theorem L9 (F:F6):me (sl F)=2*sz F:=by
 simp only[me,sl,rp,cr,sz]
 grind
theorem yw {p:Int}{r u:P3}(h:p∣u.x/\p∣u.y/\p∣u.z):p∣rp r u:=by
 unfold rp
 exact acS (acS (aah h.1 (aaw _ _)) (aah h.2.1 (aaw _ _))) (aah h.2.2 (aaw _ _))
theorem Ex {p:Int}{t:T3}{u:P3}(h:p∣u.x/\p∣u.y/\p∣u.z):p∣(tb t u).x/\p∣(tb t u).y/\p∣(tb t u).z:=⟨yw h,yw h,yw h⟩
theorem Ey {p:Int}{F:F6}{u:P3}(hp:aR p)(n2:p≠2)(hs:¬ p∣sz F)(hu:Nd p u):Nd p (tb (sl F) u):=fun h=>by
 have d:=Ex (t:=tr (co (sl F))) h
 rw[ub,L9] at d
 have o:∀ x:Int,p∣2*sz F*x->p∣x:=fun x h=>(Pr.euclid hp h).resolve_left (TU hp n2 hs)
 exact hu ⟨o _ d.1,o _ d.2.1,o _ d.2.2⟩
theorem Ez (F:F6)(u e:P3)(c:Int):wo F ⟨u.x+c*e.x,u.y+c*e.y,u.z+c*e.z⟩=wo F u+c*bl F u e+c*c*wo F e:=by
 simp only[wo,bl,tb,sl,rp]
 grind
theorem axis {p:Int}{F:F6}{u:P3}(h:Nd p (tb (sl F) u)):∃ e:P3,¬ p∣bl F u e:=by
 by_cases a:p∣(tb (sl F) u).x
 ·by_cases b:p∣(tb (sl F) u).y
  ·refine⟨⟨0,0,1⟩,fun z=>h ⟨a,b,?_⟩⟩
   have e:bl F u ⟨0,0,1⟩=(tb (sl F) u).z:=by unfold bl rp;grind
   rwa[e] at z
  ·refine⟨⟨0,1,0⟩,fun z=>b ?_⟩
   have e:bl F u ⟨0,1,0⟩=(tb (sl F) u).y:=by unfold bl rp;grind
   rwa[e] at z
 ·refine⟨⟨1,0,0⟩,fun z=>a ?_⟩
  have e:bl F u ⟨1,0,0⟩=(tb (sl F) u).x:=by unfold bl rp;grind
  rwa[e] at z
theorem lift {p:Int}{F:F6}(hp:aR p)(n2:p≠2)(hs:¬ p∣sz F){n:Nat}{u:P3}(hu:Nd p u)(h:p^(n+1)∣wo F u):∃ v:P3,Nd p v/\p^(n+1+1)∣wo F v:=by
 obtain⟨e,he⟩:=axis (Ey hp n2 hs hu)
 obtain⟨m,hm⟩:=h
 obtain⟨s,fF⟩:=jL hp n2 he
 obtain⟨w,hw⟩:=fF
 refine⟨⟨u.x+p^(n+1)*(-m*s)*e.x,u.y+p^(n+1)*(-m*s)*e.y,u.z+p^(n+1)*(-m*s)*e.z⟩,fun h=>hu ?_,?_⟩
 ·have dq:p∣p^(n+1):=⟨p^n,by rw[aan,aao]⟩
  have k:∀ x c:Int,p∣x+p^(n+1)*(-m*s)*c->p∣x:=fun x c h=>by
   have:=adP h (aah dq (⟨-m*s*c,by grind⟩:p^(n+1)∣p^(n+1)*(-m*s)*c))
   rwa[show x+p^(n+1)*(-m*s)*c-p^(n+1)*(-m*s)*c=x by omega] at this
  exact⟨k _ _ h.1,k _ _ h.2.1,k _ _ h.2.2⟩
 ·rw[Ez F u e,hm]
  refine⟨-m*w+p^n*(m*s*(m*s)*wo F e),?_⟩
  have e1:p^(n+1)*m+p^(n+1)*(-m*s)*bl F u e=p^(n+1)*(-m*(bl F u e*s-1)):=by grind
  rw[e1,hw]
  have e2:p^(n+1+1)=p^(n+1)*p:=aan ..
  have e3:p^(n+1)=p^n*p:=aan ..
  rw[e2]
  generalize wo F e=a
  rw[e3]
  generalize p^n=q
  grind
theorem zeros {p:Int}{F:F6}(hp:aR p)(n2:p≠2)(hs:¬ p∣sz F):∀ n:Nat,∃ u:P3,Nd p u/\p^(n+1)∣wo F u
 | 0=>by
  obtain⟨u,h1,h2⟩:=HY hp n2 hs
  exact⟨u,h1,by rw[aan,aaO,aaN];exact h2⟩
 | n+1=>by
  obtain⟨u,h1,h2⟩:=zeros hp n2 hs n
  exact lift hp n2 hs h1 h2
theorem Ma {p q1 q2 q3 l x y z:Int}(hp:aR p)(n2:p≠2)(e1:q1=p*l)(nl:¬ p∣l)(h2:¬ p∣q2)(h3:¬ p∣q3)(hj:∀ r:Int,¬ p∣r*r-(-(q2*q3)))(h:p*p∣q1*(x*x)+q2*(y*y)+q3*(z*z)):p∣x/\p∣y/\p∣z:=by
 have p0:p≠0:=by have:=hp.two;omega
 have d0:p∣q2*(y*y)+q3*(z*z):=by
  have a:p∣q1*(x*x):=by rw[e1];exact⟨l*(x*x),by grind⟩
  have b:=adP (aah (aa7 p p) h) a
  rwa[show q1*(x*x)+q2*(y*y)+q3*(z*z)-q1*(x*x)=q2*(y*y)+q3*(z*z) by omega] at b
 have hz:p∣z:=aaQ fun nz=>by
  obtain⟨s,m,hm⟩:=jL hp n2 nz
  obtain⟨w,hw⟩:=d0
  refine hj (q2*y*s) ⟨q2*s*s*w-q2*q3*m*(z*s+1),?_⟩
  have e2:q2*y*s*(q2*y*s)=q2*s*s*(q2*(y*y)+q3*(z*z))-q2*q3*(z*s)*(z*s):=by grind
  have e3:z*s=1+p*m:=by omega
  rw[e2,hw,e3]
  grind
 have sq:∀ w:Int,p∣w*w->p∣w:=fun w h=>(Pr.euclid hp h).elim id id
 have hy:p∣y:=by
  have a:p∣q3*(z*z):=aah hz ⟨q3*z,by grind⟩
  have b:=adP d0 a
  rw[show q2*(y*y)+q3*(z*z)-q3*(z*z)=q2*(y*y) by omega] at b
  exact sq _ ((Pr.euclid hp b).resolve_left h2)
 refine⟨?_,hy,hz⟩
 obtain⟨y',rfl⟩:=hy
 obtain⟨z',rfl⟩:=hz
 obtain⟨w,hw⟩:=h
 have e2:p*(l*(x*x))=p*(p*(w-q2*(y'*y')-q3*(z'*z'))):=by rw[e1] at hw;grind
 have e3:=aaP p0 e2
 exact sq _ ((Pr.euclid hp (⟨_,e3⟩:p∣l*(x*x))).resolve_left nl)
theorem JL {p q1 q2 q3 l:Int}(hp:aR p)(n2:p≠2)(e1:q1=p*l)(nl:¬ p∣l)(h2:¬ p∣q2)(h3:¬ p∣q3)(hj:∀ r:Int,¬ p∣r*r-(-(q2*q3))):∀ (j:Nat) (x y z:Int),p^(2*j)∣q1*(x*x)+q2*(y*y)+q3*(z*z)->p^j∣x/\p^j∣y/\p^j∣z
 | 0,x,y,z,_=>by rw[aaO];exact⟨acw _,acw _,acw _⟩
 | j+1,x,y,z,h=>by
  have p0:p≠0:=by have:=hp.two;omega
  have e2:p^(2*(j+1))=p*p*p^(2*j):=by
   rw[show 2*(j+1)=2*j+1+1 by omega,aan,aan]
   grind
  rw[e2] at h
  obtain⟨⟨x',rfl⟩,⟨y',rfl⟩,⟨z',rfl⟩⟩:=Ma hp n2 e1 nl h2 h3 hj (aah (aa7 _ _) h)
  obtain⟨w,hw⟩:=h
  have e3:p*p*(q1*(x'*x')+q2*(y'*y')+q3*(z'*z'))=p*p*(p^(2*j)*w):=by grind
  have e4:=aaP (aay p0 p0) e3
  obtain⟨a,b,c⟩:=JL hp n2 e1 nl h2 h3 hj j x' y' z' ⟨w,e4⟩
  have up:∀ v:Int,p^j∣v->p^(j+1)∣p*v:=fun v ⟨k,hk⟩=>⟨k,by rw[hk,aan];grind⟩
  exact⟨up _ a,up _ b,up _ c⟩
theorem ud (F:F6)(m:Int)(u:P3):wo F (tm m u)=m*m*wo F u:=by
 simp only[wo,tm]
 grind
end Pn
namespace Jc
open Pr (aR)
theorem Dec.neg {a p l o:Int}(h:Dec a p l o):Dec (-a) p (-l) o:=⟨by rw[aeI,<- h.eq],h.o0,fun d=>h.nd (abu.mp d)⟩
theorem Mb {p a l o:Int}(hp:aR p)(d:Dec a p l o):hs p o l o (-l)=1:=by
 unfold hs
 split
 ·next c=>
  subst c
  have ho:=t6 d.nd
  unfold iE
  have t1:bH l (-l)=1:=by unfold bH;rw[aar (by omega)]
  have t2:cF (-l)=cF l:=by
   unfold cF
   rcases (show l%8=1\/l%8=3\/l%8=5\/l%8=7 by omega) with h|h|h|h
   ·rw[show (-l)%8=7 by omega,h];rfl
   ·rw[show (-l)%8=5 by omega,h];rfl
   ·rw[show (-l)%8=3 by omega,h];rfl
   ·rw[show (-l)%8=1 by omega,h];rfl
  rw[t1,t2,aaN]
  split
  ·exact Ed l
  ·rfl
 ·next c=>
  have po:=b9 hp c
  unfold gG
  split
  ·rw[aeG,sM (by have:=hp.two;omega) po]
   exact fj hp d.nd
  ·rfl
def Mc (p:Nat)(m:Nat):Bool:=(List.range m).all fun k=>Nat.ble k 1 || !(p%k==0)
theorem Md {p m:Nat}(p2:2<=p)(hm:p<m*m)(h:Mc p m=true):aR (p:Int):=by
 refine⟨by omega,fun k k2 kk hd=>?_⟩
 obtain⟨j,rfl⟩:∃ j:Nat,k=(j:Int):=⟨k.toNat,by omega⟩
 have jj:j*j<=p:=by
  have:((j*j:Nat):Int)<=(p:Int):=by rw[abR];exact kk
  omega
 have jm:j<m:=by
  rcases ae0 j m with z|z
  ·exact z
  ·have:=abY z z
   omega
 have c:=acp.mp h j (ab0.mpr jm)
 have d:p%j=0:=Nat.mod_eq_zero_of_dvd (Int.natCast_dvd_natCast.mp hd)
 rw[d] at c
 have c':Nat.ble j 1=true:=by simpa using c
 have:=Nat.le_of_ble_eq_true c'
 omega
def HS (p a b v:Int):Prop:=∃ l1 o1 l2 o2,Dec a p l1 o1/\Dec b p l2 o2/\v=hs p o1 l1 o2 l2
open Classical in
noncomputable def H (p a b:Int):Int:=if h:∃ v,HS p a b v then choose h else 1
theorem gf {p a b l1 o1 l2 o2:Int}(hp:aR p)(d1:Dec a p l1 o1)(d2:Dec b p l2 o2):H p a b=hs p o1 l1 o2 l2:=by
 have h:∃ v,HS p a b v:=⟨_,l1,o1,l2,o2,d1,d2,rfl⟩
 unfold H
 rw[dif_pos h]
 obtain⟨m1,q1,m2,q2,e1,e2,e3⟩:=Classical.choose_spec h
 have p0:p≠0:=by have:=hp.two;omega
 obtain⟨rfl,rfl⟩:=e1.unique p0 d1
 obtain⟨rfl,rfl⟩:=e2.unique p0 d2
 exact e3
theorem oE {p x:Int}(hp:aR p)(h:x≠0):∃ l o,Dec x p l o:=qg hp.two _ x h (aai _)
theorem Pq {p a b:Int}(hp:aR p)(a0:a≠0)(b0:b≠0):H p a b=H p b a:=by
 obtain⟨l1,o1,d1⟩:=oE hp a0
 obtain⟨l2,o2,d2⟩:=oE hp b0
 rw[gf hp d1 d2,gf hp d2 d1,L1]
theorem Pt {p a b c:Int}(hp:aR p)(a0:a≠0)(b0:b≠0)(c0:c≠0):H p a (b*c)=H p a b*H p a c:=by
 obtain⟨l1,o1,d1⟩:=oE hp a0
 obtain⟨l2,o2,d2⟩:=oE hp b0
 obtain⟨l3,o3,d3⟩:=oE hp c0
 rw[gf hp d1 d2,gf hp d1 d3,gf hp d1 (d2.mul hp d3),L4 hp d1 d2 d3]
theorem Pu {p a:Int}(hp:aR p)(a0:a≠0):H p a (-a)=1:=by
 obtain⟨l1,o1,d1⟩:=oE hp a0
 rw[gf hp d1 d1.neg,Mb hp d1]
theorem fg {p:Int}(hp:aR p):Dec p p 1 1:=⟨by show p=p^(1:Nat)*1;rw[aan,aaO,aaN,abl],by decide,fun d=>by
 have:=adj (by decide) d
 have:=hp.two
 omega⟩
theorem cA {p x:Int}(h:¬ p∣x):Dec x p x 0:=⟨by simp,by decide,h⟩
theorem sO {p a b:Int}(hp:aR p)(n2:p≠2)(ha:¬ p∣a)(hb:¬ p∣b):H p a b=1:=by
 rw[gf hp (cA ha) (cA hb)]
 unfold hs gG
 rw[aar n2]
 rfl
def inf (a b:Int):Int:=if a<0/\b<0 then -1 else 1
theorem HZ (a b:Int):inf a b=inf b a:=by unfold inf;simp only[and_comm]
theorem Ia {a b c:Int}(b0:b≠0)(c0:c≠0):inf a (b*c)=inf a b*inf a c:=by
 unfold inf
 rcases abw b0 with hb|hb<;>rcases abw c0 with hc|hc
 ·have:=acK hb hc
  by_cases ha:a<0
  ·rw[aar (by omega),aaz ⟨ha,hb⟩,aaz ⟨ha,hc⟩];rfl
  ·rw[aar (by omega),aar (by omega),aar (by omega)];rfl
 ·have:=acL hb hc
  by_cases ha:a<0
  ·rw[aaz ⟨ha,this⟩,aaz ⟨ha,hb⟩,aar (by omega)];rfl
  ·rw[aar (by omega),aar (by omega),aar (by omega)];rfl
 ·have:=abO hb hc
  by_cases ha:a<0
  ·rw[aaz ⟨ha,this⟩,aar (by omega),aaz ⟨ha,hc⟩];rfl
  ·rw[aar (by omega),aar (by omega),aar (by omega)];rfl
 ·have:=acR hb hc
  rw[aar (by omega),aar (by omega),aar (by omega)];rfl
def PP (f:Int->Int):List Int->Int
 | []=>1
 | p::L=>f p*PP f L
theorem EA {f g k:Int->Int}:∀ {L:List Int},(∀ p∈L,k p=f p*g p)->PP k L=PP f L*PP g L
 | [],_=>rfl
 | p::L,h=>by
  show k p*PP k L=f p*PP f L*(g p*PP g L)
  rw[EA (f:=f) (g:=g) (L:=L) fun q hq=>h q (.tail _ hq),h p (.head _)]
  grind
theorem mJ {f:Int->Int}:∀ {L:List Int},(∀ p∈L,f p=1)->PP f L=1
 | [],_=>rfl
 | p::L,h=>by
  show f p*PP f L=1
  rw[mJ fun q hq=>h q (.tail _ hq),h p (.head _)]
  rfl
theorem iX {f:Int->Int}:∀ {L:List Int}{q:Int},q∈L->PP f L=f q*PP f (L.erase q)
 | p::L,q,h=>by
  by_cases e:p=q
  ·subst e
   rw[List.erase_cons_head]
   rfl
  ·have hq:q∈L:=(aaf.mp h).elim (fun z=>absurd z.symm e) id
   rw[List.erase_cons_tail (by simpa using e)]
   show f p*PP f L=f q*(f p*PP f (L.erase q))
   rw[iX hq]
   grind
theorem wt {f g:Int->Int}{L:List Int}(h:∀ p∈L,f p=g p):PP f L=PP g L:=by
 induction L with
 | nil=>rfl
 | cons p L ih=>
  show f p*PP f L=g p*PP g L
  rw[h p (.head _),ih fun q hq=>h q (.tail _ hq)]
noncomputable def W (L:List Int) (a b:Int):Int:=inf a b*PP (fun p=>H p a b) L
section
variable {L:List Int}
theorem sP (hL:∀ p∈L,aR p){a b:Int}(a0:a≠0)(b0:b≠0):W L a b=W L b a:=by
 unfold W
 rw[HZ,wt fun p hp=>Pq (hL p hp) a0 b0]
theorem EB (hL:∀ p∈L,aR p){a b c:Int}(a0:a≠0)(b0:b≠0)(c0:c≠0):W L a (b*c)=W L a b*W L a c:=by
 unfold W
 rw[Ia b0 c0,EA (f:=fun p=>H p a b) (g:=fun p=>H p a c) fun p hp=>Pt (hL p hp) a0 b0 c0]
 grind
theorem Px (hL:∀ p∈L,aR p){a:Int}(a0:a≠0):W L a (-a)=1:=by
 unfold W
 rw[mJ fun p hp=>Pu (hL p hp) a0]
 unfold inf
 rw[aar (by omega)]
 rfl
theorem EC {p:Int}(hp:aR p):¬ p∣1:=fun d=>by
 have:=adj (by decide) d
 have:=hp.two
 omega
theorem not_neg {p:Int}(hp:aR p):¬ p∣-1:=fun d=>EC hp (abu.mp d)
theorem cI:aR 2:=Md (p:=2) (m:=2) (by decide) (by decide) (by decide)
theorem TV (hL:∀ p∈L,aR p)(nd:L.Nodup)(h2:2∈L):W L (-1) (-1)=1:=by
 unfold W
 rw[iX h2,mJ (L:=L.erase 2) fun p hp=>?_]
 ·rw[gf cI (cA (not_neg cI)) (cA (not_neg cI))]
  decide
 ·have:=(nd.mem_erase_iff).mp hp
  exact sO (hL p this.2) this.1 (not_neg (hL p this.2)) (not_neg (hL p this.2))
theorem Py (hL:∀ p∈L,aR p)(nd:L.Nodup)(h2:2∈L):W L (-1) 2=1:=by
 unfold W
 rw[iX h2,mJ (L:=L.erase 2) fun p hp=>?_]
 ·rw[gf cI (cA (not_neg cI)) (fg cI)]
  decide
 ·have:=(nd.mem_erase_iff).mp hp
  exact sO (hL p this.2) this.1 (not_neg (hL p this.2)) fun d=>this.1 (Pr.aX (hL p this.2) cI d)
theorem yx {f:Int->Int}(nd:L.Nodup){q r:Int}(hq:q∈L)(hr:r∈L)(ne:q≠r)(h:∀ p∈L,p≠q->p≠r->f p=1):PP f L=f q*f r:=by
 have jw:r∈L.erase q:=(nd.mem_erase_iff).mpr ⟨Ne.symm ne,hr⟩
 rw[iX hq,iX jw,mJ (L:=(L.erase q).erase r) fun p hp=>?_]
 ·grind
 ·have h1:=((nd.erase q).mem_erase_iff).mp hp
  have h2:=(nd.mem_erase_iff).mp h1.2
  exact h p h2.2 h2.1 h1.1
theorem ED {f:Int->Int}(nd:L.Nodup){q r u:Int}(hq:q∈L)(hr:r∈L)(hu:u∈L)(n1:q≠r)(n2:q≠u)(n3:r≠u)(h:∀ p∈L,p≠q->p≠r->p≠u->f p=1):PP f L=f q*f r*f u:=by
 rw[iX hq,yx (nd.erase q) ((nd.mem_erase_iff).mpr ⟨Ne.symm n1,hr⟩) ((nd.mem_erase_iff).mpr ⟨Ne.symm n2,hu⟩) n3 fun p hp a b=>?_]
 ·grind
 ·have h2:=(nd.mem_erase_iff).mp hp
  exact h p h2.2 h2.1 a b
theorem AA {p:Int}(hp:aR p)(n2:p≠2):¬ (2:Int)∣p:=fun d=>by have:=b9 hp n2;omega
theorem Me (hL:∀ p∈L,aR p)(nd:L.Nodup)(h2:2∈L){p:Int}(hp:p∈L)(n2:p≠2):W L (-1) p=1:=by
 have pp:=hL p hp
 have po:=b9 pp n2
 have p2:=pp.two
 unfold W
 rw[yx nd h2 hp (Ne.symm n2) fun q hq a b=>sO (hL q hq) a (not_neg (hL q hq)) fun d=>b (Pr.aX (hL q hq) pp d)]
 rw[gf cI (cA (not_neg cI)) (cA (AA pp n2)),gf pp (cA (not_neg pp)) (fg pp)]
 have e1:hs 2 0 (-1) 0 p=bH (-1) p:=by unfold hs iE;rw[aaz rfl];simp
 have e2:hs p 0 (-1) 1 1=J (-1) p:=by unfold hs gG;rw[aar n2];rfl
 have e3:inf (-1) p=1:=by unfold inf;rw[aar (by omega)]
 rw[e1,e2,e3,O3 (by omega) po]
 unfold bH
 by_cases c:p%4=1
 ·rw[aaz c,aar (by omega)];rfl
 ·rw[aar c,aaz (by omega)];rfl
theorem TX (hL:∀ p∈L,aR p)(nd:L.Nodup)(h2:2∈L):W L 2 2=1:=by
 unfold W
 rw[iX h2,mJ (L:=L.erase 2) fun p hp=>?_]
 ·rw[gf cI (fg cI) (fg cI)]
  decide
 ·have:=(nd.mem_erase_iff).mp hp
  have V3:¬ p∣2:=fun d=>this.1 (Pr.aX (hL p this.2) cI d)
  exact sO (hL p this.2) this.1 V3 V3
theorem Pz (hL:∀ p∈L,aR p)(nd:L.Nodup)(h2:2∈L){p:Int}(hp:p∈L)(n2:p≠2):W L 2 p=1:=by
 have pp:=hL p hp
 have po:=b9 pp n2
 have p2:=pp.two
 unfold W
 have np:¬ p∣2:=fun d=>n2 (Pr.aX pp cI d)
 rw[yx nd h2 hp (Ne.symm n2) fun q hq a b=>sO (hL q hq) a (fun d=>a (Pr.aX (hL q hq) cI d)) fun d=>b (Pr.aX (hL q hq) pp d)]
 rw[gf cI (fg cI) (cA (AA pp n2)),gf pp (cA np) (fg pp)]
 have e1:hs 2 1 1 0 p=bH 1 p*cF p:=by unfold hs iE;rw[aaz rfl];simp
 have e2:hs p 0 2 1 1=J 2 p:=by unfold hs gG;rw[aar n2];rfl
 have e3:inf 2 p=1:=by unfold inf;rw[aar (by omega)]
 have e4:bH 1 p=1:=by unfold bH;rw[aar (by omega)]
 rw[e1,e2,e3,e4,O4 (by omega) po,aaN,aaN]
 exact Ed p
theorem TY (hL:∀ p∈L,aR p)(nd:L.Nodup)(h2:2∈L){p q:Int}(hp:p∈L)(hq:q∈L)(p2:p≠2)(q2:q≠2)(ne:p≠q):W L p q=1:=by
 have pp:=hL p hp
 have pq:=hL q hq
 have po:=b9 pp p2
 have qo:=b9 pq q2
 have pt:=pp.two
 have qt:=pq.two
 have V4:¬ p∣q:=fun d=>ne (Pr.aX pp pq d)
 have Ya:¬ q∣p:=fun d=>ne (Pr.aX pq pp d).symm
 unfold W
 rw[ED nd h2 hp hq (Ne.symm p2) (Ne.symm q2) ne fun r hr a b c=>sO (hL r hr) a (fun d=>b (Pr.aX (hL r hr) pp d)) fun d=>c (Pr.aX (hL r hr) pq d)]
 rw[gf cI (cA (AA pp p2)) (cA (AA pq q2)),gf pp (fg pp) (cA V4),gf pq (cA Ya) (fg pq)]
 have e1:hs 2 0 p 0 q=bH p q:=by unfold hs iE;rw[aaz rfl];simp
 have e2:hs p 1 1 0 q=J q p:=by unfold hs gG;rw[aar p2];rfl
 have e3:hs q 0 p 1 1=J p q:=by unfold hs gG;rw[aar q2];rfl
 have e4:inf p q=1:=by unfold inf;rw[aar (by omega)]
 rw[e1,e2,e3,e4,LV (by omega) po (by omega) qo (a:=p) (n:=q)]
 have s1:=fj pp V4
 have s2:bH p q*bH p q=1:=by rcases tn p q with h|h<;>rw[h]<;>rfl
 grind
theorem TZ (hL:∀ p∈L,aR p)(nd:L.Nodup)(h2:2∈L){p:Int}(hp:p∈L)(n2:p≠2):W L p p=1:=by
 have p0:p≠0:=by have:=(hL p hp).two;omega
 have e:p=-1*-p:=by omega
 have h:=EB hL p0 (show (-1:Int)≠0 by decide) (show -p≠0 by omega)
 have s:=sP hL p0 (show (-1:Int)≠0 by decide)
 rw[<- e,Px hL p0,s,Me hL nd h2 hp n2] at h
 exact h
theorem PB (hL:∀ p∈L,aR p)(nd:L.Nodup)(h2:2∈L){g k:Int}(hg:g=-1\/g∈L)(hk:k=-1\/k∈L):W L g k=1:=by
 have nz:∀ {x:Int},x∈L->x≠0:=fun h=>by have:=(hL _ h).two;omega
 rcases hg with rfl|hg<;>rcases hk with rfl|hk
 ·exact TV hL nd h2
 ·by_cases c:k=2
  ·rw[c];exact Py hL nd h2
  ·exact Me hL nd h2 hk c
 ·rw[sP hL (nz hg) (by decide)]
  by_cases c:g=2
  ·rw[c];exact Py hL nd h2
  ·exact Me hL nd h2 hg c
 ·by_cases c:g=2<;>by_cases d:k=2
  ·rw[c,d];exact TX hL nd h2
  ·rw[c];exact Pz hL nd h2 hk d
  ·rw[sP hL (nz hg) (nz hk),d];exact Pz hL nd h2 hg c
  ·by_cases e:g=k
   ·rw[<- e];exact TZ hL nd h2 hg c
   ·exact TY hL nd h2 hg hk c d e
theorem ue {F:Int->Int}(hm:∀ x y:Int,x≠0->y≠0->F (x*y)=F x*F y)(hn:F (-1)=1)(hp:∀ p∈L,F p=1):∀ (n:Nat) (a:Int),a.natAbs<=n->a≠0->(∀ p,aR p->p∣a->p∈L)->F a=1
 | 0,a,h,a0,_=>by omega
 | n+1,a,h,a0,hd=>by
  by_cases c:a.natAbs=1
  ·rcases Int.natAbs_eq_iff.mp c with e|e
   ·have:=hm (-1) (-1) (by decide) (by decide)
    rw[hn] at this
    rw[e]
    exact this
   ·rw[e];exact hn
  ·obtain⟨q,pq,hq⟩:=Pr.qd a.natAbs (a.natAbs:Int) (by omega) (by omega)
   have Yb:q∣a:=aee.mp hq
   obtain⟨b,rfl⟩:=Yb
   have q2:=pq.two
   have b0:b≠0:=fun z=>a0 (by rw[z,aaI])
   have hb:b.natAbs<=n:=by
    rw[aaC] at h
    have h1:2<=q.natAbs:=by omega
    have h2:1<=b.natAbs:=by omega
    have:=acG b.natAbs h1
    omega
   rw[hm q b (by omega) b0,hp q (hd q pq ⟨b,rfl⟩),ue hm hn hp n b hb b0 fun p pp d=>hd p pp (aah d (aaw q b))]
   rfl
theorem PC (hL:∀ p∈L,aR p)(nd:L.Nodup)(h2:2∈L){a b:Int}(a0:a≠0)(b0:b≠0)(ha:∀ p,aR p->p∣a->p∈L)(hb:∀ p,aR p->p∣b->p∈L):W L a b=1:=by
 have nz:∀ {x:Int},x∈L->x≠0:=fun h=>by have:=(hL _ h).two;omega
 have one:∀ g:Int,g≠0->(g=-1\/g∈L)->W L g b=1:=fun g g0 hg=>
  ue (F:=fun y=>W L g y) (fun x y x0 y0=>EB hL g0 x0 y0) (PB hL nd h2 hg (.inl rfl)) (fun p hp=>PB hL nd h2 hg (.inr hp)) _ b (aai _) b0 hb
 refine ue (F:=fun x=>W L x b) (fun x y x0 y0=>?_) (one (-1) (by decide) (.inl rfl)) (fun p hp=>one p (nz hp) (.inr hp)) _ a (aai _) a0 ha
 show W L (x*y) b=W L x b*W L y b
 have xy:x*y≠0:=fun z=>(ab5.mp z).elim x0 y0
 rw[sP hL xy b0,EB hL b0 x0 y0,sP hL b0 x0,sP hL b0 y0]
end
theorem AB {f:Int->Int}:∀ {L:List Int},(∀ p∈L,f p=1\/f p=-1)->PP f L=if (L.filter fun p=>decide (f p=-1)).length%2=0 then 1 else -1
 | [],_=>rfl
 | p::L,h=>by
  show f p*PP f L=_
  rw[AB fun q hq=>h q (.tail _ hq)]
  rcases h p (.head _) with e|e
  ·rw[List.filter_cons_of_neg (by rw[e];decide),e,aaN]
  ·rw[List.filter_cons_of_pos (by rw[e];decide),e,aa8]
   by_cases c:(L.filter fun p=>decide (f p=-1)).length%2=0
   ·rw[aaz c,aar (by omega)];rfl
   ·rw[aar c,aaz (by omega)];rfl
theorem T4 {p a b:Int}(hp:aR p)(a0:a≠0)(b0:b≠0):H p a b=1\/H p a b=-1:=by
 obtain⟨l1,o1,d1⟩:=oE hp a0
 obtain⟨l2,o2,d2⟩:=oE hp b0
 rw[gf hp d1 d2]
 exact O8 hp d1 d2
noncomputable def rE (a b x:Int):Int:=if x=0 then inf a b else H x a b
theorem wu {L:List Int}(hL:∀ p∈L,aR p)(nd:L.Nodup)(h2:2∈L){a b:Int}(a0:a≠0)(b0:b≠0)(ha:∀ p,aR p->p∣a->p∈L)(hb:∀ p,aR p->p∣b->p∈L) :
  ((0::L).filter fun x=>decide (rE a b x=-1)).length%2=0:=by
 have w:=PC hL nd h2 a0 b0 ha hb
 have e:PP (rE a b) (0::L)=1:=by
  show rE a b 0*PP (rE a b) L=1
  have e0:rE a b 0=inf a b:=aaz rfl
  have e1:PP (rE a b) L=PP (fun p=>H p a b) L:=wt fun p hp=>aar (by have:=(hL p hp).two;omega)
  rw[e0,e1]
  exact w
 rw[AB] at e
 ·by_cases c:((0::L).filter fun x=>decide (rE a b x=-1)).length%2=0
  ·exact c
  ·rw[aar c] at e
   cases e
 ·intro p hp
  rcases aaf.mp hp with rfl|hp
  ·have e0:rE a b 0=inf a b:=aaz rfl
   rw[e0]
   unfold inf
   split<;>simp
  ·have hz:p≠0:=by have:=(hL p hp).two;omega
   unfold rE
   rw[aar hz]
   exact T4 (hL p hp) a0 b0
theorem T5 {a b c p l:Int}(hp:aR p)(n2:p≠2)(ea:a=p*l)(nl:¬ p∣l)(nb:¬ p∣b)(nc:¬ p∣c):H p (-a*c) (-b*c)=J (-(b*c)) p:=by
 have d1:Dec (-a*c) p (-l*c) 1:=⟨by rw[ea];show _=p^(1:Nat)*_;rw[aan,aaO];grind,by decide,fun d=>(Pr.euclid hp d).elim (fun h=>nl (abu.mp h)) nc⟩
 have d2:Dec (-b*c) p (-b*c) 0:=cA fun d=>(Pr.euclid hp d).elim (fun h=>nb (abu.mp h)) nc
 rw[gf hp d1 d2]
 unfold hs gG
 rw[aar n2,aaz (by decide),aar (by decide),acQ]
theorem T6 {a b c p l:Int}(hp:aR p)(n2:p≠2)(eb:b=p*l)(nl:¬ p∣l)(na:¬ p∣a)(nc:¬ p∣c):H p (-a*c) (-b*c)=J (-(c*a)) p:=by
 have d1:Dec (-a*c) p (-a*c) 0:=cA fun d=>(Pr.euclid hp d).elim (fun h=>na (abu.mp h)) nc
 have d2:Dec (-b*c) p (-l*c) 1:=⟨by rw[eb];show _=p^(1:Nat)*_;rw[aan,aaO];grind,by decide,fun d=>(Pr.euclid hp d).elim (fun h=>nl (abu.mp h)) nc⟩
 rw[gf hp d1 d2]
 unfold hs gG
 rw[aar n2,aar (by decide),aaz (by decide),acQ,aao a c]
theorem T7 {a b c p l:Int}(hp:aR p)(n2:p≠2)(ec:c=p*l)(nl:¬ p∣l)(na:¬ p∣a)(nb:¬ p∣b):H p (-a*c) (-b*c)=J (-(a*b)) p:=by
 have d1:Dec (-a*c) p (-a*l) 1:=⟨by rw[ec];show _=p^(1:Nat)*_;rw[aan,aaO];grind,by decide,fun d=>(Pr.euclid hp d).elim (fun h=>na (abu.mp h)) nl⟩
 have d2:Dec (-b*c) p (-b*l) 1:=⟨by rw[ec];show _=p^(1:Nat)*_;rw[aan,aaO];grind,by decide,fun d=>(Pr.euclid hp d).elim (fun h=>nb (abu.mp h)) nl⟩
 rw[gf hp d1 d2]
 unfold hs gG
 rw[aar n2,aaz (by decide),aaz (by decide)]
 have e:-(-a*l)*(-b*l)=-(a*b)*(l*l):=by grind
 have po:=b9 hp n2
 have p0:0<p:=by have:=hp.two;omega
 rw[e,sM p0 po,sM p0 po l l,fj hp nl,abl]
def mK (a b c x:Int):Prop:=(x=0/\((a<0/\b<0/\c<0)\/(0<a/\0<b/\0<c)))\/(x=2/\¬ Pl.rS a b c) \/
 (aR x/\x≠2/\((x∣a/\J (-(b*c)) x=-1)\/(x∣b/\J (-(c*a)) x=-1)\/(x∣c/\J (-(a*b)) x=-1)))
theorem EE {n p:Int}(sq:¬ p*p∣n)(h:p∣n):∃ l,n=p*l/\¬ p∣l:=by
 obtain⟨l,e⟩:=h
 exact⟨l,e,fun ⟨m,em⟩=>sq ⟨m,by rw[e,em,aaq]⟩⟩
theorem AD {a b c x:Int}(P:Pl.rR a b c)(h:x=0\/x=2\/(aR x/\x≠2/\(x∣a\/x∣b\/x∣c))):rE (-a*c) (-b*c) x=-1↔mK a b c x:=by
 have nz:∀ {x:Int},x≠0->-x*c≠0:=fun h z=>by
  rcases ab5.mp z with w|w
  ·omega
  ·exact P.c0 w
 rcases h with rfl|rfl|⟨hp,n2,hd⟩
 ·have e:rE (-a*c) (-b*c) 0=inf (-a*c) (-b*c):=aaz rfl
  rw[e]
  refine (Pl.Ek P).trans ⟨fun h=>?_,fun h=>?_⟩
  ·rcases h with h|⟨e,_⟩|⟨hp,_⟩
   ·exact .inl h
   ·cases e
   ·exact absurd hp.two (by decide)
  ·rcases h with h|⟨e,_⟩|⟨hp,_⟩
   ·exact .inl h
   ·cases e
   ·exact absurd hp.two (by decide)
 ·have e:rE (-a*c) (-b*c) 2=H 2 (-a*c) (-b*c):=aar (by decide)
  obtain⟨l1,o1,d1⟩:=oE cI (nz P.a0)
  obtain⟨l2,o2,d2⟩:=oE cI (nz P.b0)
  rw[e,gf cI d1 d2]
  refine (Pl.HU P d1 d2).trans ⟨fun h=>?_,fun h=>?_⟩
  ·rcases h with ⟨e,_⟩|h|⟨_,n,_⟩
   ·cases e
   ·exact .inr (.inl h)
   ·exact absurd rfl n
  ·rcases h with ⟨e,_⟩|h|⟨_,n,_⟩
   ·cases e
   ·exact .inr (.inl h)
   ·exact absurd rfl n
 ·have x2:=hp.two
  have e:rE (-a*c) (-b*c) x=H x (-a*c) (-b*c):=aar (by omega)
  rw[e]
  have out:∀ {A:Prop},A->((mK a b c x)↔((x∣a/\J (-(b*c)) x=-1)\/(x∣b/\J (-(c*a)) x=-1)\/(x∣c/\J (-(a*b)) x=-1))):=fun _=>⟨fun h=>by
   rcases h with ⟨e,_⟩|⟨e,_⟩|⟨_,_,h⟩
   ·omega
   ·omega
   ·exact h,fun h=>.inr (.inr ⟨hp,n2,h⟩)⟩
  rw[out trivial]
  rcases hd with hd|hd|hd
  ·obtain⟨l,el,nl⟩:=EE (P.sa x hp) hd
   have nb:=P.ab x hp hd
   have nc:¬ x∣c:=fun z=>P.ca x hp z hd
   rw[T5 hp n2 el nl nb nc]
   simp[hd,nb,nc]
  ·obtain⟨l,el,nl⟩:=EE (P.sb x hp) hd
   have nc:=P.bc x hp hd
   have na:¬ x∣a:=fun z=>P.ab x hp z hd
   rw[T6 hp n2 el nl na nc]
   simp[hd,na,nc]
  ·obtain⟨l,el,nl⟩:=EE (P.sc x hp) hd
   have na:=P.ca x hp hd
   have nb:¬ x∣b:=fun z=>P.bc x hp z hd
   rw[T7 hp n2 el nl na nb]
   simp[hd,na,nb]
end Jc
namespace Pn
open Sm Lw
open Pr (aR)
open Jc (oZ qi jL J mK)
def dg (a b c:Int):F6:=⟨a,b,c,0,0,0⟩
def Dv (m:Int)(u:P3):Prop:=m∣u.x/\m∣u.y/\m∣u.z
def wx (p:Int)(F:F6):Prop:=∀ n:Nat,∃ u:P3,Nd p u/\p^n∣wo F u
theorem AE {p a x:Int}(hp:aR p)(h:¬ p∣a):∀ n:Nat,p^n∣a*x->p^n∣x
 | 0,_=>by rw[aaO];exact acw _
 | n+1,hd=>by
  have h1:p^n∣x:=AE hp h n (aah ⟨p,by rw[aan]⟩ hd)
  obtain⟨y,rfl⟩:=h1
  obtain⟨w,hw⟩:=hd
  have p0:p^n≠0:=ad5 (by have:=hp.two;omega)
  have e:p^n*(a*y)=p^n*(p*w):=by rw[aan] at hw;grind
  have e2:=aaP p0 e
  rcases Pr.euclid hp (⟨w,e2⟩:p∣a*y) with z|⟨v,hv⟩
  ·exact absurd z h
  ·exact⟨v,by rw[hv,aan];grind⟩
theorem qj {p:Int}{m n:Nat}(h:m<=n):p^m∣p^n:=⟨p^(n-m),by rw[<- ab4];congr 1;omega⟩
theorem Dv.of {m:Int}{u:P3}(h:Dv m u):∃ v:P3,u=tm m v:=by
 obtain⟨⟨x,hx⟩,⟨y,hy⟩,⟨z,hz⟩⟩:=h
 refine⟨⟨x,y,z⟩,?_⟩
 cases u
 simp only[tm,P3.mk.injEq]
 exact⟨hx,hy,hz⟩
theorem JM {m:Int}{t:T3}{u:P3}(h:Dv m u):Dv m (tb t u):=Ex h
theorem most {p:Int}{u:P3}:∀ o:Nat,¬ Dv (p^(o+1)) u->∃ s:Nat,s<=o/\Dv (p^s) u/\¬ Dv (p^(s+1)) u
 | 0,h=>⟨0,aai _,by rw[aaO];exact⟨acw _,acw _,acw _⟩,h⟩
 | o+1,h=>by
  by_cases c:Dv (p^(o+1)) u
  ·exact⟨o+1,aai _,c,h⟩
  ·obtain⟨s,h1,h2,h3⟩:=most o c
   exact⟨s,by omega,h2,h3⟩
section
variable {p:Int}{F G:F6}{t:T3}{k:Int}
theorem EF {m:Int}(hp:aR p){o:Nat}{u:P3}(e:m=p^o*k)(nk:¬ p∣k)(h:Dv (p^(o+1)) (tm m u)):Dv p u:=by
 have p0:p≠0:=by have:=hp.two;omega
 have out:∀ x:Int,p^(o+1)∣m*x->p∣x:=fun x h=>by
  rw[e,aan,aaq] at h
  exact (Pr.euclid hp (abK (ad5 p0) h)).resolve_left nk
 exact⟨out _ h.1,out _ h.2.1,out _ h.2.2⟩
theorem yy (hp:aR p)(m0:me t≠0)(hF:∀ w,wo F (tb t w)=k*wo G w)(h:wx p G):wx p F:=fun n=>by
 have p2:=hp.two
 have p0:p≠0:=by omega
 obtain⟨lm,om,dm⟩:=Jc.qg p2 _ (me t) m0 (aai _)
 obtain⟨w,hw,hd⟩:=h (n+2*om.toNat)
 have nd:¬ Dv (p^(om.toNat+1)) (tb t w):=fun h=>by
  have h2:=JM (t:=tr (co t)) h
  rw[ub] at h2
  exact hw (EF hp dm.eq dm.nd h2)
 obtain⟨s,h1,h2,h3⟩:=most _ nd
 obtain⟨v,hv⟩:=h2.of
 refine⟨v,fun h=>h3 ?_,?_⟩
 ·rw[hv]
  obtain⟨⟨x,hx⟩,⟨y,hy⟩,⟨z,hz⟩⟩:=h
  refine⟨⟨x,?_⟩,⟨y,?_⟩,⟨z,?_⟩⟩
  ·show p^s*v.x=_;rw[hx,aan];grind
  ·show p^s*v.y=_;rw[hy,aan];grind
  ·show p^s*v.z=_;rw[hz,aan];grind
 ·have e:=hF w
  rw[hv,ud] at e
  have d:p^(n+2*om.toNat)∣p^s*p^s*wo F v:=by rw[e];exact aah hd (aaw _ _)
  rw[<- ab4] at d
  have e2:p^(n+2*om.toNat)=p^(s+s)*p^(n+2*om.toNat-(s+s)):=by rw[<- ab4];congr 1;omega
  rw[e2] at d
  exact aah (qj (by omega)) (abK (ad5 p0) d)
theorem EG {c:Nat}(hp:aR p)(m0:me t≠0)(k0:k≠0)(hF:∀ w,wo F (tb t w)=k*wo G w)(hG:∀ (j:Nat) (w:P3),p^(2*j+c)∣wo G w->Dv (p^j) w):¬ wx p F:=fun h=>by
 have p2:=hp.two
 have p0:p≠0:=by omega
 obtain⟨lm,om,dm⟩:=Jc.qg p2 _ (me t) m0 (aai _)
 obtain⟨lk,ok,dk⟩:=Jc.qg p2 _ k k0 (aai _)
 obtain⟨u,hu,hz⟩:=h (2*(om.toNat+1)+c+ok.toNat)
 have e:=hF (tb (tr (co t)) u)
 rw[lZ,ud] at e
 have d:p^(2*(om.toNat+1)+c+ok.toNat)∣k*wo G (tb (tr (co t)) u):=by rw[<- e];exact aah hz (aaw _ _)
 rw[dk.eq,ab4,aao (p^(2*(om.toNat+1)+c)),aaq] at d
 have d2:=AE hp dk.nd _ (abK (ad5 p0) d)
 have d3:=JM (t:=t) (hG _ _ d2)
 rw[lZ] at d3
 exact hu (EF hp dm.eq dm.nd d3)
theorem EH (hp:aR p)(n2:p≠2){u:P3}(hu:Nd p u)(hs:Nd p (tb (sl F) u))(h:p∣wo F u):wx p F:=by
 have key:∀ n:Nat,∃ v:P3,Nd p v/\Nd p (tb (sl F) v)/\p^(n+1)∣wo F v:=fun n=>by
  induction n with
  | zero=>exact⟨u,hu,hs,by rw[aan,aaO,aaN];exact h⟩
  | succ n ih=>
   obtain⟨v,h1,h2,m,hm⟩:=ih
   obtain⟨e,he⟩:=axis h2
   obtain⟨s,w,hw⟩:=jL hp n2 he
   have dq:p∣p^(n+1):=⟨p^n,by rw[aan,aao]⟩
   have back:∀ x c:Int,p∣x+p^(n+1)*c->p∣x:=fun x c h=>by
    have:=adP h (aah dq (aa7 (p^(n+1)) c))
    rwa[show x+p^(n+1)*c-p^(n+1)*c=x by omega] at this
   refine⟨⟨v.x+p^(n+1)*(-m*s)*e.x,v.y+p^(n+1)*(-m*s)*e.y,v.z+p^(n+1)*(-m*s)*e.z⟩,fun h=>h1 ?_,fun h=>h2 ?_,?_⟩
   ·exact⟨back _ (-m*s*e.x) (by rw[<- aaq];exact h.1),back _ (-m*s*e.y) (by rw[<- aaq];exact h.2.1),back _ (-m*s*e.z) (by rw[<- aaq];exact h.2.2)⟩
   ·have T8:∀ r:P3,rp r ⟨v.x+p^(n+1)*(-m*s)*e.x,v.y+p^(n+1)*(-m*s)*e.y,v.z+p^(n+1)*(-m*s)*e.z⟩=rp r v+p^(n+1)*(-m*s*rp r e):=fun r=>by
     unfold rp
     grind
    obtain⟨a,b,c⟩:=h
    exact⟨back _ (-m*s*rp (sl F).r0 e) (by have:=a;rw[show (tb (sl F) _).x=rp (sl F).r0 _ from rfl,T8] at this;exact this),back _ (-m*s*rp (sl F).r1 e) (by have:=b;rw[show (tb (sl F) _).y=rp (sl F).r1 _ from rfl,T8] at this;exact this),back _ (-m*s*rp (sl F).r2 e) (by have:=c;rw[show (tb (sl F) _).z=rp (sl F).r2 _ from rfl,T8] at this;exact this)⟩
   ·rw[Ez F v e,hm]
    refine⟨-m*w+p^n*(m*s*(m*s)*wo F e),?_⟩
    have e1:p^(n+1)*m+p^(n+1)*(-m*s)*bl F v e=p^(n+1)*(-m*(bl F v e*s-1)):=by grind
    rw[e1,hw]
    have e2:p^(n+1+1)=p^(n+1)*p:=aan ..
    have e3:p^(n+1)=p^n*p:=aan ..
    rw[e2]
    generalize wo F e=a
    rw[e3]
    generalize p^n=q
    grind
 intro n
 obtain⟨v,h1,_,h3⟩:=key n
 exact⟨v,h1,aah (qj (abk n)) h3⟩
end
section
variable {p a b c:Int}
theorem iF (a b c:Int)(u:P3):wo (dg a b c) u=a*(u.x*u.x)+b*(u.y*u.y)+c*(u.z*u.z):=by
 simp only[wo,dg]
 grind
theorem uf (h:wx p (dg b c a)):wx p (dg a b c):=fun n=>by
 obtain⟨u,h1,h2⟩:=h n
 refine⟨⟨u.z,u.x,u.y⟩,fun h=>h1 ⟨h.2.1,h.2.2,h.1⟩,?_⟩
 rw[iF] at h2 ⊢
 have e:a*(u.z*u.z)+b*(u.x*u.x)+c*(u.y*u.y)=b*(u.x*u.x)+c*(u.y*u.y)+a*(u.z*u.z):=by omega
 rw[e]
 exact h2
theorem EI (hp:aR p)(n2:p≠2)(ha:¬ p∣a)(hb:¬ p∣b)(hc:¬ p∣c):wx p (dg a b c):=fun n=>by
 have hs:¬ p∣sz (dg a b c):=fun z=>by
  have e:sz (dg a b c)=4*a*b*c:=by simp only[sz,dg];grind
  rw[e] at z
  rcases Pr.euclid hp z with z|z
  ·rcases Pr.euclid hp z with z|z
   ·exact n4 hp n2 ha z
   ·exact hb z
  ·exact hc z
 obtain⟨u,h1,h2⟩:=zeros hp n2 hs n
 exact⟨u,h1,aah (qj (abk n)) h2⟩
theorem EJ (hp:aR p)(n2:p≠2)(ha:p∣a)(hb:¬ p∣b)(hc:¬ p∣c){r:Int}(hr:p∣r*r-(-(b*c))):wx p (dg a b c):=by
 obtain⟨s,m,hm⟩:=jL hp n2 hb
 refine EH hp n2 (u:=⟨0,r*s,1⟩) (fun h=>Nx hp h.2.2) (fun h=>?_) ?_
 ·have e:(tb (sl (dg a b c)) ⟨0,r*s,1⟩).z=2*c:=by simp only[tb,sl,dg,rp];grind
  have:=h.2.2
  rw[e] at this
  exact TU hp n2 hc this
 ·rw[iF]
  obtain⟨w,hw⟩:=hr
  have key:b*(a*(0*0)+b*(r*s*(r*s))+c*(1*1))=(b*s)*(b*s)*(r*r-(-(b*c)))-b*c*((b*s-1)*(b*s+1)):=by grind
  refine (Pr.euclid hp (x:=b) ?_).resolve_left hb
  rw[key,hw,hm]
  exact⟨b*s*(b*s)*w-b*c*(m*(b*s+1)),by grind⟩
theorem Ib (hp:aR p)(n2:p≠2)(ha:p∣a)(na:¬ p*p∣a)(hb:¬ p∣b)(hc:¬ p∣c)(hj:∀ r:Int,¬ p∣r*r-(-(b*c)))(j:Nat)(w:P3)(h:p^(2*j+0)∣wo (dg a b c) w):Dv (p^j) w:=by
 obtain⟨l,hl⟩:=ha
 rw[iF] at h
 exact JL hp n2 hl (fun ⟨q,hq⟩=>na ⟨q,by rw[hl,hq];grind⟩) hb hc hj j w.x w.y w.z h
theorem AF (h:¬ Pl.rS a b c):∀ (j:Nat) (w:P3),(2:Int)^(2*j+3)∣wo (dg a b c) w->Dv (2^j) w
 | 0,w,_=>by rw[aaO];exact⟨acw _,acw _,acw _⟩
 | j+1,w,hd=>by
  have e8:(2:Int)^(2*(j+1)+3)=4*2^(2*j+3):=by rw[show 2*(j+1)+3=2*j+3+1+1 by omega,aan,aan];omega
  have d8:(8:Int)∣wo (dg a b c) w:=aah ⟨2^(2*j+2),by rw[show 2*(j+1)+3=(2*j+2)+3 by omega,ab4];omega⟩ hd
  have ev:∀ x:Int,¬ x%2=1->(2:Int)∣x:=fun x h=>by omega
  have all:Dv 2 w:=by
   rw[iF] at d8
   have no:¬ (w.x%2=1\/w.y%2=1\/w.z%2=1):=fun z=>h ⟨w.x,w.y,w.z,z,by rw[aaq,aaq,aaq];omega⟩
   exact⟨ev _ fun z=>no (.inl z),ev _ fun z=>no (.inr (.inl z)),ev _ fun z=>no (.inr (.inr z))⟩
  obtain⟨v,rfl⟩:=all.of
  rw[ud,e8] at hd
  have d2:=AF h j v (abK (show (4:Int)≠0 by decide) (by rw[show (2:Int)*2=4 by decide] at hd;exact hd))
  have up:∀ x:Int,(2:Int)^j∣x->2^(j+1)∣2*x:=fun x ⟨q,hq⟩=>⟨q,by rw[hq,aan];grind⟩
  exact⟨up _ d2.1,up _ d2.2.1,up _ d2.2.2⟩
theorem EK {R x:Int}(ha:a%2=1)(hx:x%2=1)(h:(8:Int)∣a*(x*x)+R):∀ n:Nat,∃ y:Int,y%2=1/\(2:Int)^(n+3)∣a*(y*y)+R
 | 0=>⟨x,hx,by simpa using h⟩
 | n+1=>by
  obtain⟨y,hy,m,hm⟩:=EK ha hx h n
  rcases (show m%2=0\/m%2=1 by omega) with z|z
  ·refine⟨y,hy,m / 2,?_⟩
   rw[hm,show n+1+3=n+3+1 by omega,aan]
   have:m=2*(m / 2):=by omega
   generalize m / 2=q at *
   grind
  ·have e0:(2:Int)^(n+3)=2*2^(n+2):=by rw[show n+3=n+2+1 by omega,aan];omega
   have e1:(2:Int)^(n+2)=4*2^n:=by rw[ab4];omega
   refine⟨y+2^(n+2),?_,?_⟩
   ·rw[e1]
    generalize (2:Int)^n=q
    omega
   ·have o:(m+a*y+a*2^(n+1))%2=0:=by
     have e2:(2:Int)^(n+1)=2*2^n:=by rw[aan];omega
     have e3:a*(2^(n+1))=2*(a*2^n):=by rw[e2];grind
     have e4:(a*y)%2=1:=by rw[abE,ha,hy];rfl
     rw[e3]
     generalize a*y=q1 at *
     generalize a*2^n=q2
     omega
    refine⟨(m+a*y+a*2^(n+1)) / 2,?_⟩
    have e5:a*((y+2^(n+2))*(y+2^(n+2)))+R=(a*(y*y)+R)+2^(n+3)*(a*y+a*2^(n+1)):=by
     have e6:(2:Int)^(n+2)=2*2^(n+1):=by rw[show n+2=n+1+1 by omega,aan];omega
     rw[e0,e6]
     generalize (2:Int)^(n+1)=q
     grind
    have e7:m+a*y+a*2^(n+1)=2*((m+a*y+a*2^(n+1)) / 2):=by omega
    have e9:(2:Int)^(n+1+3)=2^(n+3)*2:=by rw[show n+1+3=n+3+1 by omega,aan]
    rw[e5,hm,e9]
    generalize (m+a*y+a*2^(n+1)) / 2=q at *
    generalize (2:Int)^(n+3)=r
    have e8:r*m+r*(a*y+a*2^(n+1))=r*(m+a*y+a*2^(n+1)):=by grind
    rw[e8,e7]
    grind
theorem qk {x y z:Int}(ha:a%2=1)(hx:x%2=1)(h:(8:Int)∣a*(x*x)+(b*(y*y)+c*(z*z))):wx 2 (dg a b c):=fun n=>by
 obtain⟨x',h1,h2⟩:=EK ha hx h n
 refine⟨⟨x',y,z⟩,fun h=>?_,?_⟩
 ·have d:(2:Int)∣x':=h.1
  omega
 rw[iF,aeU]
 exact aah (qj (by omega)) h2
theorem Ic (P:Pl.rR a b c)(h:Pl.rS a b c):wx 2 (dg a b c):=by
 obtain⟨x,y,z,ho,h8⟩:=h
 have p2:=Jc.cI
 have d8:(8:Int)∣a*(x*x)+b*(y*y)+c*(z*z):=by
  rw[aaq,aaq,aaq] at h8
  omega
 have nab:¬ (a%2=0/\b%2=0):=fun h=>P.ab 2 p2 (by omega) (by omega)
 have nbc:¬ (b%2=0/\c%2=0):=fun h=>P.bc 2 p2 (by omega) (by omega)
 have nca:¬ (c%2=0/\a%2=0):=fun h=>P.ca 2 p2 (by omega) (by omega)
 have sa:a%4≠0:=fun h=>P.sa 2 p2 (by omega)
 have sb:b%4≠0:=fun h=>P.sb 2 p2 (by omega)
 have sc:c%4≠0:=fun h=>P.sc 2 p2 (by omega)
 have r1:a%2=1->x%2=1->wx 2 (dg a b c):=fun h1 h2=>qk (x:=x) (y:=y) (z:=z) h1 h2 (by rw[<- aeU];exact d8)
 have r2:b%2=1->y%2=1->wx 2 (dg a b c):=fun h1 h2=>uf (qk (x:=y) (y:=z) (z:=x) h1 h2 (by rw[show b*(y*y)+(c*(z*z)+a*(x*x))=a*(x*x)+b*(y*y)+c*(z*z) by omega];exact d8))
 have r3:c%2=1->z%2=1->wx 2 (dg a b c):=fun h1 h2=>uf (uf (qk (x:=z) (y:=x) (z:=y) h1 h2 (by rw[show c*(z*z)+(a*(x*x)+b*(y*y))=a*(x*x)+b*(y*y)+c*(z*z) by omega];exact d8)))
 by_cases c1:a%2=1/\x%2=1
 ·exact r1 c1.1 c1.2
 by_cases c2:b%2=1/\y%2=1
 ·exact r2 c2.1 c2.2
 by_cases c3:c%2=1/\z%2=1
 ·exact r3 c3.1 c3.2
 exfalso
 have sq:∀ w:Int,w%2=1->(w*w)%4=1:=fun w h=>by
  obtain⟨q,rfl⟩:∃ q,w=2*q+1:=⟨w / 2,by omega⟩
  have:(2*q+1)*(2*q+1)=4*(q*q+q)+1:=by grind
  rw[this];omega
 have ev:∀ k w:Int,¬ w%2=1->(k*(w*w))%4=0:=fun k w h=>by
  obtain⟨q,rfl⟩:∃ q,w=2*q:=⟨w / 2,by omega⟩
  have:k*(2*q*(2*q))=4*(k*(q*q)):=by grind
  rw[this];omega
 have od:∀ k w:Int,k%2=0->k%4≠0->w%2=1->(k*(w*w))%4=2:=fun k w h1 h2 h3=>by
  rw[abE,sq w h3]
  omega
 have d4:(a*(x*x)+b*(y*y)+c*(z*z))%4=0:=by omega
 rcases ho with h|h|h
 ·have ya:a%2=0:=by omega
  have e1:=od a x ya sa h
  have e2:=ev b y (fun z=>c2 ⟨by omega,z⟩)
  have e3:=ev c z (fun z=>c3 ⟨by omega,z⟩)
  generalize a*(x*x)=u1 at *
  generalize b*(y*y)=u2 at *
  generalize c*(z*z)=u3 at *
  omega
 ·have ya:b%2=0:=by omega
  have e1:=od b y ya sb h
  have e2:=ev a x (fun z=>c1 ⟨by omega,z⟩)
  have e3:=ev c z (fun z=>c3 ⟨by omega,z⟩)
  generalize a*(x*x)=u1 at *
  generalize b*(y*y)=u2 at *
  generalize c*(z*z)=u3 at *
  omega
 ·have ya:c%2=0:=by omega
  have e1:=od c z ya sc h
  have e2:=ev a x (fun z=>c1 ⟨by omega,z⟩)
  have e3:=ev b y (fun z=>c2 ⟨by omega,z⟩)
  generalize a*(x*x)=u1 at *
  generalize b*(y*y)=u2 at *
  generalize c*(z*z)=u3 at *
  omega
end
def Nz (u:P3):Prop:=u.x≠0\/u.y≠0\/u.z≠0
def V5 (F:F6):Prop:=(∀ u:P3,Nz u->0<wo F u)\/(∀ u:P3,Nz u->wo F u<0)
def Loc (F:F6)(x:Int):Prop:=(x=0/\V5 F)\/(x=2/\¬ wx 2 F)\/(aR x/\x≠2/\¬ wx x F)
section
variable {F:F6}{t:T3}{k a b c:Int}
theorem JN (ec:ch F t=⟨k*a,k*b,k*c,0,0,0⟩)(w:P3):wo F (tb t w)=k*wo (dg a b c) w:=by
 rw[<- Pg,ec,iF]
 simp only[wo]
 grind
theorem sq_pos {x:Int}(h:x≠0):0<x*x:=by
 rcases abw h with z|z
 ·exact acK z z
 ·exact acR z z
theorem EL (x:Int):0<=x*x:=by
 by_cases h:x=0
 ·rw[h];decide
 ·exact abx (sq_pos h)
theorem EM (ha:0<a)(hb:0<b)(hc:0<c){u:P3}(h:Nz u):0<wo (dg a b c) u:=by
 rw[iF]
 have x1:=acq (abx ha) (EL u.x)
 have y1:=acq (abx hb) (EL u.y)
 have z1:=acq (abx hc) (EL u.z)
 rcases h with h|h|h
 ·have:=acR ha (sq_pos h);omega
 ·have:=acR hb (sq_pos h);omega
 ·have:=acR hc (sq_pos h);omega
theorem JO {m:Int}(m0:m≠0){u:P3}(h:Nz u):Nz (tm m u):=by
 rcases h with h|h|h
 ·exact .inl (aay m0 h)
 ·exact .inr (.inl (aay m0 h))
 ·exact .inr (.inr (aay m0 h))
theorem wy {s:T3}{u:P3}(h:Nz (tb s u)):Nz u:=aaQ fun n=>by
 unfold Nz at n
 have hx:u.x=0:=by omega
 have hy:u.y=0:=by omega
 have hz:u.z=0:=by omega
 have e:∀ r:P3,rp r u=0:=fun r=>by unfold rp;rw[hx,hy,hz];omega
 rcases h with h|h|h
 ·exact h (e _)
 ·exact h (e _)
 ·exact h (e _)
theorem Ie (m0:me t≠0)(k0:k≠0)(P:Pl.rR a b c)(ec:ch F t=⟨k*a,k*b,k*c,0,0,0⟩):((a<0/\b<0/\c<0)\/(0<a/\0<b/\0<c))↔V5 F:=by
 have hF:=JN ec
 have back:∀ u:P3,Nz u->Nz (tb (tr (co t)) u)/\me t*me t*wo F u=k*wo (dg a b c) (tb (tr (co t)) u):=fun u h=>by
  have e:=hF (tb (tr (co t)) u)
  rw[lZ,ud] at e
  refine⟨wy (s:=t) ?_,e⟩
  rw[lZ]
  exact JO m0 h
 have mm:0<me t*me t:=sq_pos m0
 have ng:∀ u,wo (dg (-a) (-b) (-c)) u=-wo (dg a b c) u:=fun u=>by rw[iF,iF];grind
 constructor
 ·intro h
  have sgn:∀ u,Nz u->(0<a/\0<wo (dg a b c) u)\/(a<0/\wo (dg a b c) u<0):=fun u hu=>by
   rcases h with ⟨h1,h2,h3⟩|⟨h1,h2,h3⟩
   ·have:=EM (a:=-a) (b:=-b) (c:=-c) (by omega) (by omega) (by omega) hu
    rw[ng] at this
    exact .inr ⟨h1,by omega⟩
   ·exact .inl ⟨h1,EM h1 h2 h3 hu⟩
  have pos:∀ x:Int,0<me t*me t*x->0<x:=fun x h=>by
   rcases acF x 0 with z|z|z
   ·have:=abO mm z;omega
   ·rw[z,aaI] at h;omega
   ·exact z
  have neg:∀ x:Int,me t*me t*x<0->x<0:=fun x h=>by
   have:=pos (-x) (by rw[aeI];omega)
   omega
  rcases abw k0 with kz|kz<;>rcases abw P.a0 with az|az
  ·refine .inl fun u hu=>pos _ ?_
   obtain⟨n,e⟩:=back u hu
   rw[e]
   rcases sgn _ n with ⟨h1,h2⟩|⟨h1,h2⟩
   ·omega
   ·exact acK kz h2
  ·refine .inr fun u hu=>neg _ ?_
   obtain⟨n,e⟩:=back u hu
   rw[e]
   rcases sgn _ n with ⟨h1,h2⟩|⟨h1,h2⟩
   ·exact acL kz h2
   ·omega
  ·refine .inr fun u hu=>neg _ ?_
   obtain⟨n,e⟩:=back u hu
   rw[e]
   rcases sgn _ n with ⟨h1,h2⟩|⟨h1,h2⟩
   ·omega
   ·exact abO kz h2
  ·refine .inl fun u hu=>pos _ ?_
   obtain⟨n,e⟩:=back u hu
   rw[e]
   rcases sgn _ n with ⟨h1,h2⟩|⟨h1,h2⟩
   ·exact acR kz h2
   ·omega
 ·intro h
  have ax:∀ w:P3,Nz w->Nz (tb t w):=fun w hw=>by
   refine wy (s:=tr (co t)) ?_
   rw[ub]
   exact JO m0 hw
  have e1:wo F (tb t ⟨1,0,0⟩)=k*a:=by rw[hF,iF];grind
  have e2:wo F (tb t ⟨0,1,0⟩)=k*b:=by rw[hF,iF];grind
  have e3:wo F (tb t ⟨0,0,1⟩)=k*c:=by rw[hF,iF];grind
  have n1:=ax ⟨1,0,0⟩ (.inl (by decide))
  have n2:=ax ⟨0,1,0⟩ (.inr (.inl (by decide)))
  have n3:=ax ⟨0,0,1⟩ (.inr (.inr (by decide)))
  have pk:∀ x:Int,0<k*x->(0<k/\0<x)\/(k<0/\x<0):=fun x h=>by
   rcases abw k0 with z|z
   ·rcases acF x 0 with y|y|y
    ·exact .inr ⟨z,y⟩
    ·rw[y,aaI] at h;omega
    ·have:=acL z y;omega
   ·rcases acF x 0 with y|y|y
    ·have:=abO z y;omega
    ·rw[y,aaI] at h;omega
    ·exact .inl ⟨z,y⟩
  rcases h with h|h
  ·have a1:=pk _ (e1▸h _ n1)
   have a2:=pk _ (e2▸h _ n2)
   have a3:=pk _ (e3▸h _ n3)
   omega
  ·have f:∀ x:Int,k*x<0->(0<k/\0 < -x)\/(k<0/\-x<0):=fun x h=>pk (-x) (by rw[aeI];omega)
   have a1:=f _ (e1▸h _ n1)
   have a2:=f _ (e2▸h _ n2)
   have a3:=f _ (e3▸h _ n3)
   omega
theorem EN {p x:Int}(hp:aR p)(n2:p≠2)(nd:¬ p∣x):J x p=-1↔∀ r:Int,¬ p∣r*r-x:=by
 have po:=Jc.b9 hp n2
 have p2:=hp.two
 constructor
 ·intro h r hr
  have e:p=((p.toNat:Nat):Int):=by omega
  have:=Pl.HM (x:=x) (p:=p.toNat) (by rw[<- e];exact hp) (by omega) (by rw[<- e];exact nd) ⟨r,by rw[<- e];exact hr⟩
  rw[<- e,h] at this
  cases this
 ·intro h
  have u:=Jc.fj hp nd
  rcases Jc.D9 x p with e|e|e
  ·obtain⟨r,hr⟩:=oZ hp n2 e
   exact absurd hr (h r)
  ·rw[e] at u;cases u
  ·exact e
theorem mL (m0:me t≠0)(k0:k≠0)(P:Pl.rR a b c)(hF:∀ w,wo F (tb t w)=k*wo (dg a b c) w){p:Int}(hp:aR p)(n2:p≠2)(ha:p∣a):J (-(b*c)) p=-1↔¬ wx p F:=by
 have hb:=P.ab p hp ha
 have hc:¬ p∣c:=fun z=>P.ca p hp z ha
 have nd:¬ p∣-(b*c):=fun z=>by
  rcases Pr.euclid hp (abu.mp z) with z|z
  ·exact hb z
  ·exact hc z
 rw[EN hp n2 nd]
 constructor
 ·intro h
  exact EG hp m0 k0 hF (Ib hp n2 ha (P.sa p hp) hb hc h)
 ·intro h r hr
  exact h (yy hp m0 hF (EJ hp n2 ha hb hc hr))
theorem EO (hF:∀ w,wo F (tb t w)=k*wo (dg a b c) w):∃ t':T3,(me t≠0->me t'≠0)/\∀ w,wo F (tb t' w)=k*wo (dg b c a) w:=by
 refine⟨⟨⟨t.r0.y,t.r0.z,t.r0.x⟩,⟨t.r1.y,t.r1.z,t.r1.x⟩,⟨t.r2.y,t.r2.z,t.r2.x⟩⟩,fun h z=>h ?_,fun w=>?_⟩
 ·rw[<- z]
  simp only[me,rp,cr]
  grind
 ·have:=hF ⟨w.z,w.x,w.y⟩
  rw[iF] at this ⊢
  have e:tb t ⟨w.z,w.x,w.y⟩=tb ⟨⟨t.r0.y,t.r0.z,t.r0.x⟩,⟨t.r1.y,t.r1.z,t.r1.x⟩,⟨t.r2.y,t.r2.z,t.r2.x⟩⟩ w:=by
   simp only[tb,rp,P3.mk.injEq]
   refine⟨?_,?_,?_⟩<;>omega
  rw[<- e,this]
  show k*(a*(w.z*w.z)+b*(w.x*w.x)+c*(w.y*w.y))=_
  congr 1
  omega
theorem AG (m0:me t≠0)(k0:k≠0)(P:Pl.rR a b c)(ec:ch F t=⟨k*a,k*b,k*c,0,0,0⟩)(x:Int):mK a b c x↔Loc F x:=by
 have hF:=JN ec
 have two:¬ Pl.rS a b c↔¬ wx 2 F:=by
  constructor
  ·intro h
   exact EG Jc.cI m0 k0 hF (AF h)
  ·intro h z
   exact h (yy Jc.cI m0 hF (Ic P z))
 obtain⟨t1,m1,PD⟩:=EO hF
 obtain⟨t2,m2,V6⟩:=EO PD
 have T9:=m1 m0
 have V7:=m2 T9
 unfold mK Loc
 rw[Ie m0 k0 P ec,two]
 constructor
 ·rintro (h|h|⟨hp,n2,h⟩)
  ·exact .inl h
  ·exact .inr (.inl h)
  ·refine .inr (.inr ⟨hp,n2,?_⟩)
   rcases h with ⟨h1,h2⟩|⟨h1,h2⟩|⟨h1,h2⟩
   ·exact (mL m0 k0 P hF hp n2 h1).mp h2
   ·exact (mL T9 k0 P.Nw PD hp n2 h1).mp h2
   ·exact (mL V7 k0 P.Nw.Nw V6 hp n2 h1).mp h2
 ·rintro (h|h|⟨hp,n2,h⟩)
  ·exact .inl h
  ·exact .inr (.inl h)
  ·refine .inr (.inr ⟨hp,n2,?_⟩)
   by_cases h1:x∣a
   ·exact .inl ⟨h1,(mL m0 k0 P hF hp n2 h1).mpr h⟩
   by_cases h2:x∣b
   ·exact .inr (.inl ⟨h2,(mL T9 k0 P.Nw PD hp n2 h2).mpr h⟩)
   by_cases h3:x∣c
   ·exact .inr (.inr ⟨h3,(mL V7 k0 P.Nw.Nw V6 hp n2 h3).mpr h⟩)
   exact absurd (yy hp m0 hF (EI hp n2 h1 h2 h3)) h
theorem ER {x:Int}(h:Loc F x)(x0:x≠0)(x2:x≠2):aR x/\x∣sz F:=by
 rcases h with h|h|⟨hp,n2,h⟩
 ·exact absurd h.1 x0
 ·exact absurd h.1 x2
 ·refine⟨hp,aaQ fun z=>h fun n=>?_⟩
  obtain⟨u,h1,h2⟩:=zeros hp n2 z n
  exact⟨u,h1,aah (qj (abk n)) h2⟩
end
end Pn
namespace Jc
open Pr (aR)
structure Sf (n:Int):Prop where
 n0:n≠0
 sq:∀ p,aR p->¬ p*p∣n
section
variable {a b p x y z:Int}
end
theorem AH:∀ (m:Nat) (n:Int),n.natAbs<=m->2<=n->∃ p,aR p/\p∣n
 | 0,n,h,n2=>by omega
 | m+1,n,h,n2=>by
  by_cases c:∃ k,2<=k/\k*k<=n/\k∣n
  ·obtain⟨k,k2,kk,d⟩:=c
   have lt:k<n:=by
    have:=abj k2 (show 0<=k by omega)
    omega
   obtain⟨p,hp,hd⟩:=AH m k (by omega) k2
   exact⟨p,hp,aah hd d⟩
  ·exact⟨n,⟨n2,fun k k2 kk d=>c ⟨k,k2,kk,d⟩⟩,acx n⟩
end Jc
namespace Sh
theorem quot (x y:Int):x=y*Int.fdiv x y+Int.fmod x y:=by rw[aes];omega
structure Rows (x y a s t b u v:Int):Prop where
 up:a=s*x+t*y
 lo:b=u*x+v*y
 one:∃ p q,x=p*a+q*b
 two:∃ p q,y=p*a+q*b
theorem yA (x y:Int):Rows x y x 1 0 y 0 1:=⟨by omega,by omega,⟨1,0,by omega⟩,⟨0,1,by omega⟩⟩
theorem BK {x y a s t b u v:Int}(h:Rows x y a s t b u v)(q:Int):Rows x y b u v (a-q*b) (s-q*u) (t-q*v):=by
 obtain⟨h1,h2,⟨p1,q1,h3⟩,⟨p2,q2,h4⟩⟩:=h
 refine⟨h2,by grind,⟨p1*q+q1,p1,?_⟩,⟨p2*q+q2,p2,?_⟩⟩<;>grind
theorem ES {x y a s t b u v:Int}(h:Rows x y a s t b u v)(hb:b=0):a=s*x+t*y/\(∃ p,x=p*a)/\(∃ p,y=p*a):=by
 obtain⟨h1,h2,⟨p1,q1,h3⟩,⟨p2,q2,h4⟩⟩:=h
 subst hb
 exact⟨h1,⟨p1,by grind⟩,⟨p2,by grind⟩⟩
structure Sz (B a s t b u v:Int):Prop where
 a0:a.natAbs<=B.natAbs
 b0:b.natAbs<=B.natAbs
 s0:s.natAbs<=B.natAbs
 t0:t.natAbs<=B.natAbs
 u0:u.natAbs<=B.natAbs
 v0:v.natAbs<=B.natAbs
 way:(s=1/\t=0/\u=0/\v=1/\a.natAbs+2*b.natAbs<=B.natAbs) \/
  ((0<=a/\0<=b\/a<=0/\b<=0)/\s.natAbs*b.natAbs+u.natAbs*a.natAbs<=B.natAbs/\t.natAbs*b.natAbs+v.natAbs*a.natAbs<=B.natAbs)
theorem sQ {m n B:Nat}(h:m*n<=B)(hn:n≠0):m<=B:=aag (acX m (Nat.pos_of_ne_zero hn)) h
theorem wz {a b:Int}(hb:b≠0):(Int.fmod a b).natAbs<b.natAbs:=by
 rcases abw hb with h|h
 ·have h1:=aek (-a) (show 0 < -b by omega)
  have h2:=acr (-a) (show 0 < -b by omega)
  rw[Int.neg_fmod_neg] at h1 h2
  omega
 ·have h1:=aek a h
  have h2:=acr a h
  omega
theorem BL {a b:Int}(hb:b≠0):0<=b/\0<=Int.fmod a b\/b<=0/\Int.fmod a b<=0:=by
 rcases abw hb with h|h
 ·have h2:=acr (-a) (show 0 < -b by omega)
  rw[Int.neg_fmod_neg] at h2
  omega
 ·have h2:=acr a h
  omega
theorem wA (s q u:Int):(s-q*u).natAbs<=s.natAbs+q.natAbs*u.natAbs:=by
 have:=Int.natAbs_sub_le s (q*u)
 rw[aaC] at this
 exact this
theorem wB {s u a b q r:Int}(hq:(q*b).natAbs+r.natAbs<=a.natAbs):u.natAbs*r.natAbs+(s-q*u).natAbs*b.natAbs<=s.natAbs*b.natAbs+u.natAbs*a.natAbs:=by
 have h1:=acG b.natAbs (wA s q u)
 have h2:=acg u.natAbs hq
 rw[aaC] at h2
 rw[Nat.add_mul] at h1
 rw[adM] at h2
 have e:q.natAbs*u.natAbs*b.natAbs=u.natAbs*(q.natAbs*b.natAbs):=by
  rw[adt q.natAbs,adL]
 omega
theorem ET {x y:Int}:Sz ((x.natAbs:Int)+2*y.natAbs+1) x 1 0 y 0 1:=by
 refine⟨by omega,by omega,by omega,by omega,by omega,by omega,.inl ⟨rfl,rfl,rfl,rfl,by omega⟩⟩
theorem Ig {B a s t b u v:Int}(h:Sz B a s t b u v)(hb:b≠0)(q r:Int)(hq:a=b*q+r)(hr:r=Int.fmod a b) :
  Sz B b u v r (s-q*u) (t-q*v):=by
 have ra:r.natAbs<b.natAbs:=hr▸wz hb
 have rs:0<=b/\0<=r\/b<=0/\r<=0:=hr▸BL hb
 have eq:q*b=a-r:=by rw[aao];omega
 rcases h.way with ⟨rfl,rfl,rfl,rfl,h1⟩|⟨hs,h1,h2⟩
 ·have yd:(q*b).natAbs<=a.natAbs+r.natAbs:=by rw[eq];omega
  have hqb:q.natAbs<=(q*b).natAbs:=by
   rw[aaC]
   exact acX _ (by omega)
  have e1:(1-q*0).natAbs=1:=by rw[aaI];rfl
  have e2:(0-q*1).natAbs=q.natAbs:=by rw[abl];omega
  have b0:=h.b0
  refine⟨h.b0,by omega,h.u0,h.v0,by rw[e1];omega,by rw[e2];omega,.inr ⟨rs,?_,?_⟩⟩
  ·rw[e1];simp;omega
  ·have e3:q.natAbs*b.natAbs=(q*b).natAbs:=(aaC q b).symm
   have e4:(1:Int).natAbs*r.natAbs=r.natAbs:=by rw[show (1:Int).natAbs=1 from rfl,adJ]
   rw[e2,e3,e4]
   omega
 ·have yd:(q*b).natAbs+r.natAbs<=a.natAbs:=by
   have q0:0<=q:=by
    rcases (show 0<=q\/q<=-1 by omega) with h0|h0
    ·exact h0
    ·exfalso
     rcases (show 0<b\/b<0 by omega) with yc|yc
     ·have:=aaK h0 (abx yc)
      omega
     ·have:=aaK h0 (show 0<=-b by omega)
      rw[acQ,acQ] at this
      omega
   rcases (show 0<b\/b<0 by omega) with yc|yc
   ·have:=acq q0 (abx yc)
    omega
   ·have:=acq q0 (show 0<=-b by omega)
    rw[aeI] at this
    omega
  have k1:=wB (s:=s) (u:=u) yd
  have k2:=wB (s:=t) (u:=v) yd
  refine⟨h.b0,by have:=h.b0;omega,h.u0,h.v0,?_,?_,.inr ⟨rs,by omega,by omega⟩⟩
  ·exact sQ (n:=b.natAbs) (by omega) (by omega)
  ·exact sQ (n:=b.natAbs) (by omega) (by omega)
end Sh
namespace Pn
open Sm Lw
def vF (P:P3):Bool:=decide (P.x≠0) || (decide (P.y≠0) || decide (P.z≠0))
theorem ug {P:P3}:vF P=true↔N3 P:=by
 unfold vF N3
 simp
def GO (ls os:List P3):List P3:=ls.flatMap fun l=>os.map (cr l)
def gz:List P3:=[⟨1,0,0⟩,⟨0,1,0⟩,⟨0,0,1⟩]
def EU (Q:F6):List P3:=[(sl Q).r0,(sl Q).r1,(sl Q).r2]
def Ih (Q:F6):List P3:=GO (EU Q) (EU Q)++GO (EU Q) gz++GO gz gz
theorem uh {l:List P3}(h:l.filter vF=[]){P:P3}(hP:P∈l):P=⟨0,0,0⟩:=by
 refine t9 fun n=>?_
 have:P∈l.filter vF:=abQ.mpr ⟨hP,ug.mpr n⟩
 rw[h] at this
 cases this
theorem AI {l m:List P3}{v:P3}(h:((l++m).filter vF).head?=some v):v∈l.filter vF\/(l.filter vF=[]/\(m.filter vF).head?=some v):=by
 rw[acZ] at h
 cases e:l.filter vF with
 | nil=>
  rw[e] at h
  exact .inr ⟨rfl,h⟩
 | cons a t=>
  rw[e] at h
  have:a=v:=aac h
  subst this
  exact .inl (aaR ..)
theorem fL {ls os:List P3}{v:P3}:v∈GO ls os↔∃ l∈ls,∃ o∈os,cr l o=v:=by
 unfold GO
 simp[adb]
theorem yB {Q:F6}{v:P3}(h:∀ l∈EU Q,rp l v=0):tb (sl Q) v=⟨0,0,0⟩:=by
 unfold EU at h
 simp only[tb,P3.mk.injEq]
 exact⟨h _ (by simp),h _ (by simp),h _ (by simp)⟩
theorem BM {Q:F6}(hs:sz Q=0):∀ k∈EU Q,∀ l∈EU Q,∀ m∈EU Q,rp k (cr l m)=0:=by
 have d:me (sl Q)=2*sz Q:=by
  simp only[me,sl,cr,rp,sz]
  grind
 rw[hs] at d
 unfold me at d
 unfold EU
 generalize (sl Q).r0=a at *
 generalize (sl Q).r1=b at *
 generalize (sl Q).r2=c at *
 simp only[rp,cr] at d
 intro k hk l hl m hm
 simp only[aaf,aaF,abN] at hk hl hm
 simp only[rp,cr]
 rcases hk with rfl|rfl|rfl<;>rcases hl with rfl|rfl|rfl<;>rcases hm with rfl|rfl|rfl<;>grind
theorem Ua {Q:F6}(hs:sz Q=0){v:P3}(h:((Ih Q).filter vF).head?=some v):N3 v/\tb (sl Q) v=⟨0,0,0⟩:=by
 have nv:N3 v:=by
  have:v∈(Ih Q).filter vF:=List.mem_of_head? h
  exact ug.mp (abQ.mp this).2
 refine⟨nv,?_⟩
 unfold Ih at h
 rw[adH] at h
 rcases AI h with h|⟨z1,h⟩
 ·obtain⟨l,hl,o,ho,rfl⟩:=fL.mp (abQ.mp h).1
  exact yB fun k hk=>BM hs k hk l hl o ho
 rcases AI h with h|⟨z2,h⟩
 ·obtain⟨l,hl,o,ho,rfl⟩:=fL.mp (abQ.mp h).1
  refine yB fun k hk=>?_
  have z:=uh z1 (fL.mpr ⟨k,hk,l,hl,rfl⟩)
  have e:rp k (cr l o)=rp (cr k l) o:=by
   simp only[rp,cr]
   grind
  rw[e,z]
  simp[rp]
 ·refine yB fun k hk=>?_
  have a1:=uh z2 (fL.mpr ⟨k,hk,⟨1,0,0⟩,by simp[gz],rfl⟩)
  have a2:=uh z2 (fL.mpr ⟨k,hk,⟨0,1,0⟩,by simp[gz],rfl⟩)
  simp only[cr,P3.mk.injEq] at a1 a2
  have x0:k.x=0:=by omega
  have y0:k.y=0:=by omega
  have z0:k.z=0:=by omega
  simp[rp,x0,y0,z0]
theorem Ii (Q:F6):∃ v,((Ih Q).filter vF).head?=some v:=by
 cases e:(Ih Q).filter vF with
 | nil=>
  have:=uh e (P:=⟨0,0,1⟩) (by
   unfold Ih
   exact aa9.mpr (.inr (fL.mpr ⟨⟨1,0,0⟩,by simp[gz],⟨0,1,0⟩,by simp[gz],rfl⟩)))
  simp at this
 | cons a t=>exact⟨a,rfl⟩
theorem PF {Q:F6}{k:Nat}(h:BF k Q){v:P3}(hv:v∈Ih Q):BP (2*k+3) v:=by
 have bc:∀ {j i:Nat}{r s:P3},BP j r->BP i s->BP (j+i+1) (cr r s):=fun h p=>⟨(h.y.mul p.z).sub (h.z.mul p.y),(h.z.mul p.x).sub (h.x.mul p.z),(h.x.mul p.y).sub (h.y.mul p.x)⟩
 have b2:∀ {x:Int},Bd k x->Bd (k+1) (2*x):=fun {x} h=>by
  have:=h.add h
  rw[show x+x=2*x by omega] at this
  exact this
 have bs:∀ l∈EU Q,BP (k+1) l:=fun l hl=>by
  unfold EU sl at hl
  simp only[aaf,aaF,abN] at hl
  rcases hl with rfl|rfl|rfl
  ·exact⟨b2 h.a,h.f.mono (by omega),h.e.mono (by omega)⟩
  ·exact⟨h.f.mono (by omega),b2 h.b,h.d.mono (by omega)⟩
  ·exact⟨h.e.mono (by omega),h.d.mono (by omega),b2 h.c⟩
 have b0:Bd 0 0:=by unfold Bd;decide
 have b1:Bd 0 1:=by unfold Bd;decide
 have ba:∀ l∈gz,BP 0 l:=fun l hl=>by
  unfold gz at hl
  simp only[aaf,aaF,abN] at hl
  rcases hl with rfl|rfl|rfl
  ·exact⟨b1,b0,b0⟩
  ·exact⟨b0,b1,b0⟩
  ·exact⟨b0,b0,b1⟩
 unfold Ih at hv
 rcases aa9.mp hv with hv|hv
 ·rcases aa9.mp hv with hv|hv
  ·obtain⟨l,hl,o,ho,rfl⟩:=fL.mp hv
   exact (bc (bs l hl) (bs o ho)).mono (by omega)
  ·obtain⟨l,hl,o,ho,rfl⟩:=fL.mp hv
   exact (bc (bs l hl) (ba o ho)).mono (by omega)
 ·obtain⟨l,hl,o,ho,rfl⟩:=fL.mp hv
  exact (bc (ba l hl) (ba o ho)).mono (by omega)
theorem PH (Q:F6)(t:T3):sl (ch Q t)=pt (tr t) (pt (sl Q) t):=by
 simp only[sl,ch,wo,bl,tb,tr,pt,rp,T3.mk.injEq,P3.mk.injEq]
 refine⟨⟨?_,?_,?_⟩,⟨?_,?_,?_⟩,⟨?_,?_,?_⟩⟩<;>grind
theorem EV (t:T3):me (tr t)=me t:=by
 simp only[me,tr,cr,rp]
 grind
theorem JP (Q:F6):me (sl Q)=2*sz Q:=by
 simp only[me,sl,cr,rp,sz]
 grind
theorem PJ (Q:F6)(t:T3):sz (ch Q t)=sz Q*me t*me t:=by
 have h:=JP (ch Q t)
 rw[PH,JK,JK,JP,EV] at h
 have:me t*(2*sz Q*me t)=2*(sz Q*me t*me t):=by grind
 omega
def k9 (ps:List P3):List P3:=ps++ps.flatMap fun a=>ps.map (ad a)
theorem l7 {Q:F6}{ps:List P3}(h:∀ v∈k9 ps,wo Q v=0){a b:P3}(ha:a∈ps)(hb:b∈ps):wo Q a=0/\wo Q b=0/\bl Q a b=0:=by
 have h1:=h a (adf _ ha)
 have h2:=h b (adf _ hb)
 have h3:=h (ad a b) (aam _ (adb.mpr ⟨a,ha,abb.mpr ⟨b,hb,rfl⟩⟩))
 have h4:=Pm Q a b
 exact⟨h1,h2,by omega⟩
theorem EW {Q:F6}{ps:List P3}(h:¬ ∀ v∈k9 ps,wo Q v=0):∃ v∈k9 ps,wo Q v≠0:=by
 apply aaQ
 intro c
 exact h fun v hv=>aaQ fun n=>c ⟨v,hv,n⟩
theorem EX {Q:F6}(hs:sz Q≠0):∃ v∈k9 gz,wo Q v≠0:=by
 refine EW fun h=>hs ?_
 have m1:(⟨1,0,0⟩:P3)∈gz:=by simp[gz]
 have m2:(⟨0,1,0⟩:P3)∈gz:=by simp[gz]
 have m3:(⟨0,0,1⟩:P3)∈gz:=by simp[gz]
 obtain⟨a1,a2,a3⟩:=l7 h m1 m2
 obtain⟨_,b2,b3⟩:=l7 h m1 m3
 obtain⟨_,_,c3⟩:=l7 h m2 m3
 simp only[wo,bl,tb,sl,rp] at a1 a2 a3 b2 b3 c3
 have e1:Q.a=0:=by omega
 have e2:Q.b=0:=by omega
 have e3:Q.c=0:=by omega
 have e4:Q.d=0:=by omega
 have e5:Q.e=0:=by omega
 have e6:Q.f=0:=by omega
 simp[sz,e1,e2,e3,e4,e5,e6]
theorem PK (l a b:P3):cr (cr l a) (cr l b)=tm (rp l (cr a b)) l:=by
 simp only[cr,tm,rp,P3.mk.injEq]
 refine⟨?_,?_,?_⟩<;>grind
theorem EY {Q:F6}{l:P3}(hs:sz Q≠0)(nl:N3 l):∃ v∈k9 (gz.map (cr l)),wo Q v≠0:=by
 refine EW fun h=>?_
 have key:∀ a∈gz,∀ b∈gz,rp l (cr a b)=0:=fun a ha b hb=>by
  apply aaQ
  intro c
  obtain⟨h1,h2,h3⟩:=l7 h (abb.mpr ⟨a,ha,rfl⟩) (abb.mpr ⟨b,hb,rfl⟩)
  refine HX hs (P:=cr l a) (D:=cr l b) ?_ h1 h2 h3
  rw[PK]
  rcases nl with n|n|n
  ·exact .inl (aay c n)
  ·exact .inr (.inl (aay c n))
  ·exact .inr (.inr (aay c n))
 have m1:(⟨1,0,0⟩:P3)∈gz:=by simp[gz]
 have m2:(⟨0,1,0⟩:P3)∈gz:=by simp[gz]
 have m3:(⟨0,0,1⟩:P3)∈gz:=by simp[gz]
 have k1:=key _ m1 _ m2
 have k2:=key _ m1 _ m3
 have k3:=key _ m2 _ m3
 simp only[cr,rp] at k1 k2 k3
 unfold N3 at nl
 omega
theorem Ij {l v:P3}(h:v∈k9 (gz.map (cr l))):rp l v=0:=by
 have e:∀ a:P3,rp l (cr l a)=0:=fun a=>by
  simp only[rp,cr]
  grind
 have e2:∀ a b:P3,rp l (ad a b)=rp l a+rp l b:=fun a b=>by
  simp only[rp,ad]
  grind
 rcases aa9.mp h with h|h
 ·obtain⟨a,_,rfl⟩:=abb.mp h
  exact e a
 ·obtain⟨x,hx,h⟩:=adb.mp h
  obtain⟨y,hy,rfl⟩:=abb.mp h
  obtain⟨a,_,rfl⟩:=abb.mp hx
  obtain⟨b,_,rfl⟩:=abb.mp hy
  rw[e2,e,e]
  rfl
structure PL (Q:F6)(P R S:P3):Prop where
 w1:wo Q P≠0
 w2:wo Q R≠0
 w3:wo Q S≠0
 Ub:bl Q P R=0
 RK:bl Q P S=0
 RL:bl Q R S=0
 Yc:me ⟨P,R,S⟩≠0
 prod:4*(wo Q P*wo Q R*wo Q S)=sz Q*me ⟨P,R,S⟩*me ⟨P,R,S⟩
theorem AJ {Q:F6}{P:P3}(w:wo Q P≠0):N3 (tb (sl Q) P):=by
 apply aaQ
 intro c
 have z:=iW Q P
 unfold bl at z
 rw[t9 c] at z
 simp only[rp] at z
 omega
theorem EZ {Q:F6}{P R:P3}(w1:wo Q P≠0)(w2:wo Q R≠0)(h:bl Q P R=0):N3 (cr (tb (sl Q) P) (tb (sl Q) R)):=by
 apply aaQ
 intro c
 have c0:=t9 c
 have l1:=AJ w1
 have z:=iW Q R
 unfold bl at z h
 generalize tb (sl Q) P=l at *
 generalize tb (sl Q) R=k at *
 simp only[cr,P3.mk.injEq] at c0
 obtain⟨c1,c2,c3⟩:=c0
 simp only[rp] at z h
 have e:∀ x:Int,(x=l.x\/x=l.y\/x=l.z)->x*(2*wo Q R)=0:=fun x hx=>by
  rw[<- z]
  rcases hx with rfl|rfl|rfl<;>grind
 rcases l1 with n|n|n
 ·exact w2 (by have:=aQ (e _ (.inl rfl)) n;omega)
 ·exact w2 (by have:=aQ (e _ (.inr (.inl rfl))) n;omega)
 ·exact w2 (by have:=aQ (e _ (.inr (.inr rfl))) n;omega)
theorem Mf {Q:F6}{P R S:P3}{d:Int}(hs:sz Q≠0)(w1:wo Q P≠0)(w2:wo Q R≠0)(h:bl Q P R=0)(hd:d≠0)(e:cr (tb (sl Q) P) (tb (sl Q) R)=tm d S):PL Q P R S:=by
 have RK:bl Q P S=0:=by
  have z:rp (tb (sl Q) P) (tm d S)=0:=by
   rw[<- e]
   simp only[rp,cr]
   grind
  have z2:rp (tb (sl Q) P) (tm d S)=d*bl Q P S:=by
   unfold bl
   generalize tb (sl Q) P=l
   simp only[rp,tm]
   grind
  rw[z2] at z
  exact aQ z hd
 have RL:bl Q R S=0:=by
  have z:rp (tb (sl Q) R) (tm d S)=0:=by
   rw[<- e]
   simp only[rp,cr]
   grind
  have z2:rp (tb (sl Q) R) (tm d S)=d*bl Q R S:=by
   unfold bl
   generalize tb (sl Q) R=l
   simp only[rp,tm]
   grind
  rw[z2] at z
  exact aQ z hd
 have dm:d*me ⟨P,R,S⟩=4*(wo Q P*wo Q R):=by
  have h1:d*me ⟨P,R,S⟩=rp P (cr R (tm d S)):=by
   simp only[me,rp,cr,tm]
   grind
  have hp:=iW Q P
  have hr:=iW Q R
  rw[h1,<- e]
  unfold bl at h hp hr
  generalize tb (sl Q) P=l at *
  generalize tb (sl Q) R=k at *
  generalize wo Q P=wp at *
  generalize wo Q R=wr at *
  have h2:rp P (cr R (cr l k))=rp l P*rp k R-rp k P*rp l R:=by
   simp only[rp,cr]
   grind
  rw[h2,h,hp,hr]
  grind
 have m0:me ⟨P,R,S⟩≠0:=fun z=>by
  rw[z,aaI] at dm
  have:=aay w1 w2
  omega
 have pr:4*(wo Q P*wo Q R*wo Q S)=sz Q*me ⟨P,R,S⟩*me ⟨P,R,S⟩:=by
  have z:=PJ Q (tr ⟨P,R,S⟩)
  rw[EV] at z
  rw[<- z,show ch Q (tr ⟨P,R,S⟩)=⟨wo Q P,wo Q R,wo Q S,bl Q R S,bl Q P S,bl Q P R⟩ from rfl,h,RK,RL]
  simp only[sz]
  grind
 refine⟨w1,w2,fun z=>?_,h,RK,RL,m0,pr⟩
 rw[z,aaI,aaI] at pr
 rcases ab5.mp pr.symm with y|y
 ·rcases ab5.mp y with x|x
  ·exact hs x
  ·exact m0 x
 ·exact m0 y
end Pn
namespace Jc
open Pr (aR)
theorem mM {c n:Int}(h:Sf c)(k:∀ p,aR p->p∣c->p∣n):c∣n:=by
 have g0:(Int.gcd c n:Int)∣c:=aeA ..
 have g1:(Int.gcd c n:Int)∣n:=aen ..
 have gn:(Int.gcd c n:Int)≠0:=fun z=>h.n0 (by rw[z] at g0;exact ae4.mp g0)
 have gm:∀ p:Int,p∣c->p∣n->p∣(Int.gcd c n:Int):=fun p h1 h2=>aeJ h1 h2
 generalize (Int.gcd c n:Int)=g at *
 obtain⟨c',e⟩:=g0
 have u:c'.natAbs=1:=by
  rcases (show c'.natAbs=1\/c'=0\/2<=(c'.natAbs:Int) by omega) with z|z|z
  ·exact z
  ·exact absurd (by rw[e,z,aaI]) h.n0
  ·obtain⟨p,hp,hd⟩:=AH c'.natAbs (c'.natAbs:Int) (by omega) z
   have Nf:p∣c':=aee.mp hd
   have pc:p∣c:=by rw[e];exact aah Nf (aaw _ _)
   have pg:=gm p pc (k p hp pc)
   exact absurd (by rw[e];exact ace pg Nf) (h.sq p hp)
 have:c∣g:=by
  rcases (show c'=1\/c'=-1 by omega) with z|z
  ·rw[e,z,abl];exact acx g
  ·rw[e,z];exact⟨-1,by omega⟩
 exact aah this g1
theorem E1 {c d:Int}(h:Sf c)(k:d∣c):Sf d:=⟨fun z=>h.n0 (by rw[z] at k;exact ae4.mp k),fun p hp q=>h.sq p hp (aah q k)⟩
theorem Mg {A Y:Int}(h:A*A∣Y*Y):A∣Y:=by
 have h1:=aa6.mpr h
 rw[aaC,aaC] at h1
 have h2:A.natAbs^2∣Y.natAbs^2:=by rw[Nat.pow_two,Nat.pow_two];exact h1
 exact aa6.mp ((Nat.pow_dvd_pow_iff (by decide)).mp h2)
theorem Ik {n A c B:Int}(A0:A≠0)(sc:Sf c)(e:n*(A*A)=c*(B*B)):∃ r:Int,0<=r/\n=c*(r*r):=by
 have c0:=sc.n0
 have d1:A∣c*B:=Mg ⟨n*c,by grind⟩
 obtain⟨m,em⟩:=d1
 have e2:n*c=m*m:=by
  have:A*A*(n*c)=A*A*(m*m):=by grind
  exact aaP (aay A0 A0) this
 have d2:c∣m:=mM sc fun p hp hd=>by
  have:p∣m*m:=by rw[<- e2];exact aah hd (aaw _ _)
  exact (Pr.euclid hp this).elim id id
 obtain⟨r,er⟩:=d2
 refine⟨(r.natAbs:Int),by omega,?_⟩
 have e3:(r.natAbs:Int)*(r.natAbs:Int)=r*r:=Int.natAbs_mul_self' r
 rw[e3]
 rw[er] at e2
 have:c*n=c*(c*(r*r)):=by grind
 exact aaP c0 this
structure Gr (g a b:Int):Prop where
 pos:1<=g
 da:g∣a
 db:g∣b
 all:∀ p,aR p->p∣a->p∣b->p∣g
theorem PQ {g a b s t:Int}(a0:a≠0)(g0:0<=g)(e:g=s*a+t*b)(h1:∃ k,a=k*g)(h2:∃ k,b=k*g):Gr g a b:=by
 obtain⟨k1,e1⟩:=h1
 obtain⟨k2,e2⟩:=h2
 refine⟨?_,⟨k1,by rw[aao];exact e1⟩,⟨k2,by rw[aao];exact e2⟩,fun p hp x y=>?_⟩
 ·rcases (show g=0\/1<=g by omega) with z|z
  ·exact absurd (by rw[e1,z,aaI]) a0
  ·exact z
 ·rw[e]
  exact acS (aah x (aaw _ _)) (aah y (aaw _ _))
theorem km {p a b:Int}(hp:aR p)(h:p*p∣a*b)(nb:¬ p∣b):p*p∣a:=by
 have p0:p≠0:=by have:=hp.two;omega
 have h1:p∣a:=(Pr.euclid hp (aah (aaw p p) h)).resolve_right nb
 obtain⟨a',rfl⟩:=h1
 have h2:p∣a'*b:=by
  rw[aaq] at h
  exact abK p0 h
 exact ace (acx p) ((Pr.euclid hp h2).resolve_right nb)
theorem PR {a b g a' b':Int}(sa:Sf a)(sb:Sf b)(G:Gr g a b)(ea:a=g*a')(eb:b=g*b'):Sf (a'*b'):=by
 have a0:a'≠0:=fun z=>sa.n0 (by rw[ea,z,aaI])
 have b0:b'≠0:=fun z=>sb.n0 (by rw[eb,z,aaI])
 have da:a'∣a:=⟨g,by rw[ea,aao]⟩
 have db:b'∣b:=⟨g,by rw[eb,aao]⟩
 refine⟨aay a0 b0,fun p hp h=>?_⟩
 have no:¬ (p∣a'/\p∣b'):=fun ⟨x,y⟩=>by
  have pg:=G.all p hp (aah x da) (aah y db)
  exact sa.sq p hp (by rw[ea];exact ace pg x)
 by_cases nb:p∣b'
 ·have na:¬ p∣a':=fun z=>no ⟨z,nb⟩
  rw[aao a' b'] at h
  exact sb.sq p hp (aah (km hp h na) db)
 ·exact sa.sq p hp (aah (km hp h nb) da)
theorem ui {c1 c2 c3 g1 g2 g3:Int}(s1:Sf c1)(G1:Gr g1 c2 c3)(G2:Gr g2 c3 c1)(G3:Gr g3 c1 c2):g2*g3∣c1*g1:=by
 obtain⟨u,eu⟩:=G3.da
 have Yd:Sf g2:=E1 s1 G2.db
 have d:g2∣u*g1:=mM Yd fun p hp hd=>by
  have h3:=aah hd G2.da
  have h1:=aah hd G2.db
  by_cases c:p∣c2
  ·exact aah (G1.all p hp c h3) (aaw _ _)
  ·have ng:¬ p∣g3:=fun z=>c (aah z G3.db)
   rw[eu] at h1
   exact aah ((Pr.euclid hp h1).resolve_left ng) (aa7 _ _)
 rw[eu]
 obtain⟨v,ev⟩:=d
 exact⟨v,by grind⟩
theorem kn {c1 c2 c3 g1 g2 g3 q p:Int}(s1:Sf c1)(s2:Sf c2)(G1:Gr g1 c2 c3)(G2:Gr g2 c3 c1)(G3:Gr g3 c1 c2)(e:c1*g1=q*(g2*g3))(hp:aR p)(hd:p∣q) :
  ((p∣c1/\¬ p∣c2/\¬ p∣c3)\/(¬ p∣c1/\p∣c2/\p∣c3))/\¬ p*p∣q:=by
 have p0:p≠0:=by have:=hp.two;omega
 have V8:Sf g1:=E1 s2 G1.da
 have Uc:¬ p∣c1\/(¬ p∣c2/\¬ p∣c3):=by
  by_cases h1:p∣c1
  ·refine .inr ?_
   -- p in c1: then not in g2,not in g3
   have both:¬ (p∣c2/\p∣c3):=fun ⟨h2,h3⟩=>by
    have k2:=G2.all p hp h3 h1
    have k3:=G3.all p hp h1 h2
    have V9:p*(p*p)∣c1*g1:=by rw[e];exact ace hd (ace k2 k3)
    obtain⟨x,ex⟩:=h1
    rw[ex,aaq] at V9
    have z:=abK p0 V9
    have nx:¬ p∣x:=fun y=>s1.sq p hp (by rw[ex];exact ace (acx p) y)
    rw[aao x g1] at z
    exact V8.sq p hp (km hp z nx)
   have one:∀ {g:Int},p∣g->p∣g2*g3->¬ p∣g1->False:=fun _ k ng=>by
    have Ud:p*p∣c1*g1:=by rw[e];exact ace hd k
    exact s1.sq p hp (km hp Ud ng)
   refine⟨fun h2=>?_,fun h3=>?_⟩
   ·have h3:¬ p∣c3:=fun z=>both ⟨h2,z⟩
    have k3:=G3.all p hp h1 h2
    exact one k3 (aah k3 (aaw _ _)) fun z=>h3 (aah z G1.db)
   ·have h2:¬ p∣c2:=fun z=>both ⟨z,h3⟩
    have k2:=G2.all p hp h3 h1
    exact one k2 (aah k2 (aa7 _ _)) fun z=>h2 (aah z G1.da)
  ·exact .inl h1
 have dc:p∣c1*g1:=by rw[e];exact aah hd (aa7 _ _)
 have way:(p∣c1/\¬ p∣c2/\¬ p∣c3)\/(¬ p∣c1/\p∣c2/\p∣c3):=by
  rcases Uc with n|n
  ·have:=(Pr.euclid hp dc).resolve_left n
   exact .inr ⟨n,aah this G1.da,aah this G1.db⟩
  ·by_cases h1:p∣c1
   ·exact .inl ⟨h1,n⟩
   ·have:=(Pr.euclid hp dc).resolve_left h1
    exact absurd (aah this G1.da) n.1
 refine⟨way,fun h=>?_⟩
 have h':p*p∣c1*g1:=by rw[e];exact aah h (aa7 _ _)
 rcases way with ⟨_,n2,_⟩|⟨n1,_,_⟩
 ·exact s1.sq p hp (km hp h' fun z=>n2 (aah z G1.da))
 ·rw[aao c1 g1] at h'
  exact V8.sq p hp (km hp h' n1)
theorem AK {c1 c2 c3 g1 g2 g3 q1 q2 q3:Int}(s1:Sf c1)(s2:Sf c2)(s3:Sf c3)(G1:Gr g1 c2 c3)(G2:Gr g2 c3 c1)(G3:Gr g3 c1 c2)
  (e1:c1*g1=q1*(g2*g3)) (e2:c2*g2=q2*(g3*g1)) (e3:c3*g3=q3*(g1*g2)):Pl.rR q1 q2 q3:=by
 have Ye:=G1.pos
 have Yf:=G2.pos
 have Yg:=G3.pos
 have z:∀ {c g q m:Int},c≠0->1<=g->c*g=q*m->q≠0:=fun {c g q m} hc hg e hq=>by
  rw[hq,ae3] at e
  exact aay hc (by omega) e
 have t1:∀ {p:Int},aR p->p∣q1->_:=fun hp hd=>kn s1 s2 G1 G2 G3 e1 hp hd
 have t2:∀ {p:Int},aR p->p∣q2->_:=fun hp hd=>kn s2 s3 G2 G3 G1 e2 hp hd
 have t3:∀ {p:Int},aR p->p∣q3->_:=fun hp hd=>kn s3 s1 G3 G1 G2 e3 hp hd
 refine⟨z s1.n0 Ye e1,z s2.n0 Yf e2,z s3.n0 Yg e3,fun p hp h=>(t1 hp (aah (aaw p p) h)).2 h,fun p hp h=>(t2 hp (aah (aaw p p) h)).2 h,fun p hp h=>(t3 hp (aah (aaw p p) h)).2 h,fun p hp a b=>?_,fun p hp a b=>?_,fun p hp a b=>?_⟩
 ·rcases (t1 hp a).1 with ⟨x,y,w⟩|⟨x,y,w⟩<;>rcases (t2 hp b).1 with ⟨x',y',w'⟩|⟨x',y',w'⟩<;>simp_all
 ·rcases (t2 hp a).1 with ⟨x,y,w⟩|⟨x,y,w⟩<;>rcases (t3 hp b).1 with ⟨x',y',w'⟩|⟨x',y',w'⟩<;>simp_all
 ·rcases (t3 hp a).1 with ⟨x,y,w⟩|⟨x,y,w⟩<;>rcases (t1 hp b).1 with ⟨x',y',w'⟩|⟨x',y',w'⟩<;>simp_all
theorem E3 {w1 w2 w3 c1 c2 c3 r1 r2 r3 g1 g2 g3 q1 q2 q3 L s1 s2 s3:Int}(P:Pl.rR q1 q2 q3)(mG:w1≠0)(E4:w2≠0)(Yh:w3≠0)(h1:w1=c1*(r1*r1))(h2:w2=c2*(r2*r2))(h3:w3=c3*(r3*r3))
  (Mh:g1≠0) (e1:c1*g1=q1*(g2*g3)) (e2:c2*g2=q2*(g3*g1)) (e3:c3*g3=q3*(g1*g2)) (L0:L≠0) (l1:g1*r2*r3=L*s1) (l2:g2*r3*r1=L*s2) (l3:g3*r1*r2=L*s3) :
  ∃ k:Int,k≠0/\s1≠0/\w1*s1*s1=k*q1/\w2*s2*s2=k*q2/\w3*s3*s3=k*q3:=by
 have LL:=aay L0 L0
 have x1:L*L*(w1*s1*s1)=q1*(g1*g2*g3*(r1*r2*r3)*(r1*r2*r3)):=by
  have:L*L*(w1*s1*s1)=c1*g1*(g1*(r1*r2*r3)*(r1*r2*r3)):=by
   have:L*L*(w1*s1*s1)=w1*(L*s1)*(L*s1):=by grind
   rw[this,<- l1,h1]
   grind
  rw[this,e1]
  grind
 have x2:L*L*(w2*s2*s2)=q2*(g1*g2*g3*(r1*r2*r3)*(r1*r2*r3)):=by
  have:L*L*(w2*s2*s2)=c2*g2*(g2*(r1*r2*r3)*(r1*r2*r3)):=by
   have:L*L*(w2*s2*s2)=w2*(L*s2)*(L*s2):=by grind
   rw[this,<- l2,h2]
   grind
  rw[this,e2]
  grind
 have x3:L*L*(w3*s3*s3)=q3*(g1*g2*g3*(r1*r2*r3)*(r1*r2*r3)):=by
  have:L*L*(w3*s3*s3)=c3*g3*(g3*(r1*r2*r3)*(r1*r2*r3)):=by
   have:L*L*(w3*s3*s3)=w3*(L*s3)*(L*s3):=by grind
   rw[this,<- l3,h3]
   grind
  rw[this,e3]
  grind
 have GJ:r1≠0:=fun z=>mG (by rw[h1,z];simp)
 have Ue:r2≠0:=fun z=>E4 (by rw[h2,z];simp)
 have Yi:r3≠0:=fun z=>Yh (by rw[h3,z];simp)
 have Bu:s1≠0:=fun z=>by
  rw[z,aaI] at l1
  exact aay (aay Mh Ue) Yi l1
 have X0:w1*s1*s1≠0:=aay (aay mG Bu) Bu
 generalize w1*s1*s1=X1 at *
 generalize w2*s2*s2=X2 at *
 generalize w3*s3*s3=X3 at *
 generalize g1*g2*g3*(r1*r2*r3)*(r1*r2*r3)=K at *
 have f:∀ a b c:Int,a*c*b=b*c*a:=fun a b c=>by rw[aao,aao a c,aaq]
 have yC:X1*q2=X2*q1:=aaP LL (by rw[<- aaq,<- aaq,x1,x2];exact f q1 q2 K)
 have Wa:X1*q3=X3*q1:=aaP LL (by rw[<- aaq,<- aaq,x1,x3];exact f q1 q3 K)
 have d:q1∣X1:=mM ⟨P.a0,P.sa⟩ fun p hp hd=>by
  have:p∣X1*q2:=by rw[yC];exact aah hd (aaw _ _)
  exact (Pr.euclid hp this).resolve_right (P.ab p hp hd)
 obtain⟨k,ek⟩:=d
 have k0:k≠0:=fun z=>X0 (by rw[ek,z,aaI])
 refine⟨k,k0,Bu,by rw[ek,aao],?_,?_⟩
 ·have:q1*X2=q1*(k*q2):=by rw[ek] at yC;rw[aao,<- yC,aaq]
  exact aaP P.a0 this
 ·have:q1*X3=q1*(k*q3):=by rw[ek] at Wa;rw[aao,<- Wa,aaq]
  exact aaP P.a0 this
end Jc
namespace Pn
open Sm Lw
theorem E5 {Q:F6}{P R S:P3}(C:PL Q P R S)(a b c:Int):ch Q (tr ⟨tm a P,tm b R,tm c S⟩)=⟨wo Q P*a*a,wo Q R*b*b,wo Q S*c*c,0,0,0⟩:=by
 have w:∀ (d:Int) (T:P3),wo Q (tm d T)=wo Q T*d*d:=fun d T=>by rw[Eu];grind
 have bb:∀ (d e:Int) (T U:P3),bl Q (tm d T) (tm e U)=d*e*bl Q T U:=fun d e T U=>by
  simp only[bl,tb,sl,rp,tm]
  grind
 rw[show ch Q (tr ⟨tm a P,tm b R,tm c S⟩)=⟨wo Q (tm a P),wo Q (tm b R),wo Q (tm c S),bl Q (tm b R) (tm c S),bl Q (tm a P) (tm c S),bl Q (tm a P) (tm b R)⟩ from rfl]
 rw[w,w,w,bb,bb,bb,C.Ub,C.RK,C.RL,aaI,aaI,aaI]
theorem Mi (P R S:P3)(a b c:Int):me ⟨tm a P,tm b R,tm c S⟩=a*b*c*me ⟨P,R,S⟩:=by
 simp only[me,rp,cr,tm]
 grind
structure fE (F:F6):Prop where
 (a:F.a.natAbs<=100) (b:F.b.natAbs<=100) (c:F.c.natAbs<=100) (d:F.d.natAbs<=100) (e:F.e.natAbs<=100) (f:F.f.natAbs<=100)
theorem fE.bf {F:F6}(h:fE F):BF 7 F:=⟨aag h.a (by decide),aag h.b (by decide),aag h.c (by decide),aag h.d (by decide),aag h.e (by decide),aag h.f (by decide)⟩
def ql (F:F6)(ps:List P3):Option P3:=(k9 ps).find? fun v=>wo F v != 0
theorem AL {F:F6}{ps:List P3}(h:∃ v∈k9 ps,wo F v≠0):∃ v,ql F ps=some v:=by
 obtain⟨v,hv,n⟩:=h
 have:(ql F ps).isSome=true:=List.find?_isSome.mpr ⟨v,hv,by simpa using n⟩
 exact abS.mp this
theorem o8 {F:F6}{ps:List P3}{v:P3}(h:ql F ps=some v):wo F v≠0:=by
 have:=List.find?_some h
 simpa using this
theorem E6 {F:F6}{ps:List P3}{v:P3}(h:ql F ps=some v):v∈k9 ps:=adA h
theorem AM {F:F6}{ps:List P3}{v:P3}(h:ql F ps=some v):v∈ps\/((∀ u∈ps,wo F u=0)/\∃ a∈ps,∃ b∈ps,v=ad a b):=by
 unfold ql k9 at h
 rw[List.find?_append] at h
 cases e:ps.find? fun v=>wo F v != 0 with
 | some u=>
  rw[e] at h
  cases h
  exact .inl (adA e)
 | none=>
  rw[e] at h
  refine .inr ⟨fun u hu=>by simpa using List.find?_eq_none.mp e u hu,?_⟩
  have m:=adA h
  obtain⟨a,ha,m⟩:=adb.mp m
  obtain⟨b,hb,rfl⟩:=abb.mp m
  exact⟨a,ha,b,hb,rfl⟩
structure E7 (F:F6)(P l:P3):Prop where
 w0:wo F P≠0
 w:(wo F P).natAbs<=100
 px:P.x.natAbs<=1
 py:P.y.natAbs<=1
 pz:P.z.natAbs<=1
 lx:l.x.natAbs<=200
 ly:l.y.natAbs<=200
 lz:l.z.natAbs<=200
 xy:l.x.natAbs+l.y.natAbs<=300
 xz:l.x.natAbs+l.z.natAbs<=300
 yz:l.y.natAbs+l.z.natAbs<=300
theorem yD {u v:Int}(h:u.natAbs<=100)(k:v.natAbs<=100):(u+v).natAbs<=200:=aag (Int.natAbs_add_le u v) (abZ h k)
theorem PU {F:F6}{P l:P3}(nz:wo F P≠0)(hw:(wo F P).natAbs<=100)(px:P.x.natAbs<=1)(py:P.y.natAbs<=1)(pz:P.z.natAbs<=1)(hx:l.x.natAbs<=200)(hy:l.y.natAbs<=100)(hz:l.z.natAbs<=100):E7 F P l:=
 ⟨nz,hw,px,py,pz,hx,aag hy (by decide),aag hz (by decide),abZ hx hy,abZ hx hz,aag (abZ hy hz) (by decide)⟩
theorem PV {F:F6}{P l:P3}(nz:wo F P≠0)(hw:(wo F P).natAbs<=100)(px:P.x.natAbs<=1)(py:P.y.natAbs<=1)(pz:P.z.natAbs<=1)(hx:l.x.natAbs<=100)(hy:l.y.natAbs<=200)(hz:l.z.natAbs<=100):E7 F P l:=
 ⟨nz,hw,px,py,pz,aag hx (by decide),hy,aag hz (by decide),abZ hx hy,aag (abZ hx hz) (by decide),abZ hy hz⟩
theorem lh {F:F6}{P l:P3}(nz:wo F P≠0)(hw:(wo F P).natAbs<=100)(px:P.x.natAbs<=1)(py:P.y.natAbs<=1)(pz:P.z.natAbs<=1)(hx:l.x.natAbs<=100)(hy:l.y.natAbs<=100)(hz:l.z.natAbs<=200):E7 F P l:=
 ⟨nz,hw,px,py,pz,aag hx (by decide),aag hy (by decide),hz,aag (abZ hx hy) (by decide),abZ hx hz,abZ hy hz⟩
theorem w1 (F:F6)(x y z:Int):wo F ⟨x,y,z⟩=F.a*(x*x)+F.b*(y*y)+F.c*(z*z)+F.d*(y*z)+F.e*(x*z)+F.f*(x*y):=by
 (simp only[wo])<;>grind
theorem t1 (F:F6)(x y z:Int):tb (sl F) ⟨x,y,z⟩=⟨2*F.a*x+F.f*y+F.e*z,F.f*x+2*F.b*y+F.d*z,F.e*x+F.d*y+2*F.c*z⟩:=by
 simp only[tb,sl,rp]
theorem Mj {F:F6}{P:P3}(h:fE F)(e:ql F gz=some P):E7 F P (tb (sl F) P):=by
 have nz:=o8 e
 obtain⟨ha,hb,hc,hd,he,hf⟩:=h
 have o1:Int.natAbs 1<=1:=aai 1
 have o0:Int.natAbs 0<=1:=by decide
 rcases AM e with m|⟨z,a,ma,b,mb,rfl⟩
 ·simp only[gz,aaf,aaF,abN] at m
  rcases m with rfl|rfl|rfl
  ·refine PU nz ?_ o1 o0 o0 ?_ ?_ ?_<;>simp[w1,t1,aaC]<;>first|exact ha|exact hf|exact he|exact acg 2 ha
  ·refine PV nz ?_ o0 o1 o0 ?_ ?_ ?_<;>simp[w1,t1,aaC]<;>first|exact hb|exact hf|exact hd|exact acg 2 hb
  ·refine lh nz ?_ o0 o0 o1 ?_ ?_ ?_<;>simp[w1,t1,aaC]<;>first|exact hc|exact he|exact hd|exact acg 2 hc
 ·have z1:=z ⟨1,0,0⟩ (by simp[gz])
  have z2:=z ⟨0,1,0⟩ (by simp[gz])
  have z3:=z ⟨0,0,1⟩ (by simp[gz])
  simp[w1] at z1 z2 z3
  have k1:∀ {P:P3},wo F P≠0->P=⟨1,1,0⟩->E7 F P (tb (sl F) P):=fun {P} nz e=>by
   subst e
   refine lh nz ?_ o1 o1 o0 ?_ ?_ ?_<;>simp[w1,t1,z1,z2,z3]<;>first|exact hf|exact yD he hd
  have k2:∀ {P:P3},wo F P≠0->P=⟨1,0,1⟩->E7 F P (tb (sl F) P):=fun {P} nz e=>by
   subst e
   refine PV nz ?_ o1 o0 o1 ?_ ?_ ?_<;>simp[w1,t1,z1,z2,z3]<;>first|exact he|exact yD hf hd
  have k3:∀ {P:P3},wo F P≠0->P=⟨0,1,1⟩->E7 F P (tb (sl F) P):=fun {P} nz e=>by
   subst e
   refine PU nz ?_ o0 o1 o1 ?_ ?_ ?_<;>simp[w1,t1,z1,z2,z3]<;>first|exact hd|exact yD hf he
  simp only[gz,aaf,aaF,abN] at ma mb
  rcases ma with rfl|rfl|rfl<;>rcases mb with rfl|rfl|rfl<;>first
   | exact k1 nz rfl
   | exact k2 nz rfl
   | exact k3 nz rfl
   | (exfalso;simp[w1,ad,z1,z2,z3] at nz)
theorem sub_le {x y:Int}(h:x.natAbs+y.natAbs<=300):(x-y).natAbs<=300/\(y-x).natAbs<=300/\(-x+y).natAbs<=300/\(-y+x).natAbs<=300:=by omega
theorem E8 {F:F6}{P l v:P3}(h:E7 F P l)(e:ql F (gz.map (cr l))=some v):v.x.natAbs<=300/\v.y.natAbs<=300/\v.z.natAbs<=300:=by
 have nz:=o8 e
 obtain⟨_,_,_,_,_,lx,ly,lz,xy,xz,yz⟩:=h
 have bx:=aag lx (by decide:200<=300)
 have wC:=aag ly (by decide:200<=300)
 have bz:=aag lz (by decide:200<=300)
 have Yj:=sub_le xy
 have Yk:=sub_le xz
 have Yl:=sub_le yz
 rcases AM e with m|⟨z,a,ma,b,mb,rfl⟩
 ·simp only[gz,adN,ae1,aaf,aaF,abN] at m
  rcases m with rfl|rfl|rfl<;>simp[cr,bx,wC,bz]
 ·by_cases c:a=b
  ·subst c
   have z1:=z a ma
   have e2:ad a a=tm 2 a:=by
    simp only[ad,tm,P3.mk.injEq]
    omega
   rw[e2,Eu,z1] at nz
   exact absurd rfl nz
  ·simp only[gz,adN,ae1,aaf,aaF,abN] at ma mb
   rcases ma with rfl|rfl|rfl<;>rcases mb with rfl|rfl|rfl<;>first
    | exact absurd rfl c
    | (simp[cr,ad,bx,wC,bz,Yj,Yk,Yl];done)
    | (simp[cr,ad,bx,wC,bz];omega)
theorem PX {F:F6}{v:P3}(h:fE F)(hv:v.x.natAbs<=300/\v.y.natAbs<=300/\v.z.natAbs<=300):(wo F v).natAbs<=54000000:=by
 obtain⟨ha,hb,hc,hd,he,hf⟩:=h
 obtain⟨vx,vy,vz⟩:=hv
 have p:∀ {x y z:Int},x.natAbs<=100->y.natAbs<=300->z.natAbs<=300->(x*(y*z)).natAbs<=9000000:=fun {x y z} h1 h2 h3=>by
  rw[aaC,aaC]
  exact abY h1 (abY h2 h3)
 have p1:=p ha vx vx
 have p2:=p hb vy vy
 have p3:=p hc vz vz
 have p4:=p hd vy vz
 have p5:=p he vx vz
 have p6:=p hf vx vy
 have e:wo F v=F.a*(v.x*v.x)+F.b*(v.y*v.y)+F.c*(v.z*v.z)+F.d*(v.y*v.z)+F.e*(v.x*v.z)+F.f*(v.x*v.y):=by
  (simp only[wo])<;>grind
 rw[e]
 omega
theorem mO {d x:Int}{m:Nat}(hd:d≠0)(h:(d*x).natAbs<=m):x.natAbs<=m:=by
 rw[aaC] at h
 exact aag (adW _ (by omega)) h
theorem E9 {F:F6}(h:fE F):(sz F).natAbs<=8000000:=by
 obtain⟨ha,hb,hc,hd,he,hf⟩:=h
 have p:∀ {x y z:Int},x.natAbs<=100->y.natAbs<=100->z.natAbs<=100->(x*(y*z)).natAbs<=1000000:=fun {x y z} h1 h2 h3=>by
  rw[aaC,aaC]
  exact abY h1 (abY h2 h3)
 have p1:=p ha hb hc
 have p2:=p hd he hf
 have p3:=p ha hd hd
 have p4:=p hb he he
 have p5:=p hc hf hf
 have e:sz F=4*(F.a*(F.b*F.c))+F.d*(F.e*F.f)-F.a*(F.d*F.d)-F.b*(F.e*F.e)-F.c*(F.f*F.f):=by
  (simp only[sz])<;>grind
 rw[e]
 omega
end Pn
namespace Jc
open Pr
structure Cc (a b c:Int):Prop where
 sf:Sf c
 sq:∃ g,g≠0/\a*b=c*(g*g)
 dv:∀ p,aR p->p∣c->p∣a\/p∣b
theorem PY {a b g a' b':Int}(sa:Sf a)(sb:Sf b)(G:Gr g a b)(ea:a=g*a')(eb:b=g*b'):Cc a b (a'*b'):=by
 refine⟨PR sa sb G ea eb,⟨g,by have:=G.pos;omega,by rw[ea,eb];grind⟩,fun p hp h=>?_⟩
 rcases euclid hp h with h|h
 ·exact .inl (by rw[ea];exact aah h (aaw _ _))
 ·exact .inr (by rw[eb];exact aah h (aaw _ _))
theorem yE {w1 w2 w3 s m c1 c2 yC cs c3 r1 r2 rs:Int}(h1:w1=c1*(r1*r1))(h2:w2=c2*(r2*r2))(hs:s=cs*(rs*rs))(mG:w1≠0)(E4:w2≠0)(k:Cc c1 c2 yC)(k3:Cc yC cs c3)(e:4*(w1*w2*w3)=s*m*m):∃ r,0<=r/\w3=c3*(r*r):=by
 obtain⟨g,g0,eg⟩:=k.sq
 obtain⟨g',g0',Ym⟩:=k3.sq
 have GJ:r1≠0:=fun z=>mG (by rw[h1,z];simp)
 have Ue:r2≠0:=fun z=>E4 (by rw[h2,z];simp)
 have c0:=k.sf.n0
 refine Ik (A:=2*(yC*(g*(r1*r2)))) (B:=g'*(rs*m)) ?_ k3.sf ?_
 ·exact aay (by decide) (aay c0 (aay g0 (aay GJ Ue)))
 ·have x1:4*(w1*w2*w3)=4*(yC*(g*g)*((r1*r2)*(r1*r2))*w3):=by
   rw[h1,h2]
   have:c1*(r1*r1)*(c2*(r2*r2))*w3=c1*c2*((r1*r2)*(r1*r2))*w3:=by grind
   rw[this,eg]
  have x2:s*m*m=cs*((rs*m)*(rs*m)):=by
   rw[hs]
   grind
  rw[x1,x2] at e
  have y:yC*(4*(yC*(g*g)*((r1*r2)*(r1*r2))*w3))=yC*(cs*((rs*m)*(rs*m))):=by rw[e]
  have y2:yC*(cs*((rs*m)*(rs*m)))=c3*(g'*g')*((rs*m)*(rs*m)):=by rw[<- Ym];grind
  rw[y2] at y
  have y3:c3*(g'*(rs*m)*(g'*(rs*m)))=c3*(g'*g')*((rs*m)*(rs*m)):=by grind
  rw[y3,<- y]
  grind
theorem iY {a b:Int}{m:Nat}(h:a∣b)(b0:b≠0)(hb:b.natAbs<=m):a.natAbs<=m:=aag (ab9 (by omega) (aa6.mpr h)) hb
theorem Mk {w1 w2 s c1 c2 c3 g1 g2 g3 q1 q2 q3:Int}(s1:Sf c1)(s2:Sf c2)(s3:Sf c3)(G1:Gr g1 c2 c3)(G2:Gr g2 c3 c1)(G3:Gr g3 c1 c2)
  (e1:c1*g1=q1*(g2*g3)) (e2:c2*g2=q2*(g3*g1)) (e3:c3*g3=q3*(g1*g2)) (d1:c1∣w1) (d2:c2∣w2) (d3:∀ p,aR p->p∣c3->p∣c1\/p∣c2\/p∣s) (mG:w1≠0) (E4:w2≠0) (s0:s≠0)
  (b1:w1.natAbs<=100) (b2:w2.natAbs<=54000000) (bs:s.natAbs<=8000000):q1.natAbs<=10000000000/\q2.natAbs<=10000000000/\q3.natAbs<=10000000000:=by
 have P:=AK s1 s2 s3 G1 G2 G3 e1 e2 e3
 have t1:∀ {p:Int},aR p->p∣q1->_:=fun hp hd=>kn s1 s2 G1 G2 G3 e1 hp hd
 have t2:∀ {p:Int},aR p->p∣q2->_:=fun hp hd=>kn s2 s3 G2 G3 G1 e2 hp hd
 have t3:∀ {p:Int},aR p->p∣q3->_:=fun hp hd=>kn s3 s1 G3 G1 G2 e3 hp hd
 have Wb:(w1*w2).natAbs<=10000000000:=by
  rw[aaC]
  exact aag (abY b1 b2) (by decide)
 have Yn:(w1*s).natAbs<=10000000000:=by
  rw[aaC]
  exact aag (abY b1 bs) (by decide)
 have l:∀ {p c w v:Int},p∣c->c∣w->p∣w*v:=fun h k=>aah (aah h k) (aa7 _ _)
 have r:∀ {p c w v:Int},p∣c->c∣w->p∣v*w:=fun h k=>aah (aah h k) (aaw _ _)
 refine⟨iY (mM ⟨P.a0,P.sa⟩ fun p hp hd=>?_) (aay mG E4) Wb,iY (mM ⟨P.b0,P.sb⟩ fun p hp hd=>?_) (aay mG E4) Wb,iY (mM ⟨P.c0,P.sc⟩ fun p hp hd=>?_) (aay mG s0) Yn⟩
 ·rcases (t1 hp hd).1 with ⟨x,y,z⟩|⟨x,y,z⟩
  ·first|exact l x d1|exact r x d2
  ·first|exact l x d1|exact r x d2|exact l y d1|exact r y d2|exact l z d1|exact r z d2
 ·rcases (t2 hp hd).1 with ⟨x,y,z⟩|⟨x,y,z⟩
  ·first|exact l x d1|exact r x d2
  ·first|exact l x d1|exact r x d2|exact l y d1|exact r y d2|exact l z d1|exact r z d2
 ·rcases (t3 hp hd).1 with ⟨x,y,z⟩|⟨x,y,z⟩
  ·rcases d3 p hp x with h|h|h
   ·first|exact absurd h y|exact absurd h z
   ·first|exact absurd h y|exact absurd h z
   ·exact aah h (aaw _ _)
  ·first|exact l x d1|exact l y d1|exact l z d1
end Jc
namespace wD
open PySem PySem.SetTable
def Up (xs:Array Nat):Prop:=∀ i j,(GV:i<j)->(h:j<xs.size)->xs[i]'(aeZ GV h)<xs[j]
theorem qm {xs:Array Nat}(u:Up xs)(j:Nat):∀ (f lo hi:Nat),hi<=xs.size->hi-lo<=f->lo<=hi->(∀ i,i<lo->(h:i<xs.size)->xs[i]<j)->(∀ i,hi<=i->(h:i<xs.size)->j<=xs[i]) ->
  let r:=below.go xs j f lo hi
  r<=xs.size/\(∀ i,i<r->(h:i<xs.size)->xs[i]<j)/\(∀ i,r<=i->(h:i<xs.size)->j<=xs[i])
 | 0,lo,hi,h1,h2,h3,ha,hb=>by
  have e:lo=hi:=by omega
  subst e
  exact⟨h1,ha,hb⟩
 | f+1,lo,hi,h1,h2,h3,ha,hb=>by
  unfold below.go
  by_cases c:lo<hi
  ·rw[aaz c]
   have hm:(lo+hi) / 2<xs.size:=by omega
   have e:xs.getD ((lo+hi) / 2) j=xs[(lo+hi) / 2]:=by
    rw[acz,aaD hm]
    rfl
   dsimp only
   rw[e]
   by_cases d:xs[(lo+hi) / 2]<j
   ·rw[aaz d]
    refine qm u j f _ hi h1 (by omega) (by omega) (fun i Lu h=>?_) hb
    by_cases q:i=(lo+hi) / 2
    ·subst q;exact d
    ·have:=u i ((lo+hi) / 2) (by omega) hm
     omega
   ·rw[aar d]
    refine qm u j f lo _ (by omega) (by omega) (by omega) ha (fun i Lu h=>?_)
    by_cases q:i=(lo+hi) / 2
    ·subst q;omega
    ·have:=u ((lo+hi) / 2) i (by omega) h
     omega
  ·rw[aar c]
   have e:lo=hi:=by omega
   subst e
   exact⟨h1,ha,hb⟩
theorem lj {xs:Array Nat}(u:Up xs)(j:Nat):below xs j<=xs.size/\(∀ i,i<below xs j->(h:i<xs.size)->xs[i]<j)/\(∀ i,below xs j<=i->(h:i<xs.size)->j<=xs[i]):=
 qm u j xs.size 0 xs.size (aai _) (by omega) (by omega) (fun i h=>absurd h (Nat.not_lt_zero i)) fun i h h'=>by omega
theorem yF {xs:Array Nat}(u:Up xs){i:Nat}(h:i<xs.size):below xs (xs[i]+1)=i+1:=by
 obtain⟨a,b,c⟩:=lj u (xs[i]+1)
 have h1:¬ below xs (xs[i]+1)<=i:=fun z=>by have:=c i z h;omega
 have h2:¬ i+1<below xs (xs[i]+1):=fun z=>by
  have h3:i+1<xs.size:=by omega
  have:=b (i+1) z h3
  have:=u i (i+1) (by omega) h3
  omega
 omega
theorem yG {xs:Array Nat}(u:Up xs):below xs 0=0:=by
 obtain⟨a,b,c⟩:=lj u 0
 by_cases z:below xs 0=0
 ·exact z
 ·have:=b 0 (by omega) (by omega)
  omega
theorem oF {α:Type}(xs:Array α)(p:Nat)(x:α):(insertAt xs p x).toList=xs.toList.take p++x::xs.toList.drop p:=by
 unfold insertAt
 simp
 exact adY (by simp)
theorem uj {xs:Array Nat}:Up xs↔xs.toList.Pairwise (·<·):=by
 rw[List.pairwise_iff_getElem]
 constructor
 ·intro u i j hi hj GV
  exact u i j GV (by simpa using hj)
 ·intro u i j GV h
  exact u i j (by simpa using aeZ GV h) (by simpa using h) GV
theorem BN {xs:Array Nat}(u:Up xs){j:Nat}(hj:xs[below xs j]?≠some j):Up (insertAt xs (below xs j) j):=by
 obtain⟨a,b,c⟩:=lj u j
 have ul:=uj.mp u
 rw[uj,oF]
 have c':∀ y∈xs.toList.drop (below xs j),j<y:=fun y hy=>by
  obtain⟨i,hi,rfl⟩:=ach hy
  rw[List.getElem_drop]
  have hs:below xs j+i<xs.size:=by
   rw[aey,aaU] at hi
   omega
  have h1:=c (below xs j+i) (by omega) hs
  by_cases z:i=0
  ·subst z
   have h2:xs[below xs j]≠j:=fun z=>hj (by rw[aaD (by omega),z])
   have h3:=c (below xs j) (by omega) (by omega)
   have h4:xs[below xs j]=xs[below xs j+0]:=rfl
   show j<xs[below xs j+0]
   omega
  ·have h2:=u (below xs j) (below xs j+i) (by omega) hs
   have h3:=c (below xs j) (by omega) (by omega)
   show j<xs[below xs j+i]
   omega
 have b':∀ y∈xs.toList.take (below xs j),y<j:=fun y hy=>by
  obtain⟨i,hi,rfl⟩:=ach hy
  rw[List.getElem_take]
  rw[abU,aaU] at hi
  exact b i (by omega) (by omega)
 rw[List.pairwise_append]
 refine⟨ul.take,abT.mpr ⟨c',ul.drop⟩,fun x hx y hy=>?_⟩
 rcases aaf.mp hy with rfl|hy
 ·exact b' x hx
 ·exact aeZ (b' x hx) (c' y hy)
structure Good (b:Bool)(t:SetTable):Prop where
 up:Up t.place
 no:t.dummies=#[]
 led:t.led=b
theorem yH (f m:Nat)(b:Bool):Good b (.fresh f m b):=⟨fun i j GV h=>absurd h (Nat.not_lt_zero j),rfl,rfl⟩
theorem Fb (n:Nat):Up (Array.range n):=by
 rw[uj,Array.toList_range]
 exact List.pairwise_lt_range
theorem fM {b:Bool}{t:SetTable}(g:Good b t)(n:Nat):Good b (t.standIn n):=⟨Fb n,rfl,g.led⟩
theorem qp {b:Bool}{t:SetTable}(g:Good b t)(n:Nat):Good b (t.orStandIn n):=by
 unfold SetTable.orStandIn
 split
 ·exact g
 ·exact fM g n
theorem yI {b:Bool}{t:SetTable}(g:Good b t)(p:Bool):Good b { t with plain:=p }:=⟨g.up,g.no,g.led⟩
theorem has_none (j:Nat):SetTable.has #[] j=false:=rfl
theorem Fc {b:Bool}{t:SetTable}(g:Good b t){j:Nat}(hj:t.slot j=.empty):Good b (t.put j).1:=by
 have hn:t.place[below t.place j]?≠some j:=fun z=>by
  unfold SetTable.slot at hj
  dsimp only at hj
  rw[aaz (by rw[z];exact adQ _)] at hj
  cases hj
 refine⟨BN g.up hn,?_,g.led⟩
 unfold SetTable.put
 dsimp only
 rw[g.no,has_none]
 rfl
theorem wF {b:Bool}{t:SetTable}(g:Good b t){f:Nat->Int}{h:Int}:∀ (n:Nat) (p:Probe),p.dummy=none->∀ j d,probe.go t f h n p=some (.empty j d)->d=none/\t.slot j=.empty
 | 0,p,_,j,d,e=>by cases e
 | n+1,p,hp,j,d,e=>by
  unfold probe.go at e
  have Ug:(t.advance p).dummy=none:=by
   unfold SetTable.advance
   split
   ·exact hp
   ·exact hp
  cases hs:t.slot p.j with
  | empty=>
   rw[hs] at e
   cases e
   exact⟨hp,hs⟩
  | dummy=>
   unfold SetTable.slot at hs
   dsimp only at hs
   rw[g.no,has_none] at hs
   split at hs<;>cases hs
  | live i=>
   rw[hs] at e
   dsimp only at e
   split at e
   ·cases e
   ·exact wF g n _ Ug j d e
theorem BO {b:Bool}{t:SetTable}(g:Good b t){h:Int}{j:Nat}{d:Bool}(e:t.freeSlot h=some (j,d)):t.slot j=.empty:=by
 unfold SetTable.freeSlot at e
 split at e
 ·rename_i j' d' hp
  obtain⟨rfl,z⟩:=wF g _ _ rfl _ _ hp
  cases e
  exact z
 ·cases e
theorem wG {b:Bool}{t:SetTable}(g:Good b t)(es:Array (Int × Value))(h:Int)(x:Value):Good b (layNew t es h x).2.1:=by
 unfold layNew
 split
 ·rename_i slot d e
  exact qp (Fc g (BO g e)) _
 ·exact fM g _
theorem wH {b:Bool}{t:SetTable}(g:Good b t){hs:Array Int}{n:Nat}{t':SetTable}{o:Array Nat}(e:t.relaid hs n=some (t',o)):Good b t':=by
 unfold SetTable.relaid SetTable.laid at e
 cases q:layClean (sizeAbove n-1) hs with
 | none=>rw[q] at e;cases e
 | some owner=>
  rw[q] at e
  cases e
  refine⟨?_,rfl,g.led⟩
  rw[uj]
  dsimp only
  rw[adF,List.pairwise_filterMap]
  refine List.Pairwise.imp (fun {a c} Yo x hx y hy=>?_) List.pairwise_lt_range
  obtain⟨v,_,rfl⟩:=Option.map_eq_some_iff.mp hx
  obtain⟨v',_,rfl⟩:=Option.map_eq_some_iff.mp hy
  exact Yo
theorem rT {b:Bool}{t:SetTable}(g:Good b t)(es:Array (Int × Value))(n:Nat):Good b (relayAll t es n).2.1:=by
 unfold relayAll
 split
 ·rename_i t' o e
  dsimp only
  split
  ·exact wH g e
  ·exact fM g _
 ·exact fM g _
end wD
namespace wD
open PySem
def kC (prog:Program)(w:World)(b:Bool)(h:Heap)(a:Addr)(S:Int->Bool)(n:Nat):Prop:=
 ∃ o es ep t,h.get? a=some o/\o.ExactSet/\o.data=.set es ep t/\ElemsOf (intKind prog w) es.toList/\(∀ k,S k=true↔∃ e∈es.toList,(intKind prog w).is k e.2=true)/\es.size<scanBound/\t.fits es.size=true/\es.size=n/\Good b t
section
variable {prog:Program}{w:World}{A:Around}{E:Value->Shared->Prop}{s:Shared}{b:Bool}
theorem qq {h:Heap}{a:Addr}{o:Obj}{es:Array (Int × Value)}{ep:Nat}{t:SetTable}(ho:h.get? a=some o)(hex:o.ExactSet)(hd:o.data=.set es ep t)
  {A7:Array (Int × Value)}{t':SetTable}{S':Int->Bool} (vE:ElemsOf (intKind prog w) A7.toList) (oG:∀ k,S' k=true↔∃ e∈A7.toList,(intKind prog w).is k e.2=true) (hb:A7.size<scanBound) (hf:t'.fits A7.size=true) (g:Good b t') :
  (h.update a (Obj.putSet A7 t')).get? a=some { o with data:=.set A7 (ep+1) t' }/\kC prog w b (h.update a (Obj.putSet A7 t')) a S' A7.size:=by
 obtain⟨h1,_⟩:=SetOf_store (knd:=intKind prog w) (S':=S') ho hex hd vE oG hb hf
 exact⟨h1,_,A7,ep+1,t',h1,hex,rfl,vE,oG,hb,hf,rfl,g⟩
theorem JQ {q:Bool->Sem Unit}(hq:∀ (c:Bool) (s₁:Shared) (Q':Unit->Shared->Prop),Q' () s₁->wpAny (model prog w) A (q c) Q' E s₁)
  {a:Addr}{o:Obj}{es:Array (Int × Value)}{ep:Nat}{t:SetTable} (ho:s.heap.get? a=some o) (hex:o.ExactSet) (hd:o.data=.set es ep t)
  {nY:Array (Int × Value)}{t2:SetTable}{S':Int->Bool} (PZ:ElemsOf (intKind prog w) nY.toList) (JR:∀ k',S' k'=true↔∃ e∈nY.toList,(intKind prog w).is k' e.2=true)
  (Ml:nY.size<scanBound) (Uh:t2.fits nY.size=true) (g2:Good b t2) {wI:Bool}{R:Option Bool->Shared->Prop}
  (h:∀ h',Heap.SameBut a s.heap h'->kC prog w b h' a S' nY.size->R (some true) { s with heap:=h' }) :
  wpAny (model prog w) A (do
    storeSet a nY t2
    if (!wI&&t2.tooFull)=true then do
      q (relayAll t2 nY (SetTable.grown nY.size)).2.2
      storeSet a (relayAll t2 nY (SetTable.grown nY.size)).1 (relayAll t2 nY (SetTable.grown nY.size)).2.1
      pure (some true)
     else pure (some true)) R E s:=by
 refine aaa (wpAny_storeSet_of ho hd ?_ (aeL Ml))
 obtain⟨Wc,CC⟩:=qq ho hex hd PZ JR Ml Uh g2
 have Wd:=aaX s.heap a (Obj.putSet nY t2)
 split
 ·have hp:=relayAll_perm t2 nY (SetTable.grown nY.size)
  have Dw:=relayAll_fits t2 nY (SetTable.grown nY.size)
  have gr:=rT g2 nY (SetTable.grown nY.size)
  generalize relayAll t2 nY (SetTable.grown nY.size)=Rl at hp Dw gr ⊢
  obtain⟨Yp,t3,Ui⟩:=Rl
  dsimp only at hp Dw gr ⊢
  have Jw:Yp.size=nY.size:=by rw[<- aaU,hp.length_eq,aaU]
  refine aaa (hq _ _ _ (aaa (wpAny_storeSet_of Wc rfl ?_ (aeL (by rw[Jw];exact Ml)))))
  obtain⟨_,RM⟩:=qq (S':=S') Wc hex rfl (PZ.perm hp) (fun k'=>(JR k').trans ⟨fun ⟨e,he,z⟩=>⟨e,hp.mem_iff.mpr he,z⟩,fun ⟨e,he,z⟩=>⟨e,hp.mem_iff.mp he,z⟩⟩) (by rw[Jw];exact Ml) Dw gr
  rw[Jw] at RM
  exact aad (h _ (Wd.trans (aaX _ a _)) RM)
 ·exact aad (h _ Wd CC)
theorem Uj {a:Addr}{S:Int->Bool}{n:Nat}{k:Int}{x:Value}{Q:Bool->Shared->Prop}(xQ:(intKind prog w).is k x=true)(RN:x.scannable=true)(hS:kC prog w b s.heap a S n)(P2:n+1<scanBound)
  (h:∀ h',Heap.SameBut a s.heap h'->kC prog w b h' a (fun k'=>S k' || decide (k'=k)) (if S k then n else n+1)->Q (!S k) { s with heap:=h' }) :
  wpAny (model prog w) A (setAddHashed a x ((intKind prog w).hash k)) Q E s:=by
 obtain⟨o,es,ep,t,ho,hex,hd,vE,oG,hb,hf,hn,g⟩:=hS
 unfold setAddHashed setAddHashedIn
 refine aaW (aaa (ack ho hd hf ?_))
 dsimp only
 rw[byScan_of RN hb vE]
 simp only[↓reduceIte]
 unfold setAddByScan
 refine aaa (aaa (acb (aaa (wpAny_setScan_of xQ ho hd hf vE ?_))))
 cases hr:List.findIdx? (fun e=>(intKind prog w).is k e.2) es.toList with
 | some j=>
  dsimp only
  obtain⟨hj,Yq,_⟩:=List.findIdx?_eq_some_iff_getElem.mp hr
  have hk:S k=true:=(oG k).mpr ⟨es.toList[j],acM hj,Yq⟩
  have z:=h s.heap (aeN a s.heap) ⟨o,es,ep,t,ho,hex,hd,vE,fun k'=>by
   rw[ado,decide_eq_true_eq,<- oG k']
   exact⟨fun y=>y.elim id (fun e=>e▸hk),.inl⟩,hb,hf,by rw[hk];exact hn,g⟩
  rw[hk] at z
  exact aad (aad z)
 | none=>
  dsimp only
  have hk:S k=false:=by
   cases c:S k with
   | false=>rfl
   | true=>
    obtain⟨e,he,hp⟩:=(oG k).mp c
    have:=List.findIdx?_eq_none_iff.mp hr e he
    rw[hp] at this
    cases this
  have nZ:=layNew_perm t es ((intKind prog w).hash k) x
  have wJ:=layNew_fits t es ((intKind prog w).hash k) x
  have gl:=wG g es ((intKind prog w).hash k) x
  generalize layNew t es ((intKind prog w).hash k) x=L at nZ wJ gl ⊢
  obtain⟨nY,t1,wI,Ui⟩:=L
  dsimp only at nZ wJ gl ⊢
  rw[Array.toList_push] at nZ
  have sz:nY.size=n+1:=by rw[<- aaU,nZ.length_eq,aaT,aaU,hn];rfl
  have Ml:nY.size<scanBound:=by rw[sz];exact P2
  have fin:∀ h',Heap.SameBut a s.heap h'->kC prog w b h' a (fun k'=>S k' || decide (k'=k)) nY.size->Q true { s with heap:=h' }:=fun h' sb z=>by
   have y:=h h' sb
   rw[hk] at y
   rw[sz] at z
   exact y z
  have hq:∀ (c:Bool) (s₁:Shared) (Q':Unit->Shared->Prop),Q' () s₁->wpAny (model prog w) A (match c with|true=>rule "set.scan.the-table-gave-way" | false=>pure ()) Q' E s₁:=fun c s₁ Q' y=>by
   cases c
   ·exact aad y
   ·exact acb y
  refine aaa (hq _ _ _ ?_)
  split
  ·refine aaa ?_
   rw[hashByValue_scannable 8 RN]
   refine aad ?_
   refine JQ hq ho hex hd ((vE.push xQ RN).perm nZ) (mem_push_iff xQ oG nZ) Ml ?_ ?_ fun h' sb z=>aad (fin h' sb z)
   ·split
    ·exact wJ
    ·exact SetTable.fits_plain_off wJ
   ·split
    ·exact gl
    ·exact yI gl false
  ·refine aaa (aad ?_)
   simp only[↓reduceIte]
   exact JQ hq ho hex hd ((vE.push xQ RN).perm nZ) (mem_push_iff xQ oG nZ) Ml wJ gl fun h' sb z=>aad (fin h' sb z)
end
end wD
namespace wD
open PySem PyProof.Rows
abbrev rF (w:World):Bool:=w.params.followText "set-order"
abbrev uk (w:World):Obj:={ cls:=.type "set",dict:=none,data:=.set #[] 0 (.fresh 0 0 (!rF w)) }
theorem kC.congr {prog:Program}{w:World}{b:Bool}{h:Heap}{a:Addr}{S S':Int->Bool}{n n':Nat}(g:kC prog w b h a S n)(e:∀ k,S k=S' k)(en:n=n'):kC prog w b h a S' n':=by
 have:S=S':=funext e
 subst this en
 exact g
theorem kC.keeps {prog:Program}{w:World}{b:Bool}{h h':Heap}{a:Addr}{S:Int->Bool}{n:Nat}(g:kC prog w b h a S n)(k:∀ o,h.get? a=some o->h'.get? a=some o):kC prog w b h' a S n:=
 let ⟨o,es,ep,t,h1,r⟩:=g;⟨o,es,ep,t,k _ h1,r⟩
section
variable {prog:Program}{w:World}{A:Around}{E:Value->Shared->Prop}{s:Shared}{b:Bool}
theorem JS {R:Result->Shared->Prop}{I:Addr}{fp wr:List Addr}{G:Array GenState->Array GenState->Prop}{n:Nat}{P:Nat->Value->Prop}{St:Nat->Shared->Prop}
  (W:WalksS prog w A.in1 I fp wr G n P St) (S:Addr) (Il:S∉fp) (val:Nat->Int) (Im:∀ i v,P i v->∃ t,v=.int (val i) t) (hb:n+1<scanBound):∀ (k i:Nat) (s:Shared),n-i=k->i<=n->St i s ->
   kC prog w b s.heap S (fun k'=>(firstMet val i).any (·==k')) (firstMet val i).length ->
   (∀ s',Moved (S::wr) G s s'->kC prog w b s'.heap S (fun k'=>(firstMet val n).any (·==k')) (firstMet val n).length->R (.ok (.ret .none)) s') ->
   codeAny (model prog w) A (.builtin "set.update.loop" ⟨[.ref S,.ref I],[]⟩) R s
 | 0,i,s,hk,hi,st,hS,hR=>by
  obtain rfl:i=n:=by omega
  refine acn F.entry_set_update_loop ?_
  rw[acj aeq _]
  show wpAny _ A.in1 (pyNext (.ref I) >>= _) _ _ s
  refine aaa (W.done s _ _ st fun s' hm=>?_)
  show wpAny _ A.in1 (ret Value.none) _ _ s'
  exact aad (hR s' (hm.mono fun b hb=>aaL _ hb) (hS.keeps fun o e=>hm.heap S o (fun z=>Il (W.sub _ z)) e))
 | k+1,i,s,hk,hi,st,hS,hR=>by
  have lt:i<n:=by omega
  refine acn F.entry_set_update_loop ?_
  rw[acj aeq _]
  show wpAny _ A.in1 (pyNext (.ref I) >>= _) _ _ s
  refine aaa (W.item i s _ _ lt st fun v s' hP vD hm=>?_)
  obtain⟨t,rfl⟩:=Im i v hP
  have BQ:=hS.keeps (h':=s'.heap) fun o e=>hm.heap S o (fun z=>Il (W.sub _ z)) e
  show wpAny _ A.in1 (holding [Value.int (val i) t] (setAdd S (.int (val i) t)) >>= _) _ _ s'
  refine aaa (aaW ?_)
  unfold setAdd
  refine aaW (aaa ((intKind prog w).pyHash (k:=val i) (intKind_is _ _ _ _) ?_))
  have room:(firstMet val i).length+1<scanBound:=by have:=firstMet_length_le val i;omega
  refine Uj (s:={ s' with toks:=s'.toks+1 }) (intKind_is _ _ _ _) rfl BQ room fun h' sb RM=>?_
  have Yr:=RM.congr (S':=fun k'=>(firstMet val (i+1)).any (·==k')) (n':=(firstMet val (i+1)).length) (fun k'=>by rw[firstMet_succ,step_any]) (by rw[firstMet_succ,step_length])
  refine aad ⟨ad7 aeq _,JS W S Il val Im hb k (i+1) _ (by omega) lt (W.frame _ s' _ _ vD (abk _) fun b hb o e=>?_) Yr fun KR Uk Ul=>?_⟩
  ·rw[sb.2 b fun z=>Il (by rw[<- z];exact hb)]
   exact e
  ·refine hR KR (Moved.trans W.gtrans ((hm.mono fun b hb=>aaL _ hb).then_heap (abk _) fun b o hb e=>?_) Uk) Ul
   rw[sb.2 b fun z=>hb (by rw[z];exact aaR)]
   exact e
theorem Um (a:Value){Q₁:Value->Shared->Prop}(h:Q₁ (.ref s.heap.objs.size) { s with heap:=s.heap.push (uk w) }) :
  codeAny (model prog w) A (.call (.builtin "set.__new__") ⟨[.type "set",a],[]⟩) (wants Q₁ E) s:=by
 refine aeY ?_
 show wpAny _ A.in1 (do checkBuiltinCall "set.__new__" ⟨[.type "set",a],[]⟩;again (.builtin "set.__new__" ⟨[.type "set",a],[]⟩)) _ _ s
 refine aaa (ad6 (PySem.F.newCall_set_1 a) (aad ⟨ad7 PySem.F.plain_set_new _,acn PySem.F.entry_set_new ?_⟩))
 rw[acj PySem.F.plain_set_new _]
 unfold Builtin.«set.__new__» Builtin.Frozenset.newClass
 have LH:=sub_set_self
 obtain⟨hp,g,d,tk,os⟩:=s
 dsimp only
 wp_walk
 refine acu (aad ?_)
 dsimp only
 simp only[newObj]
 exact aaa (wpAny_alloc (aad (aad h)))
theorem BR {l:Addr}{items:Array Value}{ns:List Int}{Q:Value->Shared->Prop}(hh:A.handled=none)(hl:s.heap.IsList l items)(hi:IntsAre items.toList ns)(hb:items.size+1<scanBound)
  (h:∀ (h':Heap) (tk:Nat),kC prog w (!rF w) h' s.heap.objs.size (fun k'=>(firstMet (fun i=>ns.getD i 0) items.size).any (·==k')) (firstMet (fun i=>ns.getD i 0) items.size).length ->
   (∀ b o,b<s.heap.objs.size->s.heap.get? b=some o->h'.get? b=some o)->Q (.ref s.heap.objs.size) { s with heap:=h',toks:=tk }) :
  wpAny (model prog w) A (call (.type "set") [.ref l]) Q E s:=by
 obtain⟨c,tl,Ys⟩:=PySem.F.called_set.mro
 have We:=PySem.F.called_set.made
 have LH:=PySem.F.called_set.sub
 refine acA (aeY ?_)
 show wpAny _ _ (callAny (.type "set") _) _ _ _
 refine aad ⟨adS _ (by decide +kernel),acn PySem.F.entry_type_call ?_⟩
 rw[Around.under_plain (weight_type_call_type "set" [.ref l] []) rfl]
 have h1:=PySem.F.called_set.notType
 have h2:=PySem.F.called_set.canCreate
 have hct:=PySem.F.typeCall_set_1 (.ref l)
 repeat (any_goals (first|assumption|wp_step))
 refine acI (Um (.ref l) (E:=E) (Q₁:=fun obj s₁=>obj=.ref s.heap.objs.size/\s₁={ s with heap:=s.heap.push (uk w) }) ⟨rfl,rfl⟩) fun r s₁ hr=>?_
 cases r with
 | error e=>exact hr
 | ok fl=>
  cases fl with
  | ret obj=>
   obtain⟨rfl,rfl⟩:=hr
   have hS:(s.heap.push (uk w)).get? s.heap.objs.size=some (uk w):=aap _ rfl
   have hT:Shared.TypeIs { s with heap:=s.heap.push (uk w) } (.ref s.heap.objs.size) "set":=⟨_,hS,rfl⟩
   have hli:=PySem.F.called_set.init.lookup
   have Nq:=PySem.F.called_set.init.bind (.ref s.heap.objs.size)
   repeat (any_goals (first|assumption|wp_step))
   refine acI (aci (R:=wants (fun r s₂=>r=.none/\∃ h' tk,s₂={ s with heap:=h',toks:=tk } /\
     kC prog w (!rF w) h' s.heap.objs.size (fun k'=>(firstMet (fun i=>ns.getD i 0) items.size).any (·==k')) (firstMet (fun i=>ns.getD i 0) items.size).length /\
     (∀ b o,b<s.heap.objs.size->s.heap.get? b=some o->h'.get? b=some o)) E) PySem.F.called_set.init.plain PySem.F.entry_set_init (check_set_init_1 hT ?_)) fun r₂ s₂ Fd=>?_
   ·obtain⟨ol,M9,yg,nl,Na⟩:=hl
    obtain⟨Yt,P4,Wf,Mm⟩:=ol
    simp only at yg Na
    subst yg Na
    have Uo:(s.heap.push (uk w)).get? l=some { cls:=.type "list",dict:=P4,data:=.seq items nl,slots:=Mm }:=aab _ M9
    have Yu:=PySem.F.sub_list_set
    have Yv:=PySem.F.sub_list_frozenset
    have rJ:(Value.type "list"==Value.type "dict")=false:=by decide
    have vG:(s.heap.push (uk w)).IsList l items:=⟨_,Uo,rfl,nl,rfl⟩
    unfold Builtin.«set.__init__» noKeywords Builtin.Frozenset.updateFrom
    generalize Yw:pyIter=PI
    wp_walk
    subst Yw
    refine acm vG (aaa (wpAny_runValue ?_))
    have lS:l<s.heap.objs.size:=aae M9
    have Yx:A.in1.in1.in1.handled=none:=by simp[hh]
    have Yy:l≠(s.heap.push (uk w)).objs.size:=by rw[aax];exact aal (aaM lS)
    have Il:s.heap.objs.size∉[(s.heap.push (uk w)).objs.size,l]:=by
     rw[aax]
     simp only[aaf,aaF,abN,not_or]
     exact⟨aal (ada _),abX lS⟩
    have Im:∀ (i:Nat) (v:Value),items[i]?=some v->∃ t,v=.int ((fun i=>ns.getD i 0) i) t:=fun i v hv=>IntsAre.int_at hi i v (by rw[Array.getElem?_toList];exact hv)
    refine JS (b:=!rF w) ((Walks.list Yx _ l Yy items).toS) s.heap.objs.size Il (fun i=>ns.getD i 0) Im hb (items.size-0) 0 _ (by omega) (abd _) ⟨⟨_,aap _ rfl,rfl,rfl⟩,(vG.push _)⟩ ?hS0 ?hR
    case hS0=>exact⟨_,#[],0,_,aab _ hS,⟨rfl,rfl,rfl⟩,rfl,fun e he=>by simp at he,fun k=>by simp[firstMet],by decide,by rfl,rfl,yH 0 0 _⟩
    case hR=>
     intro s' hm BQ
     obtain⟨h',g',d',Yz,SM⟩:=s'
     have eg:g'=s.gens:=hm.gens
     have ed:d'=s.drawn:=hm.drawn
     have eo:SM=s.os:=hm.os
     subst eg ed eo
     show wpAny _ _ _ _ _ _
     refine aad ?_
     show wpAny _ _ (ret Value.none) _ _ _
     refine aad ⟨rfl,h',Yz,rfl,BQ,fun b o hb e=>?_⟩
     exact hm.heap b o (by
      rw[aax]
      simp only[aaf,aaF,abN,not_or]
      exact⟨aal hb,aal (aaM hb)⟩) (aab _ (aab _ e))
   ·cases r₂ with
    | error e=>exact Fd
    | ok P5=>
     cases P5 with
     | ret r=>
      obtain⟨rfl,h',tk,rfl,BQ,OW⟩:=Fd
      repeat (any_goals (first|assumption|wp_step))
      exact h _ _ BQ OW
     | _=>exact Fd.elim
  | _=>exact hr.elim
end
theorem eh:Slot "set_iterator" "__next__" "set_iterator.__next__":=
 .of (owner:="set_iterator") (n:="__next__") (by rw[typeLookup_type,builtinLookup_eq_fast];kernel_rfl) (by decide +kernel) (by decide +kernel) (by decide +kernel)
  (by first|exact .inl (by decide +kernel)|exact .inr (by decide +kernel)) (by rw[isSubtype_type];kernel_rfl)
theorem o9:entryFor table "set_iterator.__next__"=some Builtin.«set_iterator.__next__»:=entryFor_of_tree (by kernel_rfl)
theorem JT:Manifest.owners.lookup (String.ofList ['r','o','t','a','r','e','t','i','_','t','e','s'].reverse)=some Manifest.sig_set_iterator:=by kernel_rfl
theorem ph (a:Value):argsOk "set_iterator.__next__" ⟨[a],[]⟩:=by
 unfold argsOk;rw[signature?_of (id:="set_iterator.__next__") (n:=['_','_','t','x','e','n','_','_']) (o:=['r','o','t','a','r','e','t','i','_','t','e','s']) (by kernel_rfl) JT];kernel_rfl
theorem Io:entryFor table "set.__iter__"=some Builtin.«frozenset.__iter__»:=entryFor_alias (id':="frozenset.__iter__") (by kernel_rfl) rfl (by decide +kernel) (by kernel_rfl)
theorem AN:Slot "set_iterator" "__iter__" "set_iterator.__iter__":=
 .of (owner:="set_iterator") (n:="__iter__") (by rw[typeLookup_type,builtinLookup_eq_fast];kernel_rfl) (by decide +kernel) (by decide +kernel) (by decide +kernel)
  (by first|exact .inl (by decide +kernel)|exact .inr (by decide +kernel)) (by rw[isSubtype_type];kernel_rfl)
def eB (h:Heap)(a:Addr)(es:Array (Int × Value))(ep:Nat)(t:SetTable):Prop:=∃ o,h.get? a=some o/\o.ExactSet/\o.data=.set es ep t/\t.fits es.size=true
def df (h:Heap)(it a:Addr)(first:Value)(i n ep:Nat):Prop:=∃ o,h.get? it=some o/\o.cls=.type "set_iterator"/\o.data=.fields #[first,.int i 0,.ref a,.int n 0,.int ep 0]
theorem eB.keeps {h h':Heap}{a:Addr}{es:Array (Int × Value)}{ep:Nat}{t:SetTable}(x:eB h a es ep t)(k:∀ o,h.get? a=some o->h'.get? a=some o):eB h' a es ep t:=let ⟨o,p,r⟩:=x;⟨o,k _ p,r⟩
theorem df.keeps {h h':Heap}{it a:Addr}{f:Value}{i n ep:Nat}(x:df h it a f i n ep)(k:∀ o,h.get? it=some o->h'.get? it=some o):df h' it a f i n ep:=let ⟨o,p,r⟩:=x;⟨o,k _ p,r⟩
section
variable {prog:Program}{w:World}{A:Around}{E:Value->Shared->Prop}{s:Shared}{it a:Addr}{es:Array (Int × Value)}{ep i:Nat}{t:SetTable}{first:Value}
theorem df.type {n:Nat}(x:df s.heap it a first i n ep):s.TypeIs (.ref it) "set_iterator":=let ⟨o,p,c,_⟩:=x;⟨o,p,c⟩
theorem BS {src:Source}{n:Nat}{Q:Nat->Shared->Prop}(hn:n≠0)(h:∀ k d,k<n->Q k { s with drawn:=d }):wpAny (model prog w) A (choose src n) Q E s:=fun _ _ _=>⟨hn,h _ _ (acV _ (Nat.pos_of_ne_zero hn))⟩
theorem wK {sl nx:Nat}{x:Value}{Q:Option Value->Shared->Prop}(hi:df s.heap it a (.int sl 0) i es.size ep)(hs:eB s.heap a es ep t)(rJ:a≠it)
  (hn:∀ (A':Around) (Q':Option (Value × Nat)->Shared->Prop) (E':Value->Shared->Prop),Q' (some (x,nx)) s->wpAny (model prog w) A' (setNext a sl i ep) Q' E' s)
  (hQ:∀ h',df h' it a (.int nx 0) (i+1) es.size ep->Heap.SameBut it s.heap h'->Q (some x) { s with heap:=h' }) :
  wpAny (model prog w) A (pyNext (.ref it)) Q E s:=by
 obtain⟨o,ho,hc,hd⟩:=id hi
 obtain⟨os,zO,hex,Be,hf⟩:=id hs
 unfold pyNext
 refine aaa (abF (aaJ (name:=Str.ofString "__next__") hi.type eh (aa3 eh hi.type o9 ?_ (ph _))))
 unfold Builtin.«set_iterator.__next__»
 refine aaa (aad ?_)
 refine aaa (aep ho hd ?_)
 dsimp only
 refine aaa (ac1 zO Be hf ?_)
 rw[aar (by simp)]
 refine aaa ?_
 simp only[abn]
 refine hn _ _ _ ?_
 dsimp only
 refine aaa (abB ho hd (by simp) ?_)
 have h1:(s.heap.update it (Obj.mapFields (·.setIfInBounds 0 (rawInt (nx:Int))))).get? it=some (Obj.mapFields (·.setIfInBounds 0 (rawInt (nx:Int))) o):=aa4 _ ho (abG (aa0 hd _))
 refine aaa (abB (s:={ s with heap:=s.heap.update it (Obj.mapFields (·.setIfInBounds 0 (rawInt (nx:Int)))) }) h1 (aa0 hd _) (by simp) ?_)
 refine aad ⟨_,rfl,aad (hQ _ ⟨_,aa4 _ h1 (abG (aa0 (aa0 hd _) _)),?_,?_⟩ ((aaX ..).trans (aaX ..)))⟩
 ·rw[acO,acO]
  exact hc
 ·rw[aa0 (aa0 hd _)]
  simp[rawInt]
theorem stopped {o:Obj}{vs:Array Value}{k:Nat}{Q:Option Value->Shared->Prop}(hh:A.handled=none)(ho:s.heap.get? it=some o)(hd:o.data=.fields vs)(hk:k<vs.size)(x:Value)(hQ:∀ h',Heap.ExtBut it s.heap h'->Q none { s with heap:=h' }) :
  wpAny (model prog w) A.in1 (do setField (.ref it) k x;raiseNew (<- newExc (.type "StopIteration") [])) (fun fin s'=>∃ v,fin=Fin.done (Flow.ret v)/\wpAny (model prog w) A (pure (some v)) Q E s')
   (fun e s'=>wpAny (model prog w) A (do if <- isInstance e (.type "StopIteration") then pure none else throw e) Q E s') s:=by
 refine aaa (abB ho hd hk ?_)
 refine aaa ?_
 simp only[newExc,newTuple]
 refine aaa (aa1 ?_ (by size_fits))
 refine aaa (m:=firstArgMember _ _) (ad6 (a:=Value.none) (by first|rfl|(simp only[firstArgMember];rfl)) ?_)
 refine aa1 ?_ (by size_fits)
 simp only[raiseNew]
 refine aaa (wpAny_handled ?_)
 rw[show A.in1.handled=none from hh]
 refine aaa (aad (wpAny_throw ?_))
 refine aaa (acs (T:="StopIteration") (b:=true) ⟨_,aap _ rfl,rfl⟩ adk ?_)
 exact aad (hQ _ (((aaX ..).extBut.push _).push _))
theorem sR {sl:Nat}{Q:Option Value->Shared->Prop}(hh:A.handled=none)(hi:df s.heap it a (.int sl 0) i es.size ep)(hs:eB s.heap a es ep t)
  (hn:∀ (A':Around) (Q':Option (Value × Nat)->Shared->Prop) (E':Value->Shared->Prop),Q' none s->wpAny (model prog w) A' (setNext a sl i ep) Q' E' s)
  (hQ:∀ h',Heap.ExtBut it s.heap h'->Q none { s with heap:=h' }):wpAny (model prog w) A (pyNext (.ref it)) Q E s:=by
 obtain⟨o,ho,hc,hd⟩:=id hi
 obtain⟨os,zO,hex,Be,hf⟩:=id hs
 unfold pyNext
 refine aaa (abF (aaJ (name:=Str.ofString "__next__") hi.type eh (aa3 eh hi.type o9 ?_ (ph _))))
 unfold Builtin.«set_iterator.__next__»
 refine aaa (aad ?_)
 refine aaa (aep ho hd ?_)
 dsimp only
 refine aaa (ac1 zO Be hf ?_)
 rw[aar (by simp)]
 refine aaa ?_
 simp only[abn]
 refine hn _ _ _ ?_
 dsimp only
 exact stopped hh ho hd (by simp) _ hQ
theorem yJ {f:Addr}{ps:List Nat}{p:Nat}{e:Int × Value}{Q:Option Value->Shared->Prop}(hi:df s.heap it a (.ref f) i es.size ep)(hs:eB s.heap a es ep t)(Uq:s.heap.IsTuple f (ps.map fun (i:Nat)=>rawInt i).toArray)
  (hp:ps[i]?=some p) (he:es[p]?=some e) (hQ:∀ h',df h' it a (.ref f) (i+1) es.size ep->Heap.SameBut it s.heap h'->Q (some e.2) { s with heap:=h' }) :
  wpAny (model prog w) A (pyNext (.ref it)) Q E s:=by
 obtain⟨o,ho,hc,hd⟩:=id hi
 obtain⟨os,zO,hex,Be,hf⟩:=id hs
 unfold pyNext
 refine aaa (abF (aaJ (name:=Str.ofString "__next__") hi.type eh (aa3 eh hi.type o9 ?_ (ph _))))
 unfold Builtin.«set_iterator.__next__»
 refine aaa (aad ?_)
 refine aaa (aep ho hd ?_)
 dsimp only
 refine aaa (ac1 zO Be hf ?_)
 rw[aar (by simp)]
 obtain⟨of,Ur,Lz,nf,JA⟩:=id Uq
 refine aaa (abh Ur JA ?_)
 have hx:(ps.map fun (i:Nat)=>rawInt i).toArray[(i:Int).toNat]?=some (.int p 0):=by
  rw[abn,List.getElem?_toArray,aaB,hp]
  rfl
 dsimp only
 rw[hx]
 dsimp only
 refine aaa ?_
 unfold setNextDrawn
 refine aaa (ack zO Be hf ?_)
 dsimp only
 rw[aar (by simp)]
 simp only[abn,he]
 refine aad ?_
 refine aaa (abB ho hd (by simp) ?_)
 refine aad ⟨_,rfl,aad (hQ _ ⟨_,aa4 _ ho (abG (aa0 hd _)),(acO ..).trans hc,?_⟩ (aaX ..))⟩
 rw[aa0 hd]
 simp[rawInt]
theorem wL {f:Addr}{ps:List Nat}{Q:Option Value->Shared->Prop}(hh:A.handled=none)(hi:df s.heap it a (.ref f) i es.size ep)(hs:eB s.heap a es ep t)(Uq:s.heap.IsTuple f (ps.map fun (i:Nat)=>rawInt i).toArray)
  (hp:ps[i]?=none) (hQ:∀ h',Heap.ExtBut it s.heap h'->Q none { s with heap:=h' }):wpAny (model prog w) A (pyNext (.ref it)) Q E s:=by
 obtain⟨o,ho,hc,hd⟩:=id hi
 obtain⟨os,zO,hex,Be,hf⟩:=id hs
 unfold pyNext
 refine aaa (abF (aaJ (name:=Str.ofString "__next__") hi.type eh (aa3 eh hi.type o9 ?_ (ph _))))
 unfold Builtin.«set_iterator.__next__»
 refine aaa (aad ?_)
 refine aaa (aep ho hd ?_)
 dsimp only
 refine aaa (ac1 zO Be hf ?_)
 rw[aar (by simp)]
 obtain⟨of,Ur,Lz,nf,JA⟩:=id Uq
 refine aaa (abh Ur JA ?_)
 have hx:(ps.map fun (i:Nat)=>rawInt i).toArray[(i:Int).toNat]?=none:=by
  rw[abn,List.getElem?_toArray,aaB,hp]
  rfl
 dsimp only
 rw[hx]
 dsimp only
 refine aaa (abB ho hd (by simp) ?_)
 have h1:(s.heap.update it (Obj.mapFields (·.setIfInBounds 0 (rawInt 0)))).get? it=some (Obj.mapFields (·.setIfInBounds 0 (rawInt 0)) o):=aa4 _ ho (abG (aa0 hd _))
 exact stopped (s:={ s with heap:=s.heap.update it (Obj.mapFields (·.setIfInBounds 0 (rawInt 0))) }) hh h1 (aa0 hd _) (by simp) _ fun h' x=>hQ h' fun b o' nb e=>x b o' nb ((aev _ _ _ _ nb).trans e)
theorem ll {α:Type}:∀ {l:List α}{i:Nat} (h:i<l.length),(l[i]::l.eraseIdx i).Perm l
 | x::xs,0,h=>.refl _
 | x::xs,i+1,h=>by
  have h':i<xs.length:=by simpa using h
  show (xs[i]::x::xs.eraseIdx i).Perm (x::xs)
  exact (List.Perm.swap x xs[i] _).trans ((ll h').cons x)
theorem AO {α:Type}:∀ (n:Nat) (xs:List α) (s:Shared) (Q:List α->Shared->Prop),n=xs.length->(∀ ys d,ys.Perm xs->Q ys { s with drawn:=d })->wpAny (model prog w) A (drawOrder n xs) Q E s
 | 0,xs,s,Q,hl,h=>by
  have:xs=[]:=List.length_eq_zero_iff.mp hl.symm
  subst this
  exact aad (h [] s.drawn .nil)
 | n+1,[],s,Q,hl,h=>by cases hl
 | n+1,x::xs,s,Q,hl,h=>by
  unfold drawOrder
  refine aaa (BS (by simp) fun k d hk=>?_)
  rw[aat hk]
  dsimp only
  refine aaa (AO n _ _ _ (by rw[List.length_eraseIdx_of_lt hk];simp at hl ⊢;omega) fun ys d' hy=>aad ?_)
  exact h _ d' ((hy.cons _).trans (ll hk))
theorem AQ {α:Type}(nx:Nat->Nat):∀ (f k:Nat) (l:List α) (out:Array α),f=l.length->(pickOrder.go nx f k l out).toList.Perm (out.toList++l)
 | 0,k,l,out,hl=>by
  have:l=[]:=List.length_eq_zero_iff.mp hl.symm
  subst this
  unfold pickOrder.go
  rw[abi]
 | f+1,k,l,out,hl=>by
  have hp:nx k%l.length<l.length:=acV _ (by omega)
  unfold pickOrder.go
  rw[aat hp]
  dsimp only
  refine (AQ nx f (k+1) _ _ (by rw[List.length_eraseIdx_of_lt hp];omega)).trans ?_
  rw[Array.toList_push,adH]
  exact (ll hp).append_left out.toList
theorem ko {α:Type}(nx:Nat->Nat)(xs:Array α):(pickOrder nx xs).toList.Perm xs.toList:=by
 have:=AQ nx xs.size 0 xs.toList #[] (by simp)
 simpa [pickOrder] using this
end
def GP (es:Array (Int × Value))(t:SetTable):Bool:=!t.plain&&decide (es.size > 1)
def slotAt (t:SetTable)(i:Nat):Nat:=match i with
 | 0=>0
 | i+1=>t.place.getD i 0+1
section
variable {prog:Program}{w:World}{A:Around}{E:Value->Shared->Prop}{s:Shared}{it a:Addr}{es:Array (Int × Value)}{ep i:Nat}{t:SetTable}
theorem qr {t:SetTable}(u:Up t.place){i:Nat}(h:i<=t.place.size):SetTable.below t.place (slotAt t i)=i:=by
 cases i with
 | zero=>exact yG u
 | succ i=>
  have hi:i<t.place.size:=h
  show SetTable.below t.place (t.place.getD i 0+1)=i+1
  rw[acz,aaD hi]
  exact yF u hi
theorem sS {t:SetTable}{n:Nat}(h:t.fits n=true):t.place.size=n:=by
 unfold SetTable.fits at h
 simp only[ab8,ab1] at h
 exact h.1
theorem yK {k:Nat}{Q:Option (Value × Nat)->Shared->Prop}(hs:eB s.heap a es ep t)(hT:rF w=false)(hD:GP es t=false)(g:Good true t)(hi:i<es.size)(hQ:Q (some ((es[i]).2,slotAt t (i+1))) s) :
  wpAny (model prog w) A (setNext a (slotAt t i) k ep) Q E s:=by
 obtain⟨o,ho,hex,hd,hf⟩:=hs
 have hz:=sS hf
 unfold setNext
 refine aaa (ack ho hd hf ?_)
 refine aaa (aaa (acu (aad ?_)))
 show wpAny _ _ (if rF w=true then _ else _) _ _ _
 rw[aar (by rw[hT];exact aaj)]
 show wpAny _ _ (if GP es t=true then _ else _) _ _ _
 rw[aar (by rw[hD];exact aaj)]
 refine aaa ?_
 show wpAny _ _ (if (!t.led&&!es.isEmpty)=true then _ else _) _ _ _
 rw[aar (by rw[g.led];simp)]
 refine aad (aad ?_)
 rw[qr g.up (by omega),aaD hi,aaD (show i<t.place.size by omega)]
 have e:slotAt t (i+1)=t.place[i]'(by omega)+1:=by
  show t.place.getD i 0+1=_
  rw[acz,aaD (show i<t.place.size by omega)]
  rfl
 rw[e] at hQ
 exact hQ
theorem wM {k:Nat}{Q:Option (Value × Nat)->Shared->Prop}(hs:eB s.heap a es ep t)(hT:rF w=false)(hD:GP es t=false)(g:Good true t)(hQ:Q none s) :
  wpAny (model prog w) A (setNext a (slotAt t es.size) k ep) Q E s:=by
 obtain⟨o,ho,hex,hd,hf⟩:=hs
 have hz:=sS hf
 unfold setNext
 refine aaa (ack ho hd hf ?_)
 refine aaa (aaa (acu (aad ?_)))
 show wpAny _ _ (if rF w=true then _ else _) _ _ _
 rw[aar (by rw[hT];exact aaj)]
 show wpAny _ _ (if GP es t=true then _ else _) _ _ _
 rw[aar (by rw[hD];exact aaj)]
 refine aaa ?_
 show wpAny _ _ (if (!t.led&&!es.isEmpty)=true then _ else _) _ _ _
 rw[aar (by rw[g.led];simp)]
 refine aad (aad ?_)
 rw[qr g.up (by omega),Array.getElem?_eq_none (aai es.size)]
 exact hQ
abbrev picked (w:World)(a:Addr)(ep:Nat)(es:Array (Int × Value)):Array (Int × Value):=pickOrder (w.params.setOrder a ep) es
theorem sT {sl:Nat}{Q:Option (Value × Nat)->Shared->Prop}(hs:eB s.heap a es ep t)(hT:rF w=true)(hQ:Q (((picked w a ep es)[i]?).map fun e=>(e.2,sl)) s) :
  wpAny (model prog w) A (setNext a sl i ep) Q E s:=by
 obtain⟨o,ho,hex,hd,hf⟩:=hs
 unfold setNext
 refine aaa (ack ho hd hf ?_)
 refine aaa (aaa (acu (aad ?_)))
 show wpAny _ _ (if rF w=true then _ else _) _ _ _
 rw[aaz hT]
 rw[aar (by simp)]
 refine aaa ?_
 unfold setWalk
 refine aaa (ack ho hd hf ?_)
 refine aaa (aaa (acu (aad ?_)))
 show wpAny _ _ (if rF w=true then _ else _) _ _ _
 rw[aaz hT]
 exact aaa (acu (aad (aad hQ)))
theorem Fe {Q:Value->Shared->Prop}(hs:eB s.heap a es ep t)(hz:es.size<=sizeLine)
  (h1:(!rF w&&GP es t)=false->Q (.ref s.heap.objs.size) { s with heap:=s.heap.push { cls:=.type "set_iterator",data:=.fields #[.int 0 0,.int 0 0,.ref a,.int es.size 0,.int ep 0] } })
  (h2:(!rF w&&GP es t)=true->∀ (ps:List Nat) d,ps.Perm (List.range es.size)->Q (.ref (s.heap.objs.size+1)) { s with
   heap:=(s.heap.push { cls:=.type "tuple",data:=.seq (ps.map fun (i:Nat)=>rawInt i).toArray }).push { cls:=.type "set_iterator",data:=.fields #[.ref s.heap.objs.size,.int 0 0,.ref a,.int es.size 0,.int ep 0] },drawn:=d }) :
  wpAny (model prog w) A (pyIter (.ref a)) Q E s:=by
 obtain⟨o,ho,hex,hd,hf⟩:=id hs
 have hT:s.TypeIs (.ref a) "set":=⟨o,ho,hex.1⟩
 refine wpAny_pyIter_slot hT PySem.F.slot_set_iter (aa3 PySem.F.slot_set_iter hT Io ?_ (PySem.F.args_set_iter_1 _))
 unfold Builtin.«frozenset.__iter__»
 refine aaa ?_
 unfold Builtin.Frozenset.slot0
 refine aaa (aad ?_)
 show wpAny _ _ (pure a) _ _ _
 refine aad (aaa ?_)
 unfold Builtin.Frozenset.sizeOf
 refine aaa (ac1 ho hd hf (aad (aaa ?_)))
 refine aaa (ack ho hd hf ?_)
 refine aaa (aaa (acu (aad (aad ?_))))
 show wpAny _ _ (if (!rF w&&GP es t)=true then _ else _) _ _ _
 cases c:(!rF w&&GP es t) with
 | false=>
  rw[aar aaj]
  refine aaa (aad (aaa (wpAny_setEpoch_of ho hd hf ?_)))
  refine aaa (aa1 (aad ⟨_,rfl,"set_iterator",_,⟨_,aap _ rfl,rfl⟩,eh.lookup,?_⟩))
  simpa [rawInt] using h1 c
 | true=>
  rw[aaz rfl]
  refine aaa (AO _ _ _ _ (by simp) fun ps d hp=>?_)
  have hl:(ps.map fun (i:Nat)=>rawInt (i:Int)).length<=sizeLine:=by rw[aas,hp.length_eq,acE];exact hz
  refine aaa (wpAny_newTuple ?_ hl)
  have Nl:(s.heap.push { cls:=.type "tuple",data:=.seq (ps.map fun (i:Nat)=>rawInt (i:Int)).toArray }).get? a=some o:=aab _ ho
  refine aaa (wpAny_setEpoch_of Nl hd hf ?_)
  refine aaa (aa1 (aad ⟨_,rfl,"set_iterator",_,⟨_,aap _ rfl,rfl⟩,eh.lookup,?_⟩))
  have:=h2 c ps d hp
  simpa [rawInt,aax] using this
end
end wD
namespace wD
open PySem PyProof.Rows PySem.W
section
variable {prog:Program}{w:World}{A:Around}{E:Value->Shared->Prop}{s:Shared}{a:Addr}{es:Array (Int × Value)}{ep:Nat}{t:SetTable}
theorem Ip:entryFor table "set_iterator.__iter__"=some Builtin.«dict_keyiterator.__iter__»:=entryFor_alias (id':="dict_keyiterator.__iter__") (by kernel_rfl) rfl (by decide +kernel) (by kernel_rfl)
theorem Iq (a:Value):argsOk "set_iterator.__iter__" ⟨[a],[]⟩:=by
 unfold argsOk;rw[signature?_of (id:="set_iterator.__iter__") (n:=['_','_','r','e','t','i','_','_']) (o:=['r','o','t','a','r','e','t','i','_','t','e','s']) (by kernel_rfl) JT];kernel_rfl
theorem mP {it:Addr}{f:Value}{i n:Nat}{Q:Value->Shared->Prop}(hi:df s.heap it a f i n ep)(h:Q (.ref it) s):wpAny (model prog w) A (pyIter (.ref it)) Q E s:=by
 refine wpAny_pyIter_slot hi.type AN (aa3 AN hi.type Ip ?_ (Iq _))
 show wpAny _ _ (ret (.ref it)) _ _ s
 exact aad ⟨_,rfl,"set_iterator",_,hi.type,eh.lookup,h⟩
theorem yL (hh:A.handled=none)(I:Addr)(rJ:a≠I)(hT:rF w=false)(hD:GP es t=false)(g:Good true t) :
  Walks prog w A I [I,a] [I] es.size (fun i v=>∃ e,es[i]?=some e/\v=e.2) (fun i h=>df h I a (.int (slotAt t i) 0) i es.size ep/\eB h a es ep t) where
 sub:=fun b hb=>by simp at hb;simp[hb]
 frame:=fun _ _ _ st hk=>⟨st.1.keeps fun o e=>hk I (by simp) o e,st.2.keeps fun o e=>hk a (by simp) o e⟩
 item:=fun i s Q E hi st hQ=>by
  refine wK st.1 st.2 rJ (fun A' Q' E' q=>yK st.2 hT hD g hi q) fun h' P6 sb=>?_
  exact hQ _ h' s.toks ⟨es[i],aaD hi,rfl⟩ ⟨P6,st.2.keeps fun o e=>(sb.2 a rJ).trans e⟩ fun b o hb e=>(sb.2 b fun z=>hb (by simp[z])).trans e
 done:=fun s Q E st hQ=>sR hh st.1 st.2 (fun A' Q' E' q=>wM st.2 hT hD g q) fun h' x=>hQ h' s.toks fun b o hb e=>x b o (fun z=>hb (by simp[z])) e
 self:=fun _ _ _ _ st hQ=>mP st.1 hQ
theorem BU (hh:A.handled=none)(I:Addr)(rJ:a≠I)(hT:rF w=true) :
  Walks prog w A I [I,a] [I] es.size (fun i v=>∃ e,(picked w a ep es)[i]?=some e/\v=e.2) (fun i h=>df h I a (.int (0:Nat) 0) i es.size ep/\eB h a es ep t) where
 sub:=fun b hb=>by simp at hb;simp[hb]
 frame:=fun _ _ _ st hk=>⟨st.1.keeps fun o e=>hk I (by simp) o e,st.2.keeps fun o e=>hk a (by simp) o e⟩
 item:=fun i s Q E hi st hQ=>by
  have hz:(picked w a ep es).size=es.size:=by rw[<- aaU,(ko _ es).length_eq,aaU]
  have hp:i<(picked w a ep es).size:=by omega
  refine wK (x:=(picked w a ep es)[i].2) (nx:=0) st.1 st.2 rJ (fun A' Q' E' q=>sT st.2 hT (by rw[aaD hp];exact q)) fun h' P6 sb=>?_
  exact hQ _ h' s.toks ⟨_,aaD hp,rfl⟩ ⟨P6,st.2.keeps fun o e=>(sb.2 a rJ).trans e⟩ fun b o hb e=>(sb.2 b fun z=>hb (by simp[z])).trans e
 done:=fun s Q E st hQ=>by
  have hz:(picked w a ep es).size=es.size:=by rw[<- aaU,(ko _ es).length_eq,aaU]
  exact sR hh st.1 st.2 (fun A' Q' E' q=>sT st.2 hT (by rw[Array.getElem?_eq_none (by omega)];exact q)) fun h' x=>hQ h' s.toks fun b o hb e=>x b o (fun z=>hb (by simp[z])) e
 self:=fun _ _ _ _ st hQ=>mP st.1 hQ
theorem yM {f:Addr}{ps:List Nat}(hh:A.handled=none)(I:Addr)(rJ:a≠I)(YA:f≠I)(hp:ps.Perm (List.range es.size)) :
  Walks prog w A I [I,a,f] [I] es.size (fun i v=>∃ p e,ps[i]?=some p/\es[p]?=some e/\v=e.2) (fun i h=>df h I a (.ref f) i es.size ep/\eB h a es ep t/\h.IsTuple f (ps.map fun (i:Nat)=>rawInt i).toArray) where
 sub:=fun b hb=>by simp at hb;simp[hb]
 frame:=fun _ _ _ st hk=>⟨st.1.keeps fun o e=>hk I (by simp) o e,st.2.1.keeps fun o e=>hk a (by simp) o e,let ⟨o,p,r⟩:=st.2.2;⟨o,hk f (by simp) o p,r⟩⟩
 item:=fun i s Q E hi st hQ=>by
  have hl:ps.length=es.size:=by rw[hp.length_eq,acE]
  have h1:i<ps.length:=by omega
  have h2:ps[i]<es.size:=ab0.mp (hp.mem_iff.mp (acM h1))
  refine yJ st.1 st.2.1 st.2.2 (aat h1) (aaD h2) fun h' P6 sb=>?_
  exact hQ _ h' s.toks ⟨_,_,aat h1,aaD h2,rfl⟩ ⟨P6,st.2.1.keeps fun o e=>(sb.2 a rJ).trans e,let ⟨o,p,r⟩:=st.2.2;⟨o,(sb.2 f YA).trans p,r⟩⟩ fun b o hb e=>(sb.2 b fun z=>hb (by simp[z])).trans e
 done:=fun s Q E st hQ=>by
  have hl:ps.length=es.size:=by rw[hp.length_eq,acE]
  exact wL hh st.1 st.2.1 st.2.2 (List.getElem?_eq_none (by omega)) fun h' x=>hQ h' s.toks fun b o hb e=>x b o (fun z=>hb (by simp[z])) e
 self:=fun _ _ _ _ st hQ=>mP st.1 hQ
def RO (es:Array (Int × Value))(p:Nat):Value:=(es.getD p (0,.none)).2
theorem Ff {es:Array (Int × Value)}{p:Nat}(h:p<es.size):RO es p=es[p].2:=by
 unfold RO
 rw[acz,aaD h]
 rfl
theorem yN (es:Array (Int × Value)):es.toList.map (·.2)=(List.range es.size).map (RO es):=by
 refine adV (by simp) fun i h1 h2=>?_
 have h:i<es.size:=by simpa using h1
 rw[adU,adU,List.getElem_range,Ff h]
 simp
theorem oa {es:Array (Int × Value)}{acc:Array Value}{n:Nat}(hn:es.size=n)(h:ItemsOf (fun i v=>∃ e,es[i]?=some e/\v=e.2) acc n):acc.toList=es.toList.map (·.2):=by
 refine adV (by simp[h.1,hn]) fun i h1 h2=>?_
 have h3:i<acc.size:=by simpa using h1
 obtain⟨e,he,hv⟩:=h.2 i acc[i] (aaD h3)
 have h4:i<es.size:=by simpa using h2
 rw[aaD h4] at he
 cases he
 simpa using hv
theorem wN {es:Array (Int × Value)}{acc:Array Value}{ps:List Nat}(hp:ps.Perm (List.range es.size))(h:ItemsOf (fun i v=>∃ p e,ps[i]?=some p/\es[p]?=some e/\v=e.2) acc es.size):acc.toList.Perm (es.toList.map (·.2)):=by
 have hl:ps.length=es.size:=by rw[hp.length_eq,acE]
 have e:acc.toList=ps.map (RO es):=by
  refine adV (by simp[h.1,hl]) fun i h1 h2=>?_
  have h3:i<acc.size:=by simpa using h1
  obtain⟨p,e,GH,he,hv⟩:=h.2 i acc[i] (aaD h3)
  have h4:i<ps.length:=by simpa using h2
  rw[aat h4] at GH
  cases GH
  obtain⟨h5,h6⟩:=ab6.mp he
  rw[adU,Ff h5,h6,<- hv]
  simp
 rw[e,yN]
 exact hp.map _
structure Pk (prog:Program)(w:World)(A:Around)(s s1:Shared)(a I:Addr)(es:Array (Int × Value))(fp:List Addr)(P:Nat->Value->Prop)(St:Nat->Heap->Prop):Prop where
 walk:Walks prog w A I fp [I] es.size P St
 JU:St 0 s1.heap
 old:∀ b o,s.heap.get? b=some o->s1.heap.get? b=some o
 new:s.heap.get? I=none
 YB:∀ b∈fp,b=a\/s.heap.get? b=none
 same:s1={ s with heap:=s1.heap,drawn:=s1.drawn }
 perm:∀ acc,ItemsOf P acc es.size->acc.toList.Perm (es.toList.map (·.2))
theorem P7 {Q:Value->Shared->Prop}(hh:A.handled=none)(hs:eB s.heap a es ep t)(hz:es.size<=sizeLine)(g:Good (!rF w) t)
  (h:∀ I s1 fp P St,Pk prog w A s s1 a I es fp P St->Q (.ref I) s1):wpAny (model prog w) A (pyIter (.ref a)) Q E s:=by
 have la:a<s.heap.objs.size:=let ⟨o,p,_⟩:=hs;aae p
 refine Fe (t:=t) hs hz (fun c=>?_) (fun c ps d hp=>?_)
 ·have rJ:a≠s.heap.objs.size:=aal la
  have st:df (s.heap.push { cls:=.type "set_iterator",data:=.fields #[.int 0 0,.int 0 0,.ref a,.int es.size 0,.int ep 0] }) s.heap.objs.size a (.int (0:Nat) 0) 0 es.size ep:=⟨_,aap _ rfl,rfl,rfl⟩
  have Pp:eB (s.heap.push { cls:=.type "set_iterator",data:=.fields #[.int 0 0,.int 0 0,.ref a,.int es.size 0,.int ep 0] }) a es ep t:=hs.keeps fun o e=>aab _ e
  have nn:s.heap.get? s.heap.objs.size=none:=acW (aai _)
  have fp:∀ b∈[s.heap.objs.size,a],b=a\/s.heap.get? b=none:=fun b hb=>by
   rcases aaf.mp hb with rfl|hb
   ·exact .inr nn
   ·exact .inl (aaY.mp hb)
  cases hT:rF w with
  | true=>
   exact h _ _ _ _ _ ⟨BU (t:=t) (ep:=ep) hh _ rJ hT,⟨st,Pp⟩,fun b o e=>aab _ e,nn,fp,rfl,fun acc x=>by
    have hz:(picked w a ep es).size=es.size:=by rw[<- aaU,(ko _ es).length_eq,aaU]
    rw[oa hz x]
    exact (ko _ es).map _⟩
  | false=>
   rw[hT] at g c
   have hD:GP es t=false:=by simpa using c
   exact h _ _ _ _ _ ⟨yL (t:=t) (ep:=ep) hh _ rJ hT hD g,⟨st,Pp⟩,fun b o e=>aab _ e,nn,fp,rfl,fun acc x=>by rw[oa rfl x]⟩
 ·have sz:(s.heap.push { cls:=.type "tuple",data:=.seq (ps.map fun (i:Nat)=>rawInt i).toArray }).objs.size=s.heap.objs.size+1:=aax ..
  have n1:s.heap.get? (s.heap.objs.size+1)=none:=acW (abk _)
  have n0:s.heap.get? s.heap.objs.size=none:=acW (aai _)
  have st:df ((s.heap.push { cls:=.type "tuple",data:=.seq (ps.map fun (i:Nat)=>rawInt i).toArray }).push { cls:=.type "set_iterator",data:=.fields #[.ref s.heap.objs.size,.int 0 0,.ref a,.int es.size 0,.int ep 0] }) (s.heap.objs.size+1) a (.ref s.heap.objs.size) 0 es.size ep:=
   ⟨{ cls:=.type "set_iterator",data:=.fields #[.ref s.heap.objs.size,.int 0 0,.ref a,.int es.size 0,.int ep 0] },by rw[<- sz];exact aap _ rfl,rfl,rfl⟩
  refine h _ _ _ _ _ ⟨yM (t:=t) (ep:=ep) (f:=s.heap.objs.size) hh (s.heap.objs.size+1) (aal (aaM la)) (aal (ada _)) hp,⟨st,hs.keeps fun o e=>aab _ (aab _ e),_,aab _ (aap _ rfl),rfl,_,rfl⟩,fun b o e=>aab _ (aab _ e),n1,fun b hb=>?_,rfl,fun acc x=>wN hp x⟩
  rcases aaf.mp hb with rfl|hb
  ·exact .inr n1
  ·rcases aaf.mp hb with rfl|hb
   ·exact .inl rfl
   ·rw[aaY.mp hb]
    exact .inr n0
end
section
variable {prog:Program}{w:World}{A:Around}{E:Value->Shared->Prop}{s:Shared}{a:Addr}{es:Array (Int × Value)}{ep:Nat}{t:SetTable}
theorem Fg {Q:Bool->Shared->Prop}(hT:s.TypeIs (.ref a) "set")(h:Q false s):wpAny (model prog w) A (Builtin.List.listLengthHint (.ref a)) Q E s:=by
 unfold Builtin.List.listLengthHint
 refine aaa (aeV hT PySem.F.slot_set_len.lookup ?_)
 generalize Wg:("set.__len__":String)=YC
 wp_delta
 rw[show splitId YC=some ("set","__len__") from by subst Wg;decide +kernel]
 subst Wg
 refine aaa (acs (T:="set") (b:=true) hT (by rw[isSubtype_type];kernel_rfl) ?_)
 refine aeX (fun Us=>absurd Us (by decide)) (fun _=>?_)
 refine aeX (fun _=>?_) (fun Us=>absurd (by decide +kernel) Us)
 refine aaa (aeR hT ?_)
 exact aad h
theorem Ir {R:Result->Shared->Prop}(hh:A.handled=none)(hs:eB s.heap a es ep t)(hz:es.size<=sizeLine)(g:Good (!rF w) t)(S:Addr)(Wh:S≠a)(res:Value)(c₀:Nat)(hS:s.heap.get? S=some { cls:=.type "list",data:=.seq #[] c₀ })
  (hR:∀ h' tk d mQ c',(∀ b o,b≠S->s.heap.get? b=some o->h'.get? b=some o)->h'.get? S=some { cls:=.type "list",dict:=none,data:=.seq mQ c',slots:=#[] }->mQ.toList.Perm (es.toList.map (·.2))->R (.ok (.ret res)) { s with heap:=h',toks:=tk,drawn:=d }) :
  wpAny (model prog w) A.in1 (Builtin.List.listExtendWith (.ref S) (.ref a) res)
   (fun fin s'=>match fin with|.done f=>R (.ok f) s'|.again c'=>c'.quiet=true/\codeAny (model prog w) A c' R s') (fun e s'=>R (.error e) s') s:=by
 obtain⟨o,ho,hex,hd,hf⟩:=id hs
 have hT:s.TypeIs (.ref a) "set":=⟨o,ho,hex.1⟩
 unfold Builtin.List.listExtendWith
 refine aaa (aeR (T:="set") hT ?_)
 have h1:Builtin.List.listSameRef (.ref S) (.ref a)=false:=by simp[Builtin.List.listSameRef,Wh]
 have h2:(Value.type "set"==Value.type "list")=false:=by decide
 have h3:(Value.type "set"==Value.type "tuple")=false:=by decide
 simp only[h1,h2,h3,Bool.or_false,abL,adq]
 refine aaa (P7 (A:=A.in1) hh hs hz g fun I s1 fp P St pk=>?_)
 have e1:=pk.same
 have Il:S∉fp:=fun z=>by
  rcases pk.YB S z with y|y
  ·exact Wh y
  ·rw[hS] at y;cases y
 have hSI:S≠I:=fun z=>by
  have:=pk.new
  rw[<- z,hS] at this
  cases this
 have CC:=pk.old _ _ hS
 have key:∀ (h:Heap) (c₁ tk:Nat),St 0 h->(∀ b o,b≠S->s.heap.get? b=some o->h.get? b=some o)->h.get? S=some { cls:=.type "list",data:=.seq #[] c₁ } ->
   codeAny (model prog w) A (.builtin "list.extend.loop" ⟨[.ref S,.ref I,res],[]⟩) R { s1 with heap:=h,toks:=tk }:=by
  intro h c₁ tk oQ hk Fh
  refine codeAny_extend_loopS pk.walk.toS hz S Il res es.size 0 _ #[] c₁ rfl (abd _) oQ Fh (ItemsOf.nil _) fun s' mQ c' hm BQ aT=>?_
  rw[Moved.eq_with hm,e1]
  refine hR s'.heap s'.toks s1.drawn mQ c' (fun b o hb e=>hm.heap b o (fun oG=>?_) (hk b o hb e)) BQ (pk.perm _ aT)
  rcases aaf.mp oG with z|z
  ·exact hb z
  ·have:=pk.new
   rw[<- aaY.mp z,e] at this
   cases this
 have YD:s1.TypeIs (.ref a) "set":=⟨o,pk.old _ _ ho,hex.1⟩
 refine aaa (aaW (Fg YD ?_))
 refine aeX (fun _=>?_) (fun _=>aad ⟨ad7 PySem.F.plain_extend_loop _,key _ c₀ _ pk.JU (fun b o _ e=>pk.old _ _ e) CC⟩)
 refine aaa (acb ?_)
 refine aaa ?_
 show wpAny _ _ (updateSeq S (·.push .none) >>= fun _=>updateSeq S (·.pop)) _ _ _
 refine aaa (wpAny_updateSeq CC rfl ?_)
 have JV:=aa4 (Obj.mapSeq (·.push Value.none)) CC rfl
 refine wpAny_updateSeq (hz:=by seq_fits) JV rfl ?_
 have P8:=aa4 (Obj.mapSeq (·.pop)) JV rfl
 refine aad ⟨ad7 PySem.F.plain_extend_loop _,key _ _ _ ?_ (fun b o hb e=>?_) P8⟩
 ·refine pk.walk.frame 0 _ _ pk.JU fun b hb o e=>?_
  have Wi:b≠S:=fun h=>Il (h▸hb)
  exact (abc _ _ (Ne.symm Wi)).trans ((abc _ _ (Ne.symm Wi)).trans e)
 ·exact (abc _ _ (Ne.symm hb)).trans ((abc _ _ (Ne.symm hb)).trans (pk.old _ _ e))
theorem Fi {R:List Value->Shared->Prop}(hh:A.handled=none)(hs:eB s.heap a es ep t)(hz:es.size<=sizeLine)(g:Good (!rF w) t)
  (h:∀ (h':Heap) (tk:Nat) d (acc:Array Value),(∀ b o,s.heap.get? b=some o->h'.get? b=some o)->acc.toList.Perm (es.toList.map (·.2))->R acc.toList { s with heap:=h',toks:=tk,drawn:=d }) :
  wpAny (model prog w) A (collect (.ref a)) R E s:=by
 have la:a<s.heap.objs.size:=let ⟨o,p,_⟩:=hs;aae p
 unfold collect
 refine aaa (wpAny_runValue (acn entry_proto_collect' ?_))
 rw[acj PySem.F.plain_proto_collect _]
 show wpAny _ A.in1 (newList [] >>= fun l=>again (.builtin "list.__iadd__" ⟨[l,.ref a],[]⟩)) _ _ s
 refine aaa (aa1 ?_)
 refine aad ⟨ad7 PySem.F.plain_list_iadd _,acn entry_list_iadd' ?_⟩
 rw[acj PySem.F.plain_list_iadd _]
 have Fh:(s.heap.push { cls:=.type "list",data:=.seq ([]:List Value).toArray }).get? s.heap.objs.size=some { cls:=.type "list",data:=.seq #[] }:=aap _ rfl
 show wpAny _ A.in1 (Builtin.List.listExtendWith (.ref s.heap.objs.size) (.ref a) (.ref s.heap.objs.size)) _ _ _
 have key:=Ir (A:=A) (prog:=prog) (w:=w) (s:={ s with heap:=s.heap.push { cls:=.type "list",data:=.seq ([]:List Value).toArray } })
  (R:=fun (q:Result) (s':Shared)=>∃ (h':Heap) (tk:Nat) (d:Drawn) (mQ:Array Value) (c':Nat),q=.ok (.ret (.ref s.heap.objs.size))/\s'={ s with heap:=h',toks:=tk,drawn:=d } /\
   (∀ b o,s.heap.get? b=some o->h'.get? b=some o)/\h'.get? s.heap.objs.size=some { cls:=.type "list",dict:=none,data:=.seq mQ c',slots:=#[] }/\mQ.toList.Perm (es.toList.map (·.2)))
  hh (hs.keeps fun o e=>aab _ e) hz g s.heap.objs.size (abX la) (.ref s.heap.objs.size) 0 Fh
  (fun h' tk d mQ c' hk BQ aT=>⟨h',tk,d,mQ,c',rfl,rfl,fun b o e=>hk b o (aal (aae e)) (aab _ e),BQ,aT⟩)
 refine aav key (fun fin s' x=>?_) fun e s' x=>?_
 ·cases fin with
  | done f=>
   obtain⟨h',tk,d,mQ,c',e,rfl,hk,BQ,aT⟩:=x
   cases e
   show wpAny _ A (load s.heap.objs.size >>= _) _ _ _
   exact aaa (wpAny_load BQ (aad (h h' tk d mQ hk aT)))
  | again c₁=>
   refine⟨x.1,acI x.2 fun q s₂ y=>?_⟩
   obtain⟨h',tk,d,mQ,c',rfl,rfl,hk,BQ,aT⟩:=y
   show wpAny _ A (load s.heap.objs.size >>= _) _ _ _
   exact aaa (wpAny_load BQ (aad (h h' tk d mQ hk aT)))
 ·obtain⟨_,_,_,_,_,e',_⟩:=x
  cases e'
end
end wD
namespace L2
open PySem PySem.Spec PyProof.Rows PySem.W wD
theorem sU:∀ (L D:List Int),D.Nodup->(∀ x∈D,x∈L)->L.length<=D.length->L.Nodup
 | [],D,_,_,_=>aeP
 | x::L,D,hd,hs,hl=>by
  have no:¬ (∀ y∈D,y∈L):=fun h=>by
   have:=acf hd h
   simp only[aa8] at hl
   omega
  have hx:x∈D:=by
   by_cases c:x∈D
   ·exact c
   ·exact absurd (fun y hy=>(aaf.mp (hs y hy)).elim (fun e=>absurd (e▸hy) c) id) no
  have ih:=sU L (D.erase x) (hd.erase x) (fun y hy=>by
   have:=(hd.mem_erase_iff).mp hy
   exact (aaf.mp (hs y this.2)).elim (fun e=>absurd e this.1) id) (by
   rw[List.length_erase_of_mem hx]
   simp only[aa8] at hl
   omega)
  refine acd.mpr ⟨fun c=>no fun y hy=>?_,ih⟩
  exact (aaf.mp (hs y hy)).elim (fun e=>e▸c) id
theorem fk (val:Nat->Int):∀ i,(firstMet val i).Nodup
 | 0=>aeP
 | i+1=>by
  rw[firstMet_succ]
  unfold step_dedup
  split
  ·exact fk val i
  ·rename_i h
   refine List.nodup_append.mpr ⟨fk val i,acd.mpr ⟨by simp,aeP⟩,fun a ha b hb e=>h ?_⟩
   rw[aaY.mp hb] at e
   exact abM.mpr ⟨a,ha,by rw[e];exact adQ _⟩
theorem wO (ns:List Int):(List.range ns.length).map (fun i=>ns.getD i 0)=ns:=by
 refine adV (by simp) fun i h1 h2=>?_
 rw[adU,List.getElem_range,aaA,aat h2]
 rfl
theorem qu {l:List Int}{k:Int}:l.any (·==k)=true↔k∈l:=by
 rw[abM]
 exact⟨fun ⟨x,h,e⟩=>(ab1.mp e)▸h,fun h=>⟨k,h,adQ _⟩⟩
def Fj (P:Program)(w:World)(p:Addr)(ns:List Int)(h:Heap):Prop:=∃ D:List Int,D.Nodup/\(∀ k,k∈D↔k∈ns)/\kC P w (!rF w) h p (fun k=>D.any (·==k)) D.length
theorem kJ:∀ {ns:List Int}{us:List Value},Vals (ns.map V.int) us->IntsAre us ns
 | [],_,r=>by cases r;exact .nil
 | n::ns,_,r=>by
  cases r with
  | cons r1 r2=>
   obtain⟨t,rfl⟩:=r1
   exact .cons n t (kJ r2)
theorem sV {X:Cx}(hc:X.calm=true):ff X (.type "set") (fun xs H Q=>∃ (l:Addr) (ns:List Int),xs=[.ref l]/\aM X.K H l (ns.map V.int)/\ns.length<4000/\∀ p,H p=none->Q (.ref p) (upd H p (.ext (Fj X.prog X.w p ns)))):=by
 intro pins s σ H xs us Q I rv h
 obtain⟨l,ns,rfl,hl,hz,q⟩:=h
 obtain⟨u,rfl,ru⟩:=rv.one
 cases ru
 obtain⟨aK,r',pl,_⟩:=I.list hl
 have hI:=kJ r'
 have hlen:aK.length=ns.length:=by rw[<- r'.length,aas]
 refine BR (items:=aK.toArray) (ns:=ns) (show X.A.handled=none from I.ok.hd hc) pl.isList (by simpa using hI) (by rw[aau,hlen];unfold scanBound;omega) fun h' tk g kp=>?_
 have sz:aK.toArray.size=ns.length:=by rw[aau,hlen]
 rw[sz] at g
 have e:Fj X.prog X.w s.heap.objs.size ns h':=⟨_,fk _ _,fun k=>by rw[<- qu,firstMet_any,wO,qu],g⟩
 have I2:=I.laid (a:=s.heap.objs.size) (o:=.ext (Fj X.prog X.w s.heap.objs.size ns)) (h':=h') (t':=tk) (fun b o z=>kp b o (aae z) z) (aai _) ⟨e,let ⟨_,_,_,o,_,_,_,p,_⟩:=e;⟨o,p⟩,fun _ _ ⟨D,d1,d2,d3⟩ k=>⟨D,d1,d2,d3.keeps fun o z=>k _ z⟩⟩
 exact⟨.ref s.heap.objs.size,_,I2,rfl,q _ (I.bE.fresh (aai _))⟩
theorem jM {P:Program}{w:World}{k:Int}{v:Value}(h:(intKind P w).is k v=true):∃ t,v=.int k t:=by
 have h':Value.isInt k v=true:=h
 cases v with
 | int i t=>
  have e:i=k:=by simpa [Value.isInt] using h'
  exact⟨t,by rw[e]⟩
 | _=>simp[Value.isInt] at h'
theorem sW:∀ (vs:List Value),(∀ v∈vs,∃ k t,v=Value.int k t)->∃ ks,IntsAre vs ks
 | [],_=>⟨[],.nil⟩
 | v::vs,h=>by
  obtain⟨k,t,rfl⟩:=h v (.head _)
  obtain⟨ks,r⟩:=sW vs fun v hv=>h v (.tail _ hv)
  exact⟨k::ks,.cons k t r⟩
theorem sX:∀ {vs:List Value}{ks:List Int},IntsAre vs ks->∀ k,k∈ks↔∃ t,Value.int k t∈vs
 | _,_,.nil,k=>by simp
 | _,_,.cons n t r,k=>by
  rw[aaf,sX r k]
  constructor
  ·rintro (rfl|⟨t',h⟩)
   ·exact⟨t,.head _⟩
   ·exact⟨t',.tail _ h⟩
  ·rintro⟨t',h⟩
   rcases aaf.mp h with h|h
   ·cases h;exact .inl rfl
   ·exact .inr ⟨t',h⟩
theorem js:∀ {l:List Int},l.Pairwise (·<=·)->l.Nodup->l.Pairwise (·<·)
 | [],_,_=>.nil
 | x::l,h,d=>by
  rw[abT] at h ⊢
  rw[acd] at d
  refine⟨fun y hy=>?_,js h.2 d.2⟩
  have:=h.1 y hy
  have:x≠y:=fun e=>d.1 (e▸hy)
  omega
theorem l8 {X:Cx}(hc:X.calm=true):ff X (.builtin "sorted") (fun xs H Q=>∃ (p:Addr) (ns:List Int),xs=[.ref p]/\H p=some (.ext (Fj X.prog X.w p ns))/\ns.length<64 /\
  ∀ (q:Addr) (ks:List Int),H q=none->ks.Pairwise (·<·)->(∀ k,k∈ks↔k∈ns)->Q (.ref q) (upd H q (.lst (ks.map V.int)))):=by
 intro pins s σ H xs us Q I rv h
 obtain⟨p,ns,rfl,hH,h64,q⟩:=h
 obtain⟨u,rfl,ru⟩:=rv.one
 cases ru
 obtain⟨⟨D,dn,dm,o,es,ep,t,ho,hex,hd,vE,oG,hb,hf,hn,g⟩,_,_⟩:=(show bJ X.prog X.w H s.heap p (.ext (Fj X.prog X.w p ns)) from I.bE p _ hH)
 have dl:D.length<=ns.length:=acf dn fun k hk=>(dm k).mp hk
 have sz:es.size<=sizeLine:=aeL hb
 refine Calls.call_function_entry kind_sorted plain_sorted entry_sorted (args_sorted1 _) ?_
 unfold Builtin.«sorted»
 refine aaa (m:=checkCount "sorted" 1 1 _) (aad ?_)
 refine aaa (Fi (A:=X.A.in1) (show X.A.in1.handled=none from I.ok.hd hc) (⟨o,ho,hex,hd,hf⟩:eB s.heap p es ep t) sz g fun h' tk d acc hk aT=>?_)
 have P9:acc.toList.length=D.length:=by rw[aT.length_eq,aas,aaU,hn]
 refine aaa (wpAny_newList ?_ (by rw[P9,<- hn];exact sz))
 obtain⟨ks,hI⟩:=sW acc.toList fun v hv=>by
  obtain⟨e,he,rfl⟩:=abb.mp (aT.mem_iff.mp hv)
  obtain⟨⟨k,hk,_⟩,_⟩:=vE e he
  obtain⟨t,ht⟩:=jM hk
  exact⟨k,t,ht⟩
 have Qa:∀ k,k∈ks↔k∈D:=fun k=>by
  rw[sX hI k,<- qu (l:=D),oG k]
  constructor
  ·rintro⟨t,ht⟩
   obtain⟨e,he,e2⟩:=abb.mp (aT.mem_iff.mp ht)
   exact⟨e,he,by rw[e2];exact intKind_is _ _ _ _⟩
  ·rintro⟨e,he,hk⟩
   obtain⟨t,ht⟩:=jM hk
   exact⟨t,aT.mem_iff.mpr (abb.mpr ⟨e,he,ht⟩)⟩
 have kl:ks.length=D.length:=by rw[<- hI.length,P9]
 have knd:ks.Nodup:=sU ks D dn (fun x hx=>(Qa x).mpr hx) (by omega)
 have zD:(h'.push (seqObj "list" acc.toList.toArray 0)).get? h'.objs.size=some (seqObj "list" acc.toList.toArray 0):=aap _ rfl
 refine aaa (aaW (aa3 slot_list_sort ⟨_,zD,rfl⟩ entry_list_sort (list_sort_tree zD hI (by omega) fun out pZ a1 a2 a3=>⟨_,rfl,?_⟩) (args_list_sort _)))
 have I2:Inv X pins σ H { s with heap:=h',toks:=tk,drawn:=d }:=I.nM (s':={ s with heap:=h',toks:=tk,drawn:=d }) (ch:=[]) rfl (Un.kept hk) (I.bE.kept hk) I.bare fun b z=>absurd z (by simp)
 refine aad ⟨_,rfl,.ref h'.objs.size,upd H h'.objs.size (.lst (pZ.map V.int)),?_,rfl,?_⟩
 ·obtain⟨e,he⟩:=sortedHeap_at (out:=out) zD
  refine I2.laid (t':=tk) (fun b o e=>?_) (aai _) ⟨?_,out.toList,e,nO a1,?_⟩
  ·have eJ:b<h'.objs.size:=aae e
   rw[sortedHeap_old (aal eJ) (by rw[size_push'];exact aaM eJ)]
   exact aab _ e
  ·rw[aas,a2.length_eq,kl,<- hn];exact sz
  ·rw[Array.toArray_toList];exact he
 ·exact q _ pZ (I2.bE.fresh (aai _)) (js a3 (a2.nodup_iff.mpr knd)) fun k=>by rw[a2.mem_iff,Qa k,dm k]
end L2
namespace L2
open PySem PySem.Spec PyProof.Rows PySem.SeqAt
end L2
namespace L2
open PySem PySem.Spec PyProof.Rows
structure cm (X:Cx)(N:List Str)(fr:List Nat)(x x2 x3:Str)(scope:Scope)(cl:List (Str × Addr)):Prop where
 kind:scope.kind=.function
 fX:∀ y∈scope.names,y.2≠.cell
 loc:∀ y∈scope.names,y.2=.local->scope.names.lookup y.1=some .local
 own:scope.names.lookup x=some .local
 tW:scope.names.lookup x2=some .local
 Iu:scope.names.lookup x3=some .local
 kW:closureFor scope X.env=pure cl
 sub:∀ y c,cl.lookup y=some c->X.env.cells.lookup y=some c
 has:∀ y,((relabel scope X.env).names.lookup y=some .cell\/(relabel scope X.env).names.lookup y=some .free)->∃ c,cl.lookup y=some c
 nd:N.Nodup
 hN:N[0]?=some x
 Tv:N[1]?=some x2
 YE:N[2]?=some x3
 len:N.length=fr.length+3
 iT:∀ (j:Nat) (y:Str),N[j+3]?=some y->(relabel scope X.env).names.lookup y≠some .local
 out:∀ (j k:Nat),fr[j]?=some k->∃ y,N[j+3]?=some y/\X.N[k]?=some y/\X.env.kindOf y=some .cell
def gQ (σ:St)(fr:List Nat)(v v2 v3:Option V):St:=v::v2::v3::fr.map fun k=>(σ[k]?).join
def wQ (K:W.Frag)(J:It)(Q:VK)(H1:Hp)(te:TE)(σ:V->V->V->St):Prop:=∀ acc,H1 acc=none->∃ W:Nat->Nat->Hp->List V->Prop,(∃ m,W 0 m (upd H1 acc (.lst [])) []) /\
 ∀ i m H' vs,W i m H' vs->H' acc=some (.lst vs)/\((J.stop i H'/\Q (.ref acc) H')\/(J.go i H'/\vs.length<sizeLine/\∀ x H2,J.xE i H' x H2->∃ (t:Addr) (v1 v2 v3:V),x=.ref t/\aF K H2 t [v1,v2,v3]/\te (σ v1 v2 v3) H2 fun y H3=>H3 acc=some (.lst vs)/\∃ m',m'<m/\W (i+1) m' (upd H3 acc (.lst (vs++[y]))) (vs++[y])))
def Fl (K:W.Frag)(wi:TI)(fr:List Nat)(te:TE):TE:=fun σ H Q=>wi σ H fun J H1=>wQ K J Q H1 te (fun v1 v2 v3=>gQ σ fr (some v1) (some v2) (some v3))
def BV (K:W.Frag)(J:It)(Q:VK)(H1:Hp)(tc:TT)(te:TE)(σ:V->V->V->St):Prop:=∀ acc,H1 acc=none->∃ W:Nat->Nat->Hp->List V->Prop,(∃ m,W 0 m (upd H1 acc (.lst [])) []) /\
 ∀ i m H' vs,W i m H' vs->H' acc=some (.lst vs)/\((J.stop i H'/\Q (.ref acc) H')\/(J.go i H'/\vs.length<sizeLine/\∀ x H2,J.xE i H' x H2->∃ (t:Addr) (v1 v2 v3:V),x=.ref t/\aF K H2 t [v1,v2,v3]/\tc (σ v1 v2 v3) H2 fun b H3=>
  if b=true then te (σ v1 v2 v3) H3 fun y H4=>H4 acc=some (.lst vs)/\∃ m',m'<m/\W (i+1) m' (upd H4 acc (.lst (vs++[y]))) (vs++[y]) else ∃ m',m'<m/\W (i+1) m' H3 vs))
def Iv (K:W.Frag)(wi:TI)(fr:List Nat)(tc:TT)(te:TE):TE:=fun σ H Q=>wi σ H fun J H1=>BV K J Q H1 tc te (fun v1 v2 v3=>gQ σ fr (some v1) (some v2) (some v3))
section
variable {X:Cx}{N:List Str}{fr:List Nat}{x x2 x3:Str}{scope:Scope}{cl:List (Str × Addr)}{elt iter:Expr}{px nR Fm tp pos:Pos}{kt:Nat}{wi:TI}{te:TE}
theorem Iw {pins:List (Addr × Obj)}{σ:St}{H:Hp}{s:Shared}{fp:List Addr}{C:Addr}(S:cm X N fr x x2 x3 scope cl)(I:Inv X pins σ H s)(hf:∀ b∈fp,fh X pins H b)(hC:s.heap.objs.size<=C)(jF:∀ b∈fp,b<s.heap.objs.size):(kI X N scope cl C s H fp pins).Ok where
 mod:=I.ok.mod
 kind:=S.kind
 glob:=I.ok.glob
 blt:=I.ok.blt
 above:=hC
 inj:=fun y z c h1 h2=>I.ok.inj y z c (S.sub _ _ h1) (S.sub _ _ h2)
 has:=fun y h=>S.has y h
 Cz:=fun y c h=>by cases h
 hd:=I.ok.hd
 hs:=I.ok.hs
 frames:=I.ok.frames
 xK:=.inl rfl
 GS:=fun b hb=>⟨aal (aak (jF b hb) hC),fun y c h=>(hf b hb).2.2.2.2.1 y c (S.sub _ _ h)⟩
 bs:=fun b o e=>I.bs b o e
 pF:=aag I.ok.pF I.sz
 kO:=fun b o e hb=>by
  rcases (hf b hb).2.2.2.1 with z|z
  ·exact I.ok.kO b o e z
  ·exact absurd (aak (aae e) (aag I.ok.pF z)) (abo _)
 pG:=fun b hb z=>by
  rcases aaf.mp (I.dJ b z) with e|e
  ·exact (hf b hb).2.1 e
  ·exact (hf b hb).2.2.1 e
 iu:=I.stack
 r9:=I.kf
theorem yO {pins:List (Addr × Obj)}{σ:St}{H:Hp}{s s4:Shared}{fp:List Addr}{C:Addr}{m:Str->Option Value}(S:cm X N fr x x2 x3 scope cl)(I:Inv X pins σ H s)(hf:∀ b∈fp,fh X pins H b)(hC:s.heap.objs.size<=C)(jF:∀ b∈fp,b<s.heap.objs.size)
  (hn:s4.heap.Ns C m) (hk:∀ b o,s.heap.get? b=some o->s4.heap.get? b=some o) (ho:s4.os=s.os) (hg:s4.gens=s.gens):Inv (kI X N scope cl C s H fp pins) [] (gQ σ fr none none none) H s4:=by
 obtain⟨m0,Ts,hl⟩:=id I.loc
 refine⟨Iw S I hf hC jF,I.vC,ho,by rw[hg];exact I.bare,Un.kept hk,⟨m,hn,fun i y v e1 e2 e3=>?_⟩,fun y c h=>?_,I.bE.fresh hC,fun y c h=>I.dY y c (S.sub _ _ h),fun p hp=>?_,I.bE.kept hk,?_⟩
 ·match i,e1,e2 with
  | 0,e1,e2=>cases e2
  | 1,e1,e2=>cases e2
  | 2,e1,e2=>cases e2
  | j+3,e1,e2=>
   have pU:(fr.map fun k=>(σ[k]?).join)[j]?=some (some v):=e2
   rw[aaB] at pU
   cases ek:fr[j]? with
   | none=>rw[ek] at pU;cases pU
   | some k=>
    rw[ek] at pU
    have e4:(σ[k]?).join=some v:=aac pU
    obtain⟨y',h1,h2,h3⟩:=S.out j k ek
    have Lk:N[j+3]?=some y:=e1
    obtain rfl:y'=y:=aac (h1.symm.trans Lk)
    have e5:σ[k]?=some (some v):=by
     cases q:σ[k]? with
     | none=>rw[q] at e4;cases e4
     | some w=>rw[q] at e4;exact aa2 some e4
    obtain⟨u,r,lk⟩:=hl k y' v h2 e5 (.inr (.inl h3))
    refine⟨u,r,.inr ?_⟩
    rcases lk with ⟨z,_⟩|⟨_,c,hc,kE⟩
    ·rw[h3] at z;cases z
    ·have e6:Kp (relabel scope X.env) y':=e3
     have Du:(relabel scope X.env).names.lookup y'=some .cell\/(relabel scope X.env).names.lookup y'=some .free:=by
      rcases e6 with e6|e6|e6
      ·exfalso
       have nd:=S.nd
       -- a name of tD tS own is tD first one
       exact S.iT _ _ h1 e6
      ·exact .inl e6
      ·exact .inr e6
     obtain⟨c2,zM⟩:=S.has y' Du
     have:=S.sub _ _ zM
     rw[hc] at this;cases this
     obtain⟨o,z1,z2⟩:=kE
     exact⟨Du,c,zM,o,hk _ _ z1,z2⟩
 ·obtain⟨v,o,z1,z2⟩:=I.cell y c (S.sub _ _ h)
  exact⟨v,o,hk _ _ z1,z2⟩
 ·rw[abi] at hp
  obtain⟨e,k,ne,nf,d⟩:=I.pin p hp
  refine⟨hk _ _ e,k,aal (aak (aae e) hC),fun z=>?_,d⟩
  rcases aaf.mp (I.dJ _ z) with q|q
  ·exact ne q
  ·exact nf q
 ·show (gQ σ fr none none none).length=N.length
  rw[S.len]
  simp[gQ]
theorem qv {ifs:List Expr}{tc:TT}{use:Option (Value->Sem Unit)}{R:Value->Shared->Prop}{Q:VK}{pins:List (Addr × Obj)}{s:Shared}{σ:St}{H:Hp}{ep:Pos}(hc:X.bq=true)(S:cm X N fr x x2 x3 scope cl)(hi:PI X (.Tuple [.Name x px,.Name x2 nR,.Name x3 Fm] kt tp) iter wi)
  (ht:∀ (C:Addr) (s0:Shared) (H0:Hp) (fp:List Addr) (pins:List (Addr × Obj)),JE (kI X N scope cl C s0 H0 fp pins) ifs tc) (he:∀ (C:Addr) (s0:Shared) (H0:Hp) (fp:List Addr) (pins:List (Addr × Obj)),PE (kI X N scope cl C s0 H0 fp pins) elt te)
  (hs:∀ y,foldedSetIterable iter X.env y=pure y) (I:Inv X pins σ H s) (h:Iv X.K wi fr tc te σ H Q)
  (fin:∀ (acc C:Addr) (m:Str->Option Value) (H6:Hp) (s7:Shared),Q (.ref acc) H6->s7.heap.Ns C m->(∀ h':Heap,Heap.SameBut C s7.heap h'->Inv X pins σ H6 { s7 with heap:=h' })->H6 C=none->X.env.locals≠C->(∀ z c,X.env.cells.lookup z=some c->c≠C)->(∀ p∈X.pn++pins,p.1≠C)->X.s₀.heap.objs.size<=C->compPost (model X.prog X.w) X.A X.xe use R (.ref acc) C (.ok .next) s7) :
  wpAny (model X.prog X.w) X.A (comprehension (.ListComp elt [⟨.Tuple [.Name x px,.Name x2 nR,.Name x3 Fm] kt tp,iter,ifs,0⟩] scope pos) scope X.env ep (newList []) false (eval iter X.env) use) R X.xe s:=by
 refine ac2 (use:=use) rfl hs S.kW S.kind S.loc (dC (hi pins s σ H _ I h) fun v s1 h1=>dC h1 fun Ni s2 h2=>?_)
 obtain⟨it,fp,tn,J,H2,e,I2,T,vK,f2,hW⟩:=h2
 subst e
 have jF:∀ b∈fp,b<s2.heap.objs.size:=fun b hb=>by
  obtain⟨o,q,_⟩:=T.obj _ _ vK b hb
  exact aae q
 have Dw:H2 s2.heap.objs.size=none:=I2.bE.fresh (aai _)
 refine aa1 ?_
 have jG:∀ b o,s2.heap.get? b=some o->(s2.heap.push { cls:=.type "list",dict:=none,data:=.seq ([]:List Value).toArray }).get? b=some o:=fun b o q=>aab _ q
 have I3:Inv X pins σ (upd H2 s2.heap.objs.size (.lst [])) { s2 with heap:=s2.heap.push { cls:=.type "list",dict:=none,data:=.seq ([]:List Value).toArray } }:=
  I2.laid (t':=s2.toks) jG (aai _) ⟨abd _,[],0,.nil,aap _ rfl⟩
 obtain⟨W,⟨m0,w0⟩,turn⟩:=hW s2.heap.objs.size Dw
 have f3:∀ b∈fp,fh X pins (upd H2 s2.heap.objs.size (.lst [])) b:=fun b hb=>⟨by rw[aH (aal (jF b hb))];exact (f2 b hb).1,(f2 b hb).2⟩
 refine aem S.fX (by intro y hy;simp at hy) (fun h4 GF OI=>?_) S.kind
 have oC:∀ b∈fp,b<(s2.heap.push { cls:=.type "list",dict:=none,data:=.seq ([]:List Value).toArray }).objs.size:=fun b hb=>by
  rw[aax]
  exact aaM (jF b hb)
 have jH:∀ b o,(s2.heap.push { cls:=.type "list",dict:=none,data:=.seq ([]:List Value).toArray }).get? b=some o->h4.get? b=some o:=fun b o q=>
  (OI.2 b (aal (aae q))).trans (aab _ q)
 have I4:Inv (kI X N scope cl (s2.heap.push { cls:=.type "list",dict:=none,data:=.seq ([]:List Value).toArray }).objs.size { s2 with heap:=s2.heap.push { cls:=.type "list",dict:=none,data:=.seq ([]:List Value).toArray } } (upd H2 s2.heap.objs.size (.lst [])) fp pins) [] (gQ σ fr none none none) (upd H2 s2.heap.objs.size (.lst []))
   { s2 with heap:=h4,toks:=s2.toks+([]:List (Str × Value)).length }:=yO S I3 f3 (aai _) oC GF jH rfl rfl
 have Dx:tn 0 h4:=T.keep _ _ _ vK fun b hb o q=>jH b o (jG b o q)
 generalize hY:kI X N scope cl (s2.heap.push { cls:=.type "list",dict:=none,data:=.seq ([]:List Value).toArray }).objs.size { s2 with heap:=s2.heap.push { cls:=.type "list",dict:=none,data:=.seq ([]:List Value).toArray } } (upd H2 s2.heap.objs.size (.lst [])) fp pins=Y at I4
 have vE:PE Y elt te:=hY▸he _ _ _ _ _
 have Dy:JE Y ifs tc:=hY▸ht _ _ _ _ _
 have eA:Y.A=X.A:=by rw[<- hY];rfl
 have eP:Y.prog=X.prog:=by rw[<- hY];rfl
 have ew:Y.w=X.w:=by rw[<- hY];rfl
 have eK:Y.K=X.K:=by rw[<- hY];rfl
 have eC:Y.bq=true:=by rw[<- hY];exact hc
 have eE:Y.env=compEnvC scope cl (s2.heap.push { cls:=.type "list",dict:=none,data:=.seq ([]:List Value).toArray }).objs.size X.env:=by rw[<- hY];rfl
 have eX:Y.xe=fun _ _=>False:=by rw[<- hY];rfl
 have hg:PG Y (.Tuple [.Name x px,.Name x2 nR,.Name x3 Fm] kt tp) (CN Y.K 3 (pI (jB 0) (pI (jB 1) (pI (jB 2) Kw)))):=by
  refine xM eC (aD ?_ (aD ?_ (aD ?_ dE))) (by rfl) (by rfl)
  ·subst hY
   exact gJ (i:=0) S.nd S.hN (.inl (abf S.own)) (.inr (abf S.own))
  ·subst hY
   exact gJ (i:=1) S.nd S.Tv (.inl (abf S.tW)) (.inr (abf S.tW))
  ·subst hY
   exact gJ (i:=2) S.nd S.YE (.inl (abf S.Iu)) (.inr (abf S.Iu))
 have fY:∀ {H':Hp},(∀ b∈fp,H' b=none)->∀ b∈fp,fh Y [] H' b:=fun {H'} hn b hb=>by
  subst hY
  obtain⟨_,g2,g3,g4,g5,g6⟩:=f3 b hb
  refine⟨hn b hb,aal (oC b hb),fun z=>?_,.inl hb,fun y c q=>g5 y c (S.sub _ _ q),fun p hp=>?_⟩
  ·rcases aaf.mp (I3.dJ b z) with q|q
   ·exact g2 q
   ·exact g3 q
  ·rw[abi] at hp
   exact g6 p hp
 have loop:∀ s5:Shared,s5={ s2 with heap:=h4,toks:=s2.toks+([]:List (Str × Value)).length } ->
   codeAny (model X.prog X.w) X.A (.compLoop (.ListComp elt [⟨.Tuple [.Name x px,.Name x2 nR,.Name x3 Fm] kt tp,iter,ifs,0⟩] scope pos) 0 (.ref it) (.ref s2.heap.objs.size) (compEnvC scope cl (s2.heap.push { cls:=.type "list",dict:=none,data:=.seq ([]:List Value).toArray }).objs.size X.env))
    (compPost (model X.prog X.w) X.A X.xe use R (.ref s2.heap.objs.size) (s2.heap.push { cls:=.type "list",dict:=none,data:=.seq ([]:List Value).toArray }).objs.size) s5:=by
  rintro s5 rfl
  refine jr (fun n s'=>∃ i v v2 v3 H' vs,Inv Y [] (gQ σ fr v v2 v3) H' s'/\tn i s'.heap/\(∀ b∈fp,H' b=none)/\W i n H' vs) ?_ m0 ⟨0,none,none,none,_,[],I4,Dx,fun b hb=>(f3 b hb).1,w0⟩
  rintro n s6 ⟨i,v6,XU,v63,H6,vs,I6,Dz,DB,w6⟩
  obtain⟨aT,DC⟩:=turn i n H6 vs w6
  rcases DC with ⟨stop,qn⟩|⟨go,hz,step⟩
  ·have hd:=T.done Y eP ew eK eC i [] s6 _ H6 (fun _ _=>False) I6 (fY DB) Dz stop
   rw[eA] at hd
   refine aav hd (fun r s7 ⟨hr,I7⟩=>?_) fun _ _ z=>z.elim
   subst hr
   obtain⟨m,hn,_⟩:=id I7.loc
   rw[eE] at hn
   have eQ:∀ h':Heap,Heap.SameBut (s2.heap.push { cls:=.type "list",dict:=none,data:=.seq ([]:List Value).toArray }).objs.size s7.heap h'->Inv X pins σ H6 { s7 with heap:=h' }:=fun h' fF=>by
    subst hY
    exact tT I3 f3 (aai _) I7 fF
   have cf:H6 (s2.heap.push { cls:=.type "list",dict:=none,data:=.seq ([]:List Value).toArray }).objs.size=none:=by
    subst hY
    exact I7.free
   have big:∀ b o,s2.heap.get? b=some o->b≠(s2.heap.push { cls:=.type "list",dict:=none,data:=.seq ([]:List Value).toArray }).objs.size:=fun b o q=>aal (by rw[aax];exact aaM (aae q))
   obtain⟨m2,He,_⟩:=id I2.loc
   obtain⟨oL,_,_,zD,_⟩:=id He
   exact fin _ _ m H6 s7 qn hn eQ cf (big _ _ zD) (fun z c q=>by
    obtain⟨_,o,w1,_⟩:=I2.cell z c q
    exact big _ _ w1) (fun p hp=>by
    obtain⟨e,_⟩:=I2.pin p hp
    exact big _ _ e) (by
    rw[aax]
    exact acC (aag (aai _) I2.sz))
  ·have hd:=T.item Y eP ew eK eC i [] s6 _ H6 (fun _ _=>False) I6 (fY DB) Dz go
   rw[eA] at hd
   refine aav hd (fun r s7 ⟨u,hr,h7⟩=>?_) fun _ _ z=>z.elim
   subst hr
   refine aav h7 (fun _ s8 ⟨y,H8,I8,r8,y8,rO,Ll⟩=>?_) fun _ _ z=>z.elim
   have Ln:=I8.pinned (fY Ll) (T.obj _ _ rO)
   obtain⟨ta,va,vb,vc,ey,OO,DK⟩:=step y _ y8
   have h9:=hg _ s8 _ H8 y u (fun σ9 H9=>σ9=gQ σ fr (some va) (some vb) (some vc)/\H9=H8) Ln r8 ⟨ta,[va,vb,vc],ey,by rw[eK];exact OO,rfl,va,[vb,vc],rfl,vb,[vc],rfl,vc,[],rfl,rfl,rfl,rfl⟩
   rw[eA,eP,ew,eE,eX] at h9
   refine aav h9 (fun _ s9 ⟨σ9,H9,I9,e9,Lo⟩=>?_) fun _ _ z=>z.elim
   subst e9 Lo
   have vY:=Dy _ s9 _ _ _ I9 DK
   rw[eA,eP,ew,eE,eX] at vY
   refine aav vY (fun ok OJ ⟨VY,Ad,Ae⟩=>?_) fun _ _ z=>z.elim
   cases ok with
   | false=>
    rw[aar aaj] at Ae
    rw[aar aaj]
    obtain⟨m',hm,mG⟩:=Ae
    refine⟨m',hm,i+1,some va,some vb,some vc,_,vs,Ad.dM,T.keep _ _ _ rO fun b hb o q=>(Ad.pin (b,o) (aam _ (aam _ (aW hb q)))).1,fun b hb=>?_,mG⟩
    obtain⟨o,q,_⟩:=T.obj _ _ rO b hb
    exact (Ad.pin (b,o) (aam _ (aam _ (aW hb q)))).2.1
   | true=>
   rw[aaz rfl] at Ae
   rw[aaz rfl]
   have DD:=vE _ OJ _ _ _ Ad Ae
   rw[eA,eP,ew,eE,eX] at DD
   refine aav DD (fun Lp Bu ⟨tU,Bv,Lq,GJ,Lr,m',hm,mG⟩=>?_) fun _ _ z=>z.elim
   have DE:=dQ _ Bu _ Bv (.ref s2.heap.objs.size) [tU] (.ref s2.heap.objs.size) [Lp] (fun _ Af=>Af=upd Bv s2.heap.objs.size (.lst (vs++[tU]))) Lq rfl (.cons GJ .nil) ⟨_,vs,tU,rfl,rfl,Lr,hz,rfl⟩
   rw[eA,eP,ew,eX] at DE
   refine aav DE (fun _ Tt ⟨_,Af,yi,_,Ls⟩=>?_) fun _ _ z=>z.elim
   subst Ls
   refine⟨m',hm,i+1,some va,some vb,some vc,_,vs++[tU],yi.dM,T.keep _ _ _ rO fun b hb o q=>(yi.pin (b,o) (aam _ (aam _ (aW hb q)))).1,fun b hb=>?_,mG⟩
   obtain⟨o,q,_⟩:=T.obj _ _ rO b hb
   exact (yi.pin (b,o) (aam _ (aam _ (aW hb q)))).2.1
 exact ade (loop _ rfl) (T.self _ 0 _ _ _ Dx (loop _ rfl))
theorem wU (hc:X.bq=true)(S:cm X N fr x x2 x3 scope cl)(hi:PI X (.Tuple [.Name x px,.Name x2 nR,.Name x3 Fm] kt tp) iter wi)(he:∀ (C:Addr) (s0:Shared) (H0:Hp) (fp:List Addr) (pins:List (Addr × Obj)),PE (kI X N scope cl C s0 H0 fp pins) elt te)
  (hs:∀ y,foldedSetIterable iter X.env y=pure y:=by intro _;rfl):PE X (.ListComp elt [⟨.Tuple [.Name x px,.Name x2 nR,.Name x3 Fm] kt tp,iter,[],0⟩] scope pos) (Fl X.K wi fr te):=by
 intro pins s σ H Q I h
 rw[ady]
 exact qv (tc:=fun _ H Q=>Q true H) (use:=none) hc S hi (fun _ _ _ _ _=>ki) he hs I h fun acc C m H6 s7 qn hn eQ _ _ _ _ _=>⟨m,hn,fun h' fF=>⟨.ref acc,H6,eQ h' fF,rfl,qn⟩⟩
end
theorem cm.gen {X:Cx}{x x2 x3:Str}{scope:Scope}{cl:List (Str × Addr)}(ys:List Str)(ks:List Nat)(pZ:List (Str × NameKind))(kW:closureFor scope X.env=pure cl)(kind:scope.kind=.function:=by rfl)(fX:∀ z∈scope.names,z.2≠.cell:=by decide +kernel)(loc:∀ z∈scope.names,z.2=.local->scope.names.lookup z.1=some .local:=by decide +kernel)(own:scope.names.lookup x=some .local:=by rfl)(tW:scope.names.lookup x2=some .local:=by rfl)(Iu:scope.names.lookup x3=some .local:=by rfl)
  (sub:∀ p∈cl,X.env.cells.lookup p.1=some p.2:=by (intro p hp;(repeat (rcases aaf.mp hp with rfl|hp;focus rfl));cases hp)) (rl:(relabel scope X.env).names=pZ:=by rfl) (only:∀ p∈pZ,p.2=.cell\/p.2=.free->(cl.lookup p.1).isSome=true:=by (intro p hp h;(repeat (rcases aaf.mp hp with rfl|hp;focus (first|rfl|(rcases h with h|h<;>cases h))));cases hp)) (nd:(x::x2::x3::ys).Nodup:=by decide) (ny:∀ y∈ys,pZ.lookup y≠some .local:=by decide +kernel) (hl:ks.length=ys.length:=by rfl)
  (hk:∀ p∈ks.zip ys,X.N[p.1]?=some p.2/\X.env.kindOf p.2=some .cell:=by (intro p hp;(try simp only[acY,ac3] at hp);(repeat (rcases aaf.mp hp with rfl|hp;focus exact⟨rfl,rfl⟩));cases hp)):cm X (x::x2::x3::ys) ks x x2 x3 scope cl:=by
 subst rl
 refine⟨kind,fX,loc,own,tW,Iu,kW,fun y c h=>d9 (P:=fun y c=>X.env.cells.lookup y=some c) sub h,yn only,nd,rfl,rfl,rfl,by simp[hl],fun j y h=>?_,fun j k h=>oW (own:=[x,x2,x3]) hl hk j k h⟩
 exact ny y (aaV (by simpa using h))
theorem lq {K:W.Frag}{a:Addr}{xs:List V}{te:TE}{σ:V->V->V->St}{H:Hp}{Q:VK}(hK:∀ H',av H H'->aF K H' a xs)(hn:xs.length<sizeLine)(f1 f2 f3 f:Nat->V)
  (hr:∀ (i:Nat) (x:V),xs[i]?=some x->∃ t:Addr,x=.ref t/\∀ H',av H H'->aF K H' t [f1 i,f2 i,f3 i])
  (he:∀ (i:Nat) (H':Hp) (Q':VK),i<xs.length->av H H'->(∀ H2,av H' H2->Q' (f i) H2)->te (σ (f1 i) (f2 i) (f3 i)) H' Q')
  (q:∀ p H',av H H'->H p=none->H' p=some (.lst ((List.range xs.length).map f))->Q (.ref p) H'):wQ K (CS K a) Q H te σ:=by
 intro acc aT
 refine⟨fun i m H' vs=>i<=xs.length/\m=xs.length-i/\av H H'/\H' acc=some (.lst vs)/\vs=(List.range i).map f,⟨xs.length,abd _,by simp,ai aT _,ag,rfl⟩,?_⟩
 rintro i m H' vs ⟨hi,rfl,g,ha,rfl⟩
 refine⟨ha,?_⟩
 by_cases eJ:i<xs.length
 ·refine .inr ⟨⟨xs,xs[i],hK _ g,by simp[eJ]⟩,by rw[aas,acE];omega,fun x H2 h=>?_⟩
  obtain⟨rfl,hx⟩:=h
  have vJ:=hx xs (hK _ g)
  obtain⟨t,rfl,ht⟩:=hr i x vJ
  refine⟨t,f1 i,f2 i,f3 i,rfl,ht _ g,he i H2 _ eJ g fun H3 g3=>⟨g3 _ _ ha,xs.length-(i+1),by omega,by omega,rfl,fun b o z=>?_,ag,?_⟩⟩
  ·rw[aH (fun y=>by subst y;rw[z] at aT;cases aT)]
   exact g3 _ _ (g _ _ z)
  ·rw[aeE,aaS]
   rfl
 ·have e:i=xs.length:=by omega
  subst e
  exact .inl ⟨⟨xs,hK _ g,aai _⟩,q _ _ g aT ha⟩
section
variable {X:Cx}{N:List Str}{fr:List Nat}{x x2 x3:Str}{scope:Scope}{cl:List (Str × Addr)}{elt iter:Expr}{px nR Fm tp pos:Pos}{kt:Nat}{wi:TI}{te:TE}
def Mn (K:W.Frag)(wi:TI)(fr:List Nat)(te:TE)(k:Nat):TS:=fun D σ H=>Fl K wi fr te σ H fun v H'=>D.nx (σ.set k (some v)) H'
theorem Fo {y:Str}{py pV:Pos}{k:Nat}(hN:X.N.Nodup)(hk:X.N[k]?=some y)(hy:Loc X.env.scope y)(Hi:swapsWith (.ListComp elt [⟨.Tuple [.Name x px,.Name x2 nR,.Name x3 Fm] kt tp,iter,[],0⟩] scope pos) (some (.Name y py)) pV.line X.env=pure true)(hc:X.bq=true)(S:cm X N fr x x2 x3 scope cl)(hi:PI X (.Tuple [.Name x px,.Name x2 nR,.Name x3 Fm] kt tp) iter wi)(he:∀ (C:Addr) (s0:Shared) (H0:Hp) (fp:List Addr) (pins:List (Addr × Obj)),PE (kI X N scope cl C s0 H0 fp pins) elt te)
  (hf:X.fn y=true\/X.env.scope.names.lookup y=some .local) (hs:∀ y,foldedSetIterable iter X.env y=pure y:=by intro _;rfl):PS X (.Assign [.Name y py] (.ListComp elt [⟨.Tuple [.Name x px,.Name x2 nR,.Name x3 Fm] kt tp,iter,[],0⟩] scope pos) pV) (Mn X.K wi fr te k):=by
 intro pins s σ H D I h
 rw[adl _ _ _ _ Hi]
 refine aaa (abp (aaa ?_))
 show wpAny _ X.A (do let _ <- comprehension (.ListComp elt [⟨.Tuple [.Name x px,.Name x2 nR,.Name x3 Fm] kt tp,iter,[],0⟩] scope pos) scope X.env _ (newList []) false (eval iter X.env) (some (assign (.Name y py) X.env))) _ _ s
 refine aaa (aav (qv (tc:=fun _ H Q=>Q true H) (Q:=fun v H'=>D.nx (σ.set k (some v)) H') (use:=some (assign (.Name y py) X.env)) (R:=fun _ s'=>SP X pins D .next s') hc S hi (fun _ _ _ _ _=>ki) he hs I h (fun acc C m H6 s7 qn hn eQ cf cL cC cP cS=>by
  have J7:Inv X pins σ H6 s7:=eQ s7.heap ⟨rfl,fun _ _=>rfl⟩
  show wpAny _ X.A (assign (.Name y py) X.env (.ref acc)) _ _ _
  refine adh (iw J7 hN hk hy (v:=.ref acc) rfl (fun s8 J8 ⟨a,Lv,ha⟩=>?_) hf)
  have aC:C≠a:=by
   rcases ha with e|e
   ·rw[e];exact Ne.symm cL
   ·exact Ne.symm (cC _ _ e)
  exact⟨m,hn.sameBut Lv aC,fun h' fF=>⟨_,H6,J8.off fF cS cf (Ne.symm cL) cC cP,qn⟩⟩)) (fun _ s' hq=>aad (aad hq)) fun _ _ e=>e)
end
theorem Ut {h:Heap}{a:Addr}{us:Array Value}(p:PlainL h a us):h.IsList a us:=by
 obtain⟨o,n,e,c,_,d⟩:=p
 exact⟨o,e,c,n,d⟩
section
variable {P:Program}{w:World}{A:Around}{E:Value->Shared->Prop}{s:Shared}
structure ZL (z TI TO j1 j2 a1 a2:Addr)(us vs:Array Value)(i:Nat)(f0:Value)(h:Heap):Prop where
 zip:IsZip h z TI TO f0
 aK:IsPair h TI (.ref j1) (.ref j2)
 to:∃ a b,IsPair h TO a b
 i1:h.IsListIter j1 a1 i
 i2:h.IsTupleIter j2 a2 i
theorem Iy {z TI TO j1 j2 a1 a2:Addr}{us vs:Array Value}{i:Nat}{u v:Value}{Q:Value->Shared->Prop}(D:ZipApart z TI TO j1 j2 a1 a2)(Z:ZL z TI TO j1 j2 a1 a2 us vs i .none s.heap)
  (t1:s.heap.IsList a1 us) (t2:s.heap.IsTuple a2 vs) (eu:us[i]?=some u) (ev:vs[i]?=some v)
  (q:∀ h',ZL z TI TO j1 j2 a1 a2 us vs (i+1) (rawInt s.heap.objs.size) h'->IsPair h' s.heap.objs.size u v->h'.objs.size=s.heap.objs.size+1 ->
   (∀ c o,c≠z->c≠TO->c≠j1->c≠j2->s.heap.get? c=some o->h'.get? c=some o)->Q (.ref s.heap.objs.size) { s with heap:=h' }) :
  wpAny (model P w) A (Builtin.«zip.__next__» ⟨[.ref z],[]⟩) (fun fin s'=>∃ v,fin=.done (.ret v)/\Q v s') E s:=by
 obtain⟨hz,hI,⟨p1,p2,hO⟩,y1,y2⟩:=Z
 show wpAny _ _ (field (.ref z) (1+1) >>= _) _ _ _
 refine aaa (aaG hz rfl (x:=.bool false) rfl ?_);show wpAny _ _ (field (.ref z) (2+1) >>= _) _ _ _
 refine aaa (aaG hz rfl (x:=.ref TI) rfl (aaa (abh hI rfl ?_)))
 refine aaa (m:=Builtin.SmallTypes.ownedTupleIsFree (.ref z)) ?_
 unfold Builtin.SmallTypes.ownedTupleIsFree;refine aaa (aaG hz rfl (x:=.none) rfl (aad ?_))
 simp only[aef]
 refine aaa (acb (aaa (aaG hz rfl (x:=.ref TO) rfl ?_)))
 refine aaa (abA hz (by simp) fun w1 yk b1=>?_)
 replace yk:IsZip w1 z TI TO .ellipsis:=yk
 refine aaa ?_
 simp only[adT,ad1,ad4,adB];refine aaa (aaa (adx ?_))
 refine aaa (m:=Builtin.SmallTypes.nextOf (.ref j1)) (wpAny_nextOf_list_item (y1.extBut b1.extBut D.i1z) (t1.extBut b1.extBut D.l1z) eu fun w2 Tx b2=>aad ?_)
 have OQ:IsPair w2 TO p1 p2:=b2.extBut _ _ D.TOi1 (b1.extBut _ _ D.TOz hO)
 refine aaa (abh OQ rfl (aaa (ads OQ fun w3 LC b3=>?_)))
 replace LC:IsPair w3 TO u p2:=LC
 refine aaa (aeW (aad ?_));refine aaa (aaa (adx ?_))
 refine aaa (m:=Builtin.SmallTypes.nextOf (.ref j2)) (kZ (((y2.extBut b1.extBut D.i2z).extBut b2.extBut D.i12.symm).extBut b3.extBut D.TOi2.symm) (((t2.extBut b1.extBut D.l2z).extBut b2.extBut D.l2i1).extBut b3.extBut D.l2TO) ev fun w4 Tz b4=>aad ?_)
 have OR:IsPair w4 TO u p2:=b4.extBut _ _ D.TOi2 LC
 refine aaa (abh OR rfl (aaa (ads OR fun w5 Hr b5=>?_)))
 replace Hr:IsPair w5 TO u v:=Hr
 refine aaa (aeW (aad (aad ?_)));refine aaa (abh Hr rfl (aaa (wpAny_newTuple ?_)))
 have v7:w5.objs.size=s.heap.objs.size:=by rw[b5.1,b4.1,b3.1,b2.1,b1.1]
 have Hs:IsZip w5 z TI TO .ellipsis:=b5.extBut _ _ D.TOz.symm (b4.extBut _ _ D.i2z.symm (b3.extBut _ _ D.TOz.symm (b2.extBut _ _ D.i1z.symm yk)))
 have v8:∀ c o,c≠z->c≠TO->c≠j1->c≠j2->s.heap.get? c=some o->w5.get? c=some o:=fun c o c1 c2 c3 c4 e=>b5.extBut _ _ c2 (b4.extBut _ _ c4 (b3.extBut _ _ c2 (b2.extBut _ _ c3 (b1.extBut _ _ c1 e))))
 have TB:w5.IsListIter j1 a1 (i+1):=((Tx.extBut b3.extBut D.TOi1.symm).extBut b4.extBut D.i12).extBut b5.extBut D.TOi1.symm
 have TC:w5.IsTupleIter j2 a2 (i+1):=Tz.extBut b5.extBut D.TOi2.symm
 have OS:z<w5.objs.size:=aae Hs
 refine aaa (m:=Builtin.SmallTypes.ownedTupleHandOut (.ref z) (.ref w5.objs.size)) ?_
 unfold Builtin.SmallTypes.ownedTupleHandOut
 have TF:IsZip (w5.push { cls:=.type "tuple",data:=.seq #[u,v] }) z TI TO .ellipsis:=aab _ Hs
 refine aaa (abA TF (by simp) fun w7 LD b7=>?_)
 replace LD:IsZip w7 z TI TO (rawInt w5.objs.size):=LD
 refine abA LD (by simp) fun w8 Ht b8=>?_
 replace Ht:IsZip w8 z TI TO (rawInt w5.objs.size):=Ht
 have up:∀ c o,c≠z->w5.get? c=some o->w8.get? c=some o:=fun c o c1 e=>b8.extBut _ _ c1 (b7.extBut _ _ c1 (aab _ e))
 have DM:IsPair w8 w5.objs.size u v:=b8.extBut _ _ (abX OS) (b7.extBut _ _ (abX OS) (aap _ rfl))
 have v9:w8.objs.size=w5.objs.size+1:=by rw[b8.1,b7.1,aax]
 rw[v7] at Ht DM v9
 refine aad ⟨_,rfl,?_⟩
 show Q (.ref w5.objs.size) _
 rw[v7]
 exact q w8 ⟨Ht,up _ _ D.TIz (v8 _ _ D.TIz D.TITO D.TIi1 D.TIi2 hI),⟨_,_,up _ _ D.TOz Hr⟩,(let ⟨o,e,r⟩:=TB;⟨o,up _ _ D.i1z e,r⟩),(let ⟨o,e,r⟩:=TC;⟨o,up _ _ D.i2z e,r⟩)⟩ DM v9 fun c o c1 c2 c3 c4 e=>up c o c1 (v8 c o c1 c2 c3 c4 e)
theorem Mo {z TI TO j1 j2 a1 a2:Addr}{us vs:Array Value}{i:Nat}{Q:Fin->Shared->Prop}(ha:Still A s.heap)(nz:A.handled≠some (.ref z))(nj:A.handled≠some (.ref j1))(D:ZipApart z TI TO j1 j2 a1 a2)(Z:ZL z TI TO j1 j2 a1 a2 us vs i .none s.heap)
  (t1:s.heap.IsList a1 us) (eu:us[i]?=none)
  (q:∀ h' e,(∀ c o,c≠z->c≠TO->c≠j1->c≠j2->s.heap.get? c=some o->h'.get? c=some o)->(∃ o,h'.get? e=some o/\o.cls=.type "StopIteration")->E (.ref e) { s with heap:=h' }) :
  wpAny (model P w) A (Builtin.«zip.__next__» ⟨[.ref z],[]⟩) Q E s:=by
 obtain⟨hz,hI,⟨p1,p2,hO⟩,y1,y2⟩:=Z
 show wpAny _ _ (field (.ref z) (1+1) >>= _) _ _ _
 refine aaa (aaG hz rfl (x:=.bool false) rfl ?_);show wpAny _ _ (field (.ref z) (2+1) >>= _) _ _ _
 refine aaa (aaG hz rfl (x:=.ref TI) rfl (aaa (abh hI rfl ?_)))
 refine aaa (m:=Builtin.SmallTypes.ownedTupleIsFree (.ref z)) ?_
 unfold Builtin.SmallTypes.ownedTupleIsFree;refine aaa (aaG hz rfl (x:=.none) rfl (aad ?_))
 simp only[aef]
 refine aaa (acb (aaa (aaG hz rfl (x:=.ref TO) rfl ?_)))
 refine aaa (abA hz (by simp) fun w1 yk b1=>?_)
 replace yk:IsZip w1 z TI TO .ellipsis:=yk
 refine aaa ?_
 simp only[adT,ad1,ad4,adB];refine aaa (aaa (adx ?_))
 refine aaa (m:=Builtin.SmallTypes.nextOf (.ref j1)) (ou (ha.mono fun e o hh h=>b1.extBut _ _ (fun x=>nz (by rw[<- x];exact hh)) h) nj (y1.extBut b1.extBut D.i1z) (t1.extBut b1.extBut D.l1z) eu fun w2 e b2 he=>?_)
 obtain⟨oe,e1,e2⟩:=he
 have Hu:IsZip w2 z TI TO .ellipsis:=b2 _ _ D.i1z.symm yk
 have ez:e≠z:=fun x=>by
  subst x
  rw[Hu] at e1;cases e1;simp at e2
 exact abA Hu (by simp) fun w3 _ b3=>q w3 e (fun c o c1 _ c3 _ x=>b3.extBut _ _ c1 (b2 _ _ c3 (b1.extBut _ _ c1 x))) ⟨oe,b3.extBut _ _ ez e1,e2⟩
theorem Mp (a1 a2:Addr)(us vs:Array Value) :
  Meets (Builtin.«zip.__new__» ⟨[.type "zip",.ref a1,.ref a2],[]⟩) (fun _ R s=>s.heap.IsList a1 us/\s.heap.IsTuple a2 vs /\
   ∀ h',(∀ c o,s.heap.get? c=some o->h'.get? c=some o)->ZL (s.heap.objs.size+4) (s.heap.objs.size+2) (s.heap.objs.size+3) s.heap.objs.size (s.heap.objs.size+1) a1 a2 us vs 0 .none h'->h'.objs.size=s.heap.objs.size+5->R (.ok (.ret (.ref (s.heap.objs.size+4)))) { s with heap:=h' }):=
 .of_wp fun prog w A R s h=>by
  obtain⟨hp,g,d,tk,os⟩:=s;obtain⟨t1,t2,h⟩:=h
  have LH:=sub_zip
  have T1:Heap.IsList (Shared.heap ⟨hp,g,d,tk,os⟩) a1 us:=t1
  have T2:Heap.IsTuple (Shared.heap ⟨hp.push { cls:=.type "list_iterator",data:=.fields #[.ref a1,.int 0 0] },g,d,tk,os⟩) a2 vs:=t2.push _
  wp_walk using acm T1,abW T2
  refine⟨_,rfl,?_⟩
  simp only[aax]
  refine h _ (fun c o e=>aab _ (aab _ (aab _ (aab _ (aab _ e))))) ⟨?_,?_,⟨.none,.none,?_⟩,⟨_,aab _ (aab _ (aab _ (aab _ (aap _ rfl)))),rfl,rfl⟩,⟨_,aab _ (aab _ (aab _ (abH (by simp only[aax]) rfl))),rfl,rfl⟩⟩ (by simp only[aax])
  ·exact abH (by simp only[aax]) rfl
  ·exact aab _ (aab _ (abH (by simp only[aax]) rfl))
  ·exact aab _ (abH (by simp only[aax]) rfl)
theorem Iz {a1 a2:Addr}{us vs:Array Value}{Q:Value->Shared->Prop}(t1:s.heap.IsList a1 us)(t2:s.heap.IsTuple a2 vs)
  (q:∀ h',(∀ c o,s.heap.get? c=some o->h'.get? c=some o)->ZL (s.heap.objs.size+4) (s.heap.objs.size+2) (s.heap.objs.size+3) s.heap.objs.size (s.heap.objs.size+1) a1 a2 us vs 0 .none h'->h'.objs.size=s.heap.objs.size+5->Q (.ref (s.heap.objs.size+4)) { s with heap:=h' }) :
  wpAny (model P w) A (call (.type "zip") [.ref a1,.ref a2]) Q E s:=by
 refine callType_new F.called_zip (by decide) (F.typeCall_zip_2 _ _) (F.newCall_zip_2 _ _) (fun obj=>F.args_object_init_3 obj _ _) F.entry_zip_new (Mp a1 a2 us vs) ⟨t1,t2,fun h' k Z sz=>?_⟩
 exact⟨⟨_,Z.zip,rfl⟩,q h' k Z sz⟩
end
def Mq (K:W.Frag)(a b:Addr):It:=
 ⟨fun i H=>∃ xs ys x y,aM K H a xs/\aF K H b ys/\xs[i]?=some x/\ys[i]?=some y,
  fun i H v H'=>∃ t x y,v=.ref t/\H t=none/\H'=upd H t (.tup [x,y])/\(∀ xs,aM K H a xs->xs[i]?=some x)/\∀ ys,aF K H b ys->ys[i]?=some y,
  fun i H=>∃ xs ys,aM K H a xs/\aF K H b ys/\xs.length<=i⟩
theorem BW {P:Program}{w:World}{K:W.Frag}{elts:List Expr}{kt:Nat}{tp:Pos}{z TI TO j1 j2 a b:Addr}(D:ZipApart z TI TO j1 j2 a b)(us vs:Array Value) :
  Turn P w K (.Tuple elts kt tp) (Mq K a b) [z,TI,TO,j1,j2] z (fun i h=>ZL z TI TO j1 j2 a b us vs i .none h) where
 mem:=by simp
 obj:=fun i h st c hc=>by
  obtain⟨hz,hI,⟨p1,p2,hO⟩,y1,y2⟩:=st
  simp only[aaf,aaF,abN] at hc
  rcases hc with rfl|rfl|rfl|rfl|rfl
  ·exact⟨_,hz,fun v q=>by cases q⟩
  ·exact⟨_,hI,fun v q=>by cases q⟩
  ·exact⟨_,hO,fun v q=>by cases q⟩
  ·obtain⟨o,e,c,d⟩:=y1
   exact⟨o,e,fun v q=>by rw[d] at q;cases q⟩
  ·obtain⟨o,e,c,d⟩:=y2
   exact⟨o,e,fun v q=>by rw[d] at q;cases q⟩
 keep:=fun i h h' st k=>by
  obtain⟨hz,hI,⟨p1,p2,hO⟩,y1,y2⟩:=st
  exact⟨k z (by simp) _ hz,k TI (by simp) _ hI,⟨p1,p2,k TO (by simp) _ hO⟩,(let ⟨o,e,r⟩:=y1;⟨o,k j1 (by simp) _ e,r⟩),(let ⟨o,e,r⟩:=y2;⟨o,k j2 (by simp) _ e,r⟩)⟩
 item:=by
  intro X hP hw hK hc i pins s σ H E I hf st hg
  subst hP hw hK
  obtain⟨xs,ys,x,y,qx,qy,ex,ey⟩:=hg
  obtain⟨aK,rx,px,lx⟩:=I.list qx
  replace px:=Ut px
  obtain⟨its',ry,py,ly⟩:=I.tuple qy
  obtain⟨u,hu,ru⟩:=rx.get ex
  obtain⟨v,hv,rv⟩:=ry.get ey
  have ht:s.TypeIs (.ref z) "zip":=⟨_,st.zip,rfl⟩
  unfold pyNext
  have vD:ZL z TI TO j1 j2 a b aK.toArray its'.toArray i .none s.heap:=⟨st.zip,st.aK,st.to,st.i1,st.i2⟩
  refine aaa (abF (aaJ (name:=Str.ofString "__next__") ht aco (aa3 aco ht aed
   (Iy D vD px py (u:=u) (v:=v) (by simpa using hu) (by simpa using hv) fun h' Z np sz k=>aad ?_) (ad0 _))))
  refine⟨_,rfl,wpAny_letOwnedTupleGo_zip Z.zip fun h2 Hu b2=>?_⟩
  have cz:z<s.heap.objs.size:=aae st.zip
  have k2:∀ c o,c∉[z,TI,TO,j1,j2]->s.heap.get? c=some o->h2.get? c=some o:=fun c o hc e=>by
   simp only[aaf,aaF,abN,not_or] at hc
   exact b2.extBut _ _ hc.1 (k c o hc.1 hc.2.2.1 hc.2.2.2.1 hc.2.2.2.2 e)
  have I2:Inv X pins σ H { s with heap:=h2 }:=I.oV (t':=s.toks) k2 hf
  have RF:IsPair h2 s.heap.objs.size u v:=b2.extBut _ _ (abX cz) np
  have fr:H s.heap.objs.size=none:=I.bE.fresh (aai _)
  have I3:Inv X pins σ (upd H s.heap.objs.size (.tup [x,y])) { s with heap:=h2 }:=by
   have U:Un (gI X.stack) [z,TI,TO,j1,j2] H (upd H s.heap.objs.size (.tup [x,y])) s.heap h2:=
    ⟨fun c o e _ _ hx=>k2 c o hx e,fun c o e _ _ hx=>⟨o.slots,k2 c o hx e⟩,fun c o e n _=>(by rw[aH (aal (aae e))];exact n),fun c o e hx=>⟨o,k2 c o hx e⟩,
     fun c zs e=>(by rw[aH (aN e fr)];exact e),fun c o w e=>(by rw[aH (aN e fr)];exact e),fun c ps e=>⟨#[],by rw[aH (aN e fr),e];simp⟩⟩
   refine I.nM (s':={ s with heap:=h2 }) (ch:=[z,TI,TO,j1,j2]) rfl U (I2.bE.more fr ?_) I.bare fun c hc=>?_
   ·exact⟨by show 2<=sizeLine;decide,[u,v],.cons ru (.cons rv .nil),⟨_,RF,rfl,_,rfl⟩⟩
   ·obtain⟨_,f1,_,f3,f4,f5⟩:=hf c hc
    exact⟨f3,f1,f4,f5⟩
  refine⟨.ref s.heap.objs.size,_,I3,rfl,⟨_,x,y,rfl,fr,rfl,fun zs hz=>by rw[I.vI hz qx];exact ex,fun zs hz=>by rw[I.kg hz qy];exact ey⟩,?_,fun c hc=>?_⟩
  ·obtain⟨o1,e1,r1⟩:=Z.i1
   obtain⟨o2,e2,r2⟩:=Z.i2
   obtain⟨p1,p2,e3⟩:=Z.to
   exact⟨Hu,b2.extBut _ _ D.TIz Z.aK,⟨p1,p2,b2.extBut _ _ D.TOz e3⟩,⟨o1,b2.extBut _ _ D.i1z e1,r1⟩,⟨o2,b2.extBut _ _ D.i2z e2,r2⟩⟩
  ·have h0:=(hf c hc).1
   rw[aH ?_]
   ·exact h0
   ·have vK:=st
    obtain⟨hz,hI,⟨p1,p2,hO⟩,⟨o1,y1,_⟩,⟨o2,y2,_⟩⟩:=vK
    simp only[aaf,aaF,abN] at hc
    rcases hc with rfl|rfl|rfl|rfl|rfl
    ·exact aal (aae hz)
    ·exact aal (aae hI)
    ·exact aal (aae hO)
    ·exact aal (aae y1)
    ·exact aal (aae y2)
 done:=by
  intro X hP hw hK hc i pins s σ H E I hf st hg
  subst hP hw hK
  obtain⟨xs,ys,qx,qy,ln⟩:=hg
  obtain⟨aK,rx,px,lx⟩:=I.list qx
  replace px:=Ut px
  have ht:s.TypeIs (.ref z) "zip":=⟨_,st.zip,rfl⟩
  have hl:=rx.length
  unfold pyNext
  have vD:ZL z TI TO j1 j2 a b aK.toArray vs i .none s.heap:=⟨st.zip,st.aK,st.to,st.i1,st.i2⟩
  refine aaa (abF (aaJ (name:=Str.ofString "__next__") ht aco (aa3 aco ht aed
   (Mo (I.CA hc) (I.Jm hc (hf z (by simp)).1) (I.Jm hc (hf j1 (by simp)).1) D vD px (by simp;omega) fun h' e k he=>?_) (ad0 _))))
  obtain⟨o,ho,LB⟩:=he
  refine aaa (acs (T:="StopIteration") (b:=true) ⟨o,ho,LB⟩ adk ?_)
  refine aad ⟨rfl,I.oV (t':=s.toks) (fun c o hc e=>?_) hf⟩
  simp only[aaf,aaF,abN,not_or] at hc
  exact k c o hc.1 hc.2.2.1 hc.2.2.2.1 hc.2.2.2.2 e
 self:=fun _ _ _ _ _ st h=>aea st.zip h
inductive Fp (K:W.Frag)(R:It->Hp->Prop)(vs:List V)(H1:Hp):Prop
 | mk:∀ (a b:Addr) (xs ys:List V),(vs=[.ref a,.ref b])->(aM K H1 a xs)->(aF K H1 b ys)->(R (Mq K a b) H1)->Fp K R vs H1
def Qb (K:W.Frag)(ta:TA):TI:=fun σ H R=>ta σ H fun vs H1=>Fp K R vs H1
theorem IA {X:Cx}{elts:List Expr}{kt:Nat}{tp:Pos}{a b:Expr}{ta:TA}{p pos:Pos}(hg:Gl X "zip")(hm:X.mg "zip"=none)(ha:PA X [a,b] ta)(hs:starEach [a,b] X.env=[(false,eval a X.env),(false,eval b X.env)]:=by rfl)(OU:starEach [b] X.env=[(false,eval b X.env)]:=by rfl) :
  PI X (.Tuple elts kt tp) (.Call (.Name "zip" p) [a,b] [] pos) (Qb X.K ta):=by
 intro pins s σ H R I h
 refine Call_ (mx I hg hm boot_zip (acv (dC (ha pos pins s σ H _ I h) fun us s1 ⟨vs,H1,I1,r1,q1⟩=>?_) (by rw[hs,OU]) (by rw[OU];rfl)))
 obtain⟨x,y,xs,ys,e,qx,qy,q⟩:=q1
 subst e
 cases r1 with
 | cons r rr=>
  cases rr with
  | cons r' rr=>
   cases rr
   cases r
   cases r'
   obtain⟨aK,rx,px,lx⟩:=I1.list qx
   replace px:=Ut px
   obtain⟨its',ry,py,ly⟩:=I1.tuple qy
   refine Iz (us:=aK.toArray) (vs:=its'.toArray) px py fun h' k Z sz=>?_
   refine aea Z.zip ?_
   have I2:Inv X pins σ H1 { s1 with heap:=h' }:=I1.kept (t':=s1.toks) k
   have l1:x<s1.heap.objs.size:=by
    obtain⟨o,e,_⟩:=px
    exact aae e
   have l2:y<s1.heap.objs.size:=by
    obtain⟨o,e,_⟩:=py
    exact aae e
   refine⟨_,[s1.heap.objs.size+4,s1.heap.objs.size+2,s1.heap.objs.size+3,s1.heap.objs.size,s1.heap.objs.size+1],_,_,H1,rfl,I2,BW (zipApart_new l1 l2) aK.toArray its'.toArray,Z,fun c hc=>?_,q⟩
   have big:s1.heap.objs.size<=c:=by
    simp only[aaf,aaF,abN] at hc
    rcases hc with rfl|rfl|rfl|rfl|rfl<;>simp
   exact I1.xN big (I1.bE.fresh big)
theorem yP {K:W.Frag}{a b:Addr}{xs ys:List V}{te:TE}{σ:V->V->St}{H:Hp}{Q:VK}(hx:∀ H',av H H'->aF K H' a xs)(hy:∀ H',av H H'->aF K H' b ys)(hl:xs.length=ys.length)(hn:xs.length<sizeLine)
  (R:Nat->List V->Hp->Prop) (R0:∀ p,H p=none->R 0 [] (upd H p (.lst []))) (Rs:∀ i vs H1 H2,av H1 H2->R i vs H1->R i vs H2)
  (he:∀ (i:Nat) (x y:V) (vs:List V) (H':Hp) (acc:Addr) (Q':VK),xs[i]?=some x->ys[i]?=some y->av H H'->H acc=none->H' acc=some (.lst vs)->R i vs H'->vs.length=i->(∀ z H2,av H' H2->R (i+1) (vs++[z]) (upd H2 acc (.lst (vs++[z])))->Q' z H2)->te (σ x y) H' Q')
  (q:∀ p H' vs,av H H'->H p=none->H' p=some (.lst vs)->vs.length=xs.length->R xs.length vs H'->Q (.ref p) H'):jJ K (RG K a b) Q H te σ:=by
 intro acc aT
 refine⟨fun i m H' vs=>i<=xs.length/\m=xs.length-i/\av H H'/\H' acc=some (.lst vs)/\vs.length=i/\R i vs H',⟨xs.length,abd _,by simp,ai aT _,ag,rfl,R0 _ aT⟩,?_⟩
 rintro i m H' vs ⟨hi,rfl,g,ha,hv,r⟩
 refine⟨ha,?_⟩
 by_cases h:i=xs.length
 ·subst h
  exact .inl ⟨⟨xs,ys,hx _ g,hy _ g,by omega⟩,q acc H' vs g aT ha hv r⟩
 ·have eJ:i<xs.length:=by omega
  have DQ:i<ys.length:=by omega
  refine .inr ⟨⟨xs,ys,xs[i],ys[i],hx _ g,hy _ g,by simp[eJ],by simp[DQ]⟩,by omega,?_⟩
  rintro z H2 ⟨t,x,y,rfl,ht,rfl,ex,ey⟩
  have Kn:=ex xs (hx _ g)
  have Nr:=ey ys (hy _ g)
  have g2:av H' (upd H' t (.tup [x,y])):=ai ht _
  exact⟨t,x,y,rfl,aF.of ag,he i x y vs _ acc _ Kn Nr (g.trans g2) aT (g2 _ _ ha) (Rs _ _ _ _ g2 r) hv fun z H3 g3 r3=>⟨g3 _ _ (g2 _ _ ha),xs.length-(i+1),by omega,by omega,rfl,de (g.trans (g2.trans g3)) aT,ag,by simp[hv],r3⟩⟩
theorem wV {K:W.Frag}{a b:Addr}{xs ys:List V}{te:TE}{σ:V->V->St}{H:Hp}{Q:VK}(hx:∀ H',av H H'->aM K H' a xs)(hy:∀ H',av H H'->aF K H' b ys)(hl:xs.length=ys.length)(hn:xs.length<sizeLine)
  (R:Nat->List V->Hp->Prop) (R0:∀ p,H p=none->R 0 [] (upd H p (.lst []))) (Rs:∀ i vs H1 H2,av H1 H2->R i vs H1->R i vs H2)
  (he:∀ (i:Nat) (x y:V) (vs:List V) (H':Hp) (acc:Addr) (Q':VK),xs[i]?=some x->ys[i]?=some y->av H H'->H acc=none->H' acc=some (.lst vs)->R i vs H'->vs.length=i->(∀ z H2,av H' H2->R (i+1) (vs++[z]) (upd H2 acc (.lst (vs++[z])))->Q' z H2)->te (σ x y) H' Q')
  (q:∀ p H' vs,av H H'->H p=none->H' p=some (.lst vs)->vs.length=xs.length->R xs.length vs H'->Q (.ref p) H'):jJ K (Mq K a b) Q H te σ:=by
 intro acc aT
 refine⟨fun i m H' vs=>i<=xs.length/\m=xs.length-i/\av H H'/\H' acc=some (.lst vs)/\vs.length=i/\R i vs H',⟨xs.length,abd _,by simp,ai aT _,ag,rfl,R0 _ aT⟩,?_⟩
 rintro i m H' vs ⟨hi,rfl,g,ha,hv,r⟩
 refine⟨ha,?_⟩
 by_cases h:i=xs.length
 ·subst h
  exact .inl ⟨⟨xs,ys,hx _ g,hy _ g,by omega⟩,q acc H' vs g aT ha hv r⟩
 ·have eJ:i<xs.length:=by omega
  have DQ:i<ys.length:=by omega
  refine .inr ⟨⟨xs,ys,xs[i],ys[i],hx _ g,hy _ g,by simp[eJ],by simp[DQ]⟩,by omega,?_⟩
  rintro z H2 ⟨t,x,y,rfl,ht,rfl,ex,ey⟩
  have Kn:=ex xs (hx _ g)
  have Nr:=ey ys (hy _ g)
  have g2:av H' (upd H' t (.tup [x,y])):=ai ht _
  exact⟨t,x,y,rfl,aF.of ag,he i x y vs _ acc _ Kn Nr (g.trans g2) aT (g2 _ _ ha) (Rs _ _ _ _ g2 r) hv fun z H3 g3 r3=>⟨g3 _ _ (g2 _ _ ha),xs.length-(i+1),by omega,by omega,rfl,de (g.trans (g2.trans g3)) aT,ag,by simp[hv],r3⟩⟩
end L2
namespace Uu
open PySem L2
def top (i:Nat):Stmt:=PySem.Challenge.pw_conicplaces_k41_places_of_curves.main.body.getD i (.Pass ⟨0,0,0,0⟩)
abbrev gW:Stmt:=top 8
abbrev fm:Stmt:=top 9
abbrev jN:Stmt:=top 10
abbrev mR:Stmt:=top 11
abbrev dh:Stmt:=top 12
abbrev mS:Stmt:=top 14
abbrev gX:Stmt:=top 15
abbrev gh:Stmt:=top 16
abbrev jO:Stmt:=top 18
abbrev lu:Stmt:=top 19
abbrev mT:Stmt:=top 20
abbrev iZ:Stmt:=top 21
abbrev lA:Stmt:=top 23
abbrev i4:Stmt:=top 24
abbrev cM:Stmt:=top 25
abbrev di:Stmt:=top 26
abbrev mU:Stmt:=top 27
abbrev gY:Stmt:=top 28
abbrev gZ:Stmt:=top 29
abbrev lB:Stmt:=top 32
abbrev mV:Stmt:=top 33
abbrev gi:Stmt:=top 34
abbrev jP:Stmt:=top 35
abbrev hJ:Stmt:=top 36
abbrev jQ:Stmt:=top 37
abbrev jR:Stmt:=top 38
abbrev um:Stmt:=top 39
abbrev jS:Stmt:=top 40
abbrev hU:Stmt:=top 41
abbrev hV:Stmt:=top 42
abbrev hX:Stmt:=top 43
abbrev gj:Stmt:=top 44
abbrev lC:Stmt:=top 47
abbrev i5:Stmt:=top 48
abbrev i6:Stmt:=top 49
abbrev jT:Stmt:=top 50
abbrev lD:Stmt:=top 51
abbrev fq:Stmt:=top 52
abbrev qw:Stmt:=top 54
abbrev Mr:Stmt:=top 56
abbrev uo:Stmt:=top 57
abbrev uq:Stmt:=top 58
abbrev qA:Stmt:=top 59
abbrev jU:Stmt:=top 60
abbrev mW:Stmt:=top 61
abbrev yQ:Stmt:=top 62
abbrev qB:Stmt:=top 63
abbrev jV:Stmt:=top 64
abbrev ur:Stmt:=top 65
abbrev hZ:Stmt:=top 66
abbrev mX:Stmt:=top 67
abbrev yR:Stmt:=top 68
abbrev jW:Stmt:=top 69
abbrev jX:Stmt:=top 70
abbrev Fq:Stmt:=top 71
abbrev qC:Stmt:=top 72
abbrev ia:Stmt:=top 73
abbrev qD:Stmt:=top 74
abbrev mY:Stmt:=top 75
abbrev mZ:Stmt:=top 76
abbrev Fs:Stmt:=top 77
abbrev dR:Stmt:=inClass (top 6) 0
structure Ny where
 (ce c0 c3 c4 c7 c8 wW gk i7 i8 i9 ja gq gu gv:Addr)
structure Txt (K:W.Frag)(mg:Str->Option Value)(t:Ny):Prop where
 uu:mg "CurveError"=some (.ref t.ce)
 Ms:mg "NoNumber"=some (.ref t.c0)
 Qc:mg "NoSign"=some (.ref t.c3)
 Mt:mg "NotPlain"=some (.ref t.c4)
 yS:mg "NoVertex"=some (.ref t.c7)
 Ft:mg "Flat"=some (.ref t.c8)
 YF:W.kitOne K (.ref t.c8) (.ref t.ce)=some true
 i_0:W.kitOne K (.ref t.c8) (.ref t.c0)=some false
 i_3:W.kitOne K (.ref t.c8) (.ref t.c3)=some false
 i_4:W.kitOne K (.ref t.c8) (.ref t.c4)=some false
 YG:W.kitOne K (.ref t.c8) (.ref t.c7)=some false
 i_8:W.kitOne K (.ref t.c8) (.ref t.c8)=some true
 YH:W.kitOne K (.ref t.c8) (.type "ValueError")=some true
 e0:(W.clsIn K t.c8).isSome=true
 e1:W.findIn K (.ref t.c8) "__getattribute__"=some (some (.builtin "BaseException.__getattribute__"))
 e2:W.findIn K (.ref t.c8) "__getattr__"=some none
 e3:W.findIn K (.ref t.c8) "__class__"=some (some (.builtin "object.__class__"))
 e4:W.specialIn K (.builtin "object.__class__") "__get__"=some (some (.builtin "getset_descriptor.__get__"))
 e5:W.takesIn K (.builtin "object.__class__")=some true
 e6:W.mroIn K t.c8 (.type "object")=some true
 e7:W.mroIn K t.c8 (.type "BaseException")=some true
 yT:kS K t.c8 t.wW=true
 IB:W.isFn K (.ref t.wW)=true
 IC:W.findIn K (.ref t.c8) "vertex"=some none
 ID:(W.clsIn K t.c8).map (·.hasDict)=some true
 IE:W.findIn K (.ref t.c8) "__setattr__"=some (some (.builtin "object.__setattr__"))
 IF:(W.clsIn K t.c8).any (fun cd=>pQ cd.mro)=true
 y1:W.specialIn K (.ref t.ce) "__getattribute__"=some (some (.builtin "type.__getattribute__"))
 y2:W.readsIn K t.ce (.type "type")=true
 y3:W.findCls K (.ref t.ce) (.type "type") "__init__"=some (.val (.builtin "ValueError.__init__"))
 IG:W.excIn K t.ce iR "ValueError.__new__"=true
 Uv:W.mroIn K t.c8 (.ref t.ce)=some true
 qF:mg "AXES"=some (.ref t.gk)
 yU:iD K t.gk [.ref t.i7,.ref t.i8,.ref t.i9]
 qG:iD K t.i7 [.int 1,.int 0,.int 0]
 qH:iD K t.i8 [.int 0,.int 1,.int 0]
 qI:iD K t.i9 [.int 0,.int 0,.int 1]
 uv:mg "TURNS"=some (.ref t.ja)
 IH:iD K t.ja [.ref t.gq,.ref t.gu,.ref t.gv]
 BX:iD K t.gq [.int 0,.int 1,.int 2]
 BY:iD K t.gu [.int 1,.int 2,.int 0]
 BZ:iD K t.gv [.int 2,.int 0,.int 1]
 Uw:W.kitOne K (.type "int") (.type "bool")=some false
 eD:mg "isinstance"=none
 JW:mg "int"=none
 Mu:mg "bool"=none
 Fu:mg "len"=none
 eF:mg "range"=none
 jb:mg "tuple"=none
 AR:mg "all"=none
 AS:mg "abs"=none
 Qd:mg "any"=none
 Fv:mg "sum"=none
 Fw:mg "zip"=none
 Qe:mg "max"=none
 Qf:mg "min"=none
 Fx:mg "list"=none
 wX:mg "sorted"=none
 JX:mg "set"=none
 II:mg "ValueError"=none
theorem Txt.exc {K:W.Frag}{mg:Str->Option Value}{t:Ny}(T:Txt K mg t):jD K t.c8:=⟨T.e0,T.e1,T.e2,T.e3,T.e4,T.e5,T.e6,T.e7⟩
theorem Txt.IJ {K:W.Frag}{mg:Str->Option Value}{t:Ny}(T:Txt K mg t):Tg K t.c8 t.wW:=⟨T.yT,T.IB⟩
theorem Txt.wY {K:W.Frag}{mg:Str->Option Value}{t:Ny}(T:Txt K mg t):mE K t.c8 "vertex":=⟨T.exc,T.IC,T.ID⟩
theorem Txt.Fy {K:W.Frag}{mg:Str->Option Value}{t:Ny}(T:Txt K mg t):tO K t.c8 "vertex":=⟨T.wY,T.IE,T.IF⟩
theorem wZ:bootBuiltins "isinstance"=some (.builtin "isinstance"):=by decide +kernel
theorem JY:bootBuiltins "int"=some (.type "int"):=by decide +kernel
theorem Mv:bootBuiltins "bool"=some (.type "bool"):=by decide +kernel
theorem jc:bootBuiltins "tuple"=some (.type "tuple"):=by decide +kernel
theorem AU:bootBuiltins "all"=some (.builtin "all"):=by decide +kernel
theorem AV:bootBuiltins "abs"=some (.builtin "abs"):=by decide +kernel
theorem Qg:bootBuiltins "any"=some (.builtin "any"):=by decide +kernel
theorem Fz:bootBuiltins "sum"=some (.builtin "sum"):=by decide +kernel
theorem Qh:bootBuiltins "max"=some (.builtin "max"):=by decide +kernel
theorem Qi:bootBuiltins "min"=some (.builtin "min"):=by decide +kernel
theorem FA:bootBuiltins "list"=some (.type "list"):=by decide +kernel
theorem w9:bootBuiltins "sorted"=some (.builtin "sorted"):=by decide +kernel
theorem JZ:bootBuiltins "set"=some (.type "set"):=by decide +kernel
theorem l9 {c A B:Prop} [Decidable c] (hc:¬ c)(h:B):if decide c=true then A else B:=by
 rw[aa5 hc]
 exact gU h
theorem neT {c:Prop} [Decidable c] (h:(!decide c)=true):¬ c:=by
 intro z
 rw[abr z] at h
 cases h
theorem RP {c:Prop} [Decidable c] (h:¬ (!decide c)=true):c:=by
 by_cases z:c
 ·exact z
 ·exact absurd (by rw[aa5 z];rfl) h
theorem rV {a b:Int}(h1:-(2^64)<b)(h2:b<2^64):IntMulOk a b:=adi (ac7 h1 h2)
theorem kK {a b:Int}(h1:-(2^64)<a)(h2:a<2^64):IntMulOk a b:=IntMulOk.of_left (ac7 h1 h2)
@[irreducible] def Lm:Nat:=2^1000
theorem md:Lm=2^1000:=by unfold Lm;rfl
theorem Mw:1<=Lm:=by rw[md];decide +kernel
theorem AW {x:Int}(h:x.natAbs<=8*Lm):Builtin.Int.intBits x<=1004:=intBits_le_iff.mpr (abv h (by rw[md];decide +kernel))
theorem lE {x:Int}(h:x.natAbs<=8*Lm):x.natAbs.log2<9000:=aak (log2_lt_of (k:=1004) (abv h (by rw[md];decide +kernel)) (by decide)) (by decide)
theorem mulL {a b:Int}(ha:a.natAbs<=8*Lm)(hb:b.natAbs<=8*Lm):IntMulOk a b:=IntMulOk.of_le (AW ha) (AW hb) (by decide)
theorem m7 (a b:Int):a-a.fdiv b*b=a.fmod b:=by rw[aes,aao]
inductive FC (vs:List V)(H:Hp)(Q:VK)(bC:XK):Prop
 | mk:∀ (pa pb:Addr) (x s t y u v k:Int),(vs=[.ref pa,.ref pb,.int k])->(H pa=some (.tup [.int x,.int s,.int t]))->(H pb=some (.tup [.int y,.int u,.int v]))->(IntMulOk k y)->(IntMulOk k u)->(IntMulOk k v)->(∀ (p:Addr) (H':Hp),av H H'->H' p=some (.tup [.int (x-k*y),.int (s-k*u),.int (t-k*v)])->Q (.ref p) H')->FC  vs H Q bC
inductive iG (vs:List V)(H:Hp)(Q:VK)(bC:XK):Prop
 | mk:∀ (x y:Int),(vs=[.int x,.int y])->(x.natAbs<=Lm)->(y.natAbs<=Lm)->(∀ (p:Addr) (H':Hp) (g s t:Int),av H H'->H' p=some (.tup [.int g,.int s,.int t])->0<=g->g=s*x+t*y->(∃ k,x=k*g)->(∃ k,y=k*g)->s.natAbs<=8*Lm->t.natAbs<=8*Lm->Q (.ref p) H')->iG  vs H Q bC
theorem uw {A:Around}{k:Nat}(hr:eL k A):A.units+64<cLine:=by
 have:=hr.un
 omega
theorem Ux {b:Bool}{A B:Prop}(h:b=true)(hA:A):if b=true then A else B:=by
 subst h
 exact lP hA
open Sm Lw Pn
theorem YI {x y:Int}(hx:Bd 4000 x)(hy:Bd 4000 y):IntMulOk x y:=
 IntMulOk.of_le (m:=4001) (n:=4001) (intBits_le_iff.mpr (abv hx (Nat.pow_lt_pow_right (by decide) (by decide)))) (intBits_le_iff.mpr (abv hy (Nat.pow_lt_pow_right (by decide) (by decide)))) (by decide)
theorem bV {j k:Nat}{x y:Int}(hx:Bd j x)(hy:Bd k y)(h1:j<=4000:=by omega)(h2:k<=4000:=by omega):IntMulOk x y:=YI (hx.mono h1) (hy.mono h2)
theorem Mx {y:Int}:IntMulOk 2 y:=IntMulOk.of_left (ac7 (by decide) (by decide))
abbrev v3 (P:P3):List V:=[.int P.x,.int P.y,.int P.z]
abbrev t3 (P:P3):HO:=.tup (v3 P)
abbrev l3 (P:P3):HO:=.lst (v3 P)
def S3 (H:Hp)(p:Addr)(P:P3):Prop:=H p=some (t3 P)
def S6 (H:Hp)(p:Addr)(Q:F6):Prop:=H p=some (.tup [.int Q.a,.int Q.b,.int Q.c,.int Q.d,.int Q.e,.int Q.f])
def ST (H:Hp)(p:Addr)(t:T3):Prop:=∃ r0 r1 r2:Addr,H p=some (.tup [.ref r0,.ref r1,.ref r2])/\S3 H r0 t.r0/\S3 H r1 t.r1/\S3 H r2 t.r2
def LT (H:Hp)(p:Addr)(t:T3):Prop:=∃ r0 r1 r2:Addr,H p=some (.lst [.ref r0,.ref r1,.ref r2])/\S3 H r0 t.r0/\S3 H r1 t.r1/\S3 H r2 t.r2
theorem LT.mono {H H':Hp}{p:Addr}{t:T3}(g:av H H')(h:LT H p t):LT H' p t:=by
 obtain⟨r0,r1,r2,h0,h1,h2,h3⟩:=h
 exact⟨r0,r1,r2,g _ _ h0,g _ _ h1,g _ _ h2,g _ _ h3⟩
theorem ST.mono {H H':Hp}{p:Addr}{t:T3}(g:av H H')(h:ST H p t):ST H' p t:=by
 obtain⟨r0,r1,r2,h0,h1,h2,h3⟩:=h
 exact⟨r0,r1,r2,g _ _ h0,g _ _ h1,g _ _ h2,g _ _ h3⟩
def Uy:V->V->V
 | .int a,.int b=>.int (a*b)
 | _,_=>.eI
def RQ (H:Hp)(p:Addr)(x y z:Int):Prop:=H p=some (.tup [.int x,.int y,.int z])
def RR (M:Int)(x y z:Int):Prop:=(-M<=x/\x<=M)/\(-M<=y/\y<=M)/\(-M<=z/\z<=M)
def NZ (x y z:Int):Prop:=x≠0\/y≠0\/z≠0
@[irreducible] def Top:Int:=2^900
theorem yV:Top=2^900:=by unfold Top;rfl
theorem My:Top<=Lm:=by rw[yV,md];decide +kernel
theorem jd {x:Int}(h:Bd 900 x):-Top<=x/\x<=Top:=by
 have e:Top=((2^900:Nat):Int):=by rw[yV];decide +kernel
 unfold Bd at h
 rw[e]
 generalize (2:Nat)^900=N at h
 omega
theorem yW {P:P3}(h:BP 900 P):RR Top P.x P.y P.z:=⟨jd h.x,jd h.y,jd h.z⟩
theorem IK {x y z:Int}(h:RR Top x y z):x.natAbs<=Lm/\y.natAbs<=Lm/\z.natAbs<=Lm:=by
 have:=My
 unfold RR at h
 omega
theorem ib {k:Nat}{x d:Int}(hd:d≠0)(h:Bd k (d*x)):Bd k x:=by
 unfold Bd at *
 rw[aaC] at h
 exact aag (adW _ (by omega)) h
theorem FD {k:Nat}{P:P3}{d:Int}(hd:d≠0)(h:BP k (tm d P)):BP k P:=⟨ib hd h.x,ib hd h.y,ib hd h.z⟩
theorem FE {j k:Nat}{P:P3}{d:Int}(h:Bd j d)(hP:BP k P):BP (j+k) (tm d P):=⟨h.mul hP.x,h.mul hP.y,h.mul hP.z⟩
theorem Qj {k:Nat}{P R:P3}(h:BP k P)(h2:BP k R):BP (k+1) (ad P R):=⟨h.x.add h2.x,h.y.add h2.y,h.z.add h2.z⟩
def st (P:P3)(m:Int):P3:=⟨P.x*m,P.y*m,P.z*m⟩
theorem FF (P:P3)(m:Int):st P m=tm m P:=by
 simp only[st,tm,P3.mk.injEq]
 exact⟨aao _ _,aao _ _,aao _ _⟩
theorem b4:Bd 2 4:=by unfold Bd;decide
theorem pj {k:Nat}:Bd k 0:=by
 unfold Bd
 exact abd _
theorem B1 {k:Nat}:Bd k 1:=by
 unfold Bd
 exact Nat.one_le_two_pow
def cmp (P:P3):Nat->Int
 | 0=>P.x
 | 1=>P.y
 | _=>P.z
theorem YJ {P:P3}{k:Nat}(hk:k<3):xG (v3 P) (0+(k:Int))=some (.int (cmp P k)):=by
 obtain rfl|rfl|rfl:k=0\/k=1\/k=2:=by omega
 ·rfl
 ·rfl
 ·rfl
def YK (P:P3):V->Bool
 | .int k=>!decide (V.int (cmp P k.toNat)=V.int 0)
 | _=>false
inductive Gen (ns:List Int):Int->Prop where
 | zero:Gen ns 0
 | mem {n:Int}:n∈ns->Gen ns n
 | sub {a b:Int}:Gen ns a->Gen ns b->Gen ns (a-b)
 | mul (k:Int) {a:Int}:Gen ns a->Gen ns (k*a)
theorem Gen.rest {ns:List Int}{f o:Int}(h:Gen ns f)(h2:Gen ns o):Gen ns (f%o):=by
 have h3:=ac9 f o
 have h4:f%o=f-f / o*o:=by rw[aao (f / o) o];omega
 rw[h4]
 exact h.sub (h2.mul _)
theorem Gen.neg {ns:List Int}{f:Int}(h:Gen ns f):Gen ns (-f):=by
 have:=h.mul (-1)
 rw[show (-1)*f=-f by omega] at this
 exact this
theorem get3 {x y z:Int}{i:Nat}{v:V}(h:[V.int x,.int y,.int z][i]?=some v):∃ n,v=.int n/\[x,y,z][i]?=some n:=by
 match i,h with
 | 0,h=>exact⟨x,(aac h).symm,rfl⟩
 | 1,h=>exact⟨y,(aac h).symm,rfl⟩
 | 2,h=>exact⟨z,(aac h).symm,rfl⟩
theorem FG {f o d:Int}(h1:d∣o)(h2:d∣f%o):d∣f/\d∣o:=⟨by
 rw[<- ac9 f o]
 exact acS h2 (aah h1 (aa7 _ _)),h1⟩
inductive FH (vs:List V)(H:Hp)(Q:VK)(bC:XK):Prop
 | mk:∀ (p:Addr) (F:F6),(vs=[.ref p])->(S6 H p F)->(∀ (r:Addr) (H':Hp),av H H'->ST H' r (sl F)->Q (.ref r) H')->FH  vs H Q bC
inductive qJ (vs:List V)(H:Hp)(Q:VK)(bC:XK):Prop
 | mk:∀ (p:Addr) (F:F6),(vs=[.ref p])->(S6 H p F)->(BF 600 F)->(Q (.int (sz F)) H)->qJ  vs H Q bC
inductive FI (K:W.Frag)(vs:List V)(H:Hp)(Q:VK)(bC:XK):Prop
 | mk:∀ (p:Addr) (P:P3) (m:Int),(vs=[.ref p,.int m])->(aF K H p (v3 P))->(BP 900 P)->(Bd 900 m)->(∀ (z:Addr) (H':Hp),av H H'->S3 H' z (st P m)->Q (.ref z) H')->FI K vs H Q bC
inductive AX (K:W.Frag)(vs:List V)(H:Hp)(Q:VK)(bC:XK):Prop
 | mk:∀ (p q:Addr) (r s:P3),(vs=[.ref p,.ref q])->(aF K H p (v3 r))->(aF K H q (v3 s))->(BP 900 r)->(BP 900 s)->(∀ (z:Addr) (H':Hp),av H H'->S3 H' z (cr r s)->Q (.ref z) H')->AX K vs H Q bC
theorem FJ {j k:Nat}{r s:P3}(h:BP j r)(p:BP k s):BP (j+k+1) (cr r s):=⟨(h.y.mul p.z).sub (h.z.mul p.y),(h.z.mul p.x).sub (h.x.mul p.z),(h.x.mul p.y).sub (h.y.mul p.x)⟩
inductive qK (vs:List V)(H:Hp)(Q:VK)(bC:XK):Prop
 | mk:∀ (p:Addr) (b:Bool) (ns:List Int),(vs=[.ref p])->(H p=some (Ho b (ns.map V.int)))->(∀ g:Int,0<=g->(∀ n∈ns,g∣n)->Gen ns g->Q (.int g) H)->qK  vs H Q bC
inductive Mz (vs:List V)(H:Hp)(Q:VK)(bC:XK):Prop
 | mk:∀ (p q:Addr) (F:F6) (P:P3),(vs=[.ref p,.ref q])->(S6 H p F)->(S3 H q P)->(BF 600 F)->(BP 601 P)->(Q (.int (lw F P)) H)->Mz  vs H Q bC
def nz:V->Bool
 | .int n=>!decide (V.int n=V.int 0)
 | _=>false
def lh (x y z:Int):Int:=if x≠0 then x else if y≠0 then y else z
theorem MA {n:Int}(h:n≠0):nz (.int n)=true:=by
 show (!decide (V.int n=V.int 0))=true
 rw[aa5 (fun z=>h (V.int.inj z))]
 rfl
theorem Qk {n:Int}(h:n=0):nz (.int n)=false:=by
 subst h
 show (!decide (V.int 0=V.int 0))=false
 rw[abr rfl]
 rfl
theorem JU {α:Type}{v:α}{l:List α}:xG (v::l) (0:Int)=some v:=by
 have:xG (v::l) ((0:Nat):Int)=some v:=zT rfl
 exact this
theorem FK {x y z:Int}(h:NZ x y z):xG (([V.int x,.int y,.int z].filter nz).map id) (0:Int)=some (.int (lh x y z)):=by
 unfold lh
 by_cases h1:x≠0
 ·rw[aaz h1,ab7,MA h1,aaz rfl]
  exact JU
 ·rw[aar h1,ab7,Qk (Decidable.not_not.mp h1),aar aaj]
  by_cases h2:y≠0
  ·rw[aaz h2,ab7,MA h2,aaz rfl]
   exact JU
  ·rw[aar h2,ab7,Qk (Decidable.not_not.mp h2),aar aaj,ab7,MA (show z≠0 by unfold NZ at h;omega),aaz rfl]
   exact JU
theorem IL {x y z:Int}(h:t8 x y z):0<lh x y z:=by
 unfold lh
 unfold t8 at h
 split
 ·omega
 ·split
  ·omega
  ·omega
theorem MB {x y z:Int}(h:t8 x y z):NZ x y z:=by
 unfold t8 at h
 unfold NZ
 omega
theorem MC {x y z a b c d:Int}(hd:d≠0)(hx:x=d*a)(hy:y=d*b)(hz:z=d*c)(n:NZ x y z)(h:(0<d/\0<lh x y z)\/(d<0/\lh x y z<0)):t8 a b c:=by
 have key:∀ {x a:Int},x=d*a->((x=0↔a=0)/\((0<d/\0<x)\/(d<0/\x<0)->0<a)):=by
  intro x a e
  subst e
  refine⟨⟨fun z=>?_,fun z=>by rw[z,aaI]⟩,fun z=>?_⟩
  ·rcases ab5.mp z with w|w
   ·exact absurd w hd
   ·exact w
  ·rcases z with ⟨h1,h2⟩|⟨h1,h2⟩
   ·exact Int.pos_of_mul_pos_left (by rw[aao];exact h2) h1
   ·have h3:0<(-d)*a:=by rw[acQ];omega
    exact Int.pos_of_mul_pos_left (by rw[aao];exact h3) (show 0 < -d by omega)
 obtain⟨x1,x2⟩:=key hx
 obtain⟨y1,y2⟩:=key hy
 obtain⟨z1,z2⟩:=key hz
 unfold lh at h
 unfold t8
 unfold NZ at n
 by_cases c1:x=0
 ·rw[aar (by omega)] at h
  by_cases c2:y=0
  ·rw[aar (by omega)] at h
   exact .inr (.inr ⟨x1.mp c1,y1.mp c2,z2 h⟩)
  ·rw[aaz c2] at h
   exact .inr (.inl ⟨x1.mp c1,y2 h⟩)
 ·rw[aaz c1] at h
  exact .inl (x2 h)
theorem MD {x y z:Int}(h:NZ x y z):lh x y z≠0:=by
 unfold lh
 unfold NZ at h
 split
 ·assumption
 ·split
  ·assumption
  ·omega
theorem yX {g s t x y k1 k2:Int}(hx:x.natAbs<=Lm)(hy:y.natAbs<=Lm)(eg:g=s*x+t*y)(e1:x=k1*g)(e2:y=k2*g):g.natAbs<=Lm:=by
 by_cases h1:x=0
 ·by_cases h2:y=0
  ·subst h1 h2
   rw[aaI,aaI] at eg
   subst eg
   exact abd _
  ·refine aag (ab9 (by omega) (aa6.mpr ⟨k2,?_⟩)) hy
   rw[aao]
   exact e2
 ·refine aag (ab9 (by omega) (aa6.mpr ⟨k1,?_⟩)) hx
  rw[aao]
  exact e1
theorem Uz {ns:List Int}{i:Nat}{v:V}(h:(ns.map V.int)[i]?=some v):∃ n,v=.int n/\ns[i]?=some n/\n∈ns:=by
 rw[aaB] at h
 cases e:ns[i]? with
 | none=>rw[e] at h;cases h
 | some n=>rw[e] at h;exact⟨n,(aac h).symm,rfl,aaV e⟩
inductive mh (vs:List V)(H:Hp)(Q:VK)(bC:XK):Prop
 | mk:∀ (x p:Int),(vs=[.int x,.int p])->(x≠0)->(2<=p)->(p.natAbs.log2<9000)->(∀ (r:Addr) (H':Hp) (o l:Int),av H H'->H' r=some (.tup [.int o,.int l])->Pr.Hy x p l o->0<=o->l.fmod p≠0->l≠0->l.natAbs<=x.natAbs->(0<x->0<l)->(x<0->l<0)->Q (.ref r) H')->mh  vs H Q bC
theorem yY {l p:Int}(h2:2<=p)(l0:l≠0)(hz:l.fmod p=0):l.fdiv p≠0/\(l.fdiv p).natAbs<l.natAbs/\(0<l->0<l.fdiv p)/\(l<0->l.fdiv p<0):=by
 have q:=Pr.quot l p
 rw[hz] at q
 have e:l=p*l.fdiv p:=by omega
 generalize l.fdiv p=k at e
 have k0:k≠0:=fun z=>l0 (by rw[e,z,aaI])
 have ea:l.natAbs=p.natAbs*k.natAbs:=by rw[e,aaC]
 have pa:2<=p.natAbs:=by omega
 have ka:1<=k.natAbs:=by omega
 refine⟨k0,?_,fun h=>?_,fun h=>?_⟩
 ·have:=acG k.natAbs pa
  omega
 ·rcases acF k 0 with z|z|z
  ·have:=abO (show 0<p by omega) z
   omega
  ·exact absurd z k0
  ·exact z
 ·rcases acF k 0 with z|z|z
  ·exact z
  ·exact absurd z k0
  ·have:=acR (show 0<p by omega) z
   omega
theorem UA (z:Int):Jy (.int z) [.int 3,.int 5]=decide (z=3\/z=5):=by
 show ((3:Int)==z || ((5:Int)==z || false))=_
 by_cases h3:z=3
 ·subst h3;rfl
 ·by_cases h5:z=5
  ·subst h5;rfl
  ·have e3:((3:Int)==z)=false:=by simpa using fun e=>h3 (Eq.symm e)
   have e5:((5:Int)==z)=false:=by simpa using fun e=>h5 (Eq.symm e)
   rw[e3,e5,aa5 (by simp[h3,h5])]
   rfl
theorem pA (b:Int):Jc.cF b=1\/Jc.cF b=-1:=by unfold Jc.cF;split<;>simp
theorem qL (a b:Int):Jc.bH a b=1\/Jc.bH a b=-1:=by unfold Jc.bH;split<;>simp
inductive ux (vs:List V)(H:Hp)(Q:VK)(bC:XK):Prop
 | mk:∀ (x:Int),(vs=[.int x])->(∀ H',av H H'->Q (.int (Jc.cF x)) H')->ux  vs H Q bC
inductive pB (vs:List V)(H:Hp)(Q:VK)(bC:XK):Prop
 | mk:∀ (a b:Int),(vs=[.int a,.int b])->(Q (.int (Jc.bH a b)) H)->pB  vs H Q bC
inductive yZ (vs:List V)(H:Hp)(Q:VK)(bC:XK):Prop
 | mk:∀ (x n:Int),(vs=[.int x,.int n])->(0<n)->(n%2=1)->(n<2^64)->(∀ H',av H H'->Q (.int (Jc.J x n)) H')->yZ  vs H Q bC
def WS (x n:Int)(H:Hp)(m:Nat)(σ:St)(H':Hp):Prop:=∃ (sg top bot:Int) (tw od:Option V),σ=[some (.int x),some (.int n),some (.int sg),some (.int top),some (.int bot),tw,od]/\av H H'/\0<=top/\0<bot/\bot%2=1/\bot<2^64/\top<2^64/\(sg=1\/sg=-1)/\sg*Jc.J top bot=Jc.J x n/\m=top.toNat
abbrev eM (H:Hp)(rs:List Addr)(xs:List (Int × Int)):Prop:=Paired (fun (r:Addr) (x:Int × Int)=>H r=some (.tup [.int x.1,.int x.2])) rs xs
theorem eM.same {H H':Hp}(g:av H H'):∀ {rs:List Addr}{xs:List (Int × Int)},eM H rs xs->eM H' rs xs
 | _,_,.nil=>.nil
 | _,_,.cons h t=>.cons (g _ _ h) (eM.same g t)
theorem eM.app {H:Hp}{r:Addr}{x:Int × Int}(h:H r=some (.tup [.int x.1,.int x.2])):∀ {rs:List Addr}{xs:List (Int × Int)},eM H rs xs->eM H (rs++[r]) (xs++[x])
 | _,_,.nil=>.cons h .nil
 | _,_,.cons h' t=>.cons h' (eM.app h t)
theorem eM.upd {H:Hp}{a:Addr}{o:HO}:∀ {rs:List Addr}{xs:List (Int × Int)},eM H rs xs->(∀ ys,H a≠some (.tup ys))->eM (upd H a o) rs xs
 | _,_,.nil,_=>.nil
 | _,_,.cons h t,n=>.cons (by rw[aH (fun z=>by subst z;exact n _ h)];exact h) (eM.upd t n)
theorem eM.len {H:Hp}:∀ {rs:List Addr}{xs:List (Int × Int)},eM H rs xs->rs.length=xs.length
 | _,_,.nil=>rfl
 | _,_,.cons _ t=>by rw[aa8,aa8,eM.len t]
theorem eM.get {H:Hp}:∀ {rs:List Addr}{xs:List (Int × Int)}{i:Nat}{r:Addr},eM H rs xs->rs[i]?=some r->∃ x,xs[i]?=some x/\H r=some (.tup [.int x.1,.int x.2])
 | _,_,_,_,.nil,e=>by simp at e
 | _,_,0,_,.cons h _,e=>by simp at e;subst e;exact⟨_,rfl,h⟩
 | _,_,i+1,_,.cons _ t,e=>by
  obtain⟨x,h1,h2⟩:=eM.get (i:=i) t (by simpa using e)
  exact⟨x,by simpa using h1,h2⟩
inductive uy (vs:List V)(H:Hp)(Q:VK)(bC:XK):Prop
 | mk:∀ (d:Int),(vs=[.int d])->(Q (.int (if d=2 then 3 else d+2)) H)->uy  vs H Q bC
def W1 (n:Int)(pl:Addr)(H:Hp)(m:Nat)(σ:St)(H':Hp):Prop:=∃ (left d:Int) (xs:List (Int × Int)) (rs:List Addr) (of:Option V),σ=[some (.int n),some (.ref pl),some (.int left),some (.int d),of]/\av H H'/\H' pl=some (.lst (rs.map V.ref)) /\
 eM H' rs xs/\Pr.Out n left d xs/\2<=d/\d<=10000000002/\1<=left/\m=(left+1-d).toNat
theorem J0 {g:Int}(h:1<=g):g<=g*g:=by
 have:=abj h (show 0<=g by omega)
 omega
theorem short {n:Int}{xs:List (Int × Int)}(h:∀ x∈xs,Pr.Part x)(hn:Pr.bL xs<=n)(n1:n<=10000000000):xs.length<40:=by
 have h1:=Pr.DZ h
 rcases ae0 xs.length 40 with h2|h2
 ·exact h2
 ·have h3:=Pr.qa h2
  have:(2:Int)^40=1099511627776:=by decide
  omega
theorem FL {n left d:Int}{xs:List (Int × Int)}(h:Pr.Out n left d xs)(l1:1<=left):Pr.bL xs<=n:=by
 have e:=h.prod
 have:=Pr.fZ l1 (adO (Pr.bL xs)) (by have:=Pr.mI h.all;omega)
 omega
theorem grown {H H1:Hp}{pl p:Addr}{rs:List Addr}{xs:List (Int × Int)}{x:Int × Int}(g:av H H1)(hn:H pl=none)(hp:H1 p=none)(h1:H1 pl=some (.lst (rs.map V.ref)))(h2:eM H1 rs xs) :
  av H (upd (upd H1 p (.tup [.int x.1,.int x.2])) pl (.lst (rs.map V.ref++[.ref p])))/\(upd (upd H1 p (.tup [.int x.1,.int x.2])) pl (.lst (rs.map V.ref++[.ref p]))) pl=some (.lst ((rs++[p]).map V.ref)) /\
  eM (upd (upd H1 p (.tup [.int x.1,.int x.2])) pl (.lst (rs.map V.ref++[.ref p]))) (rs++[p]) (xs++[x]):=by
 have FN:p≠pl:=fun z=>by subst z;rw[h1] at hp;cases hp
 have g2:=ai hp (.tup [.int x.1,.int x.2])
 refine⟨fun b o q=>?_,?_,?_⟩
 ·rw[aH (aN q hn)]
  exact g2 b o (g b o q)
 ·rw[ag,aaS]
  rfl
 ·have t:eM (L2.upd H1 p (.tup [.int x.1,.int x.2])) (rs++[p]) (xs++[x]):=eM.app ag (eM.same g2 h2)
  exact t.upd fun ys z=>by
   rw[aH FN.symm,h1] at z
   cases z
inductive mi (vs:List V)(H:Hp)(Q:VK)(E:XK):Prop
 | mk:∀ (n:Int),(vs=[.int n])->(1<=n)->(n<=10000000000)->(∀ (p:Addr) (rs:List Addr) (xs:List (Int × Int)) (H':Hp),av H H'->H p=none->H' p=some (.lst (rs.map V.ref))->eM H' rs xs->Pr.Told n xs->Q (.ref p) H')->mi  vs H Q E
theorem sY {n:Nat}(h:n<1000):n<sizeLine:=aak h (by decide)
inductive uz (vs:List V)(H:Hp)(Q:VK)(bC:XK):Prop
 | mk:∀ (r1 r2:Addr) (o1 l1 o2 l2:Int),(vs=[.ref r1,.ref r2])->(H r1=some (.tup [.int o1,.int l1]))->(H r2=some (.tup [.int o2,.int l2]))->(∀ H',av H H'->Q (.int (Jc.iE o1 l1 o2 l2)) H')->uz  vs H Q bC
inductive uA (vs:List V)(H:Hp)(Q:VK)(bC:XK):Prop
 | mk:∀ (r1 r2:Addr) (o1 l1 o2 l2 p:Int),(vs=[.ref r1,.ref r2,.int p])->(H r1=some (.tup [.int o1,.int l1]))->(H r2=some (.tup [.int o2,.int l2]))->(0<p)->(p%2=1)->(p<2^64)->((Bd 100 l1/\Bd 100 l2))->(∀ H',av H H'->Q (.int (Jc.gG p o1 l1 o2 l2)) H')->uA  vs H Q bC
def At (a b p v:Int):Prop:=(p=0/\v=if a<0/\b<0 then -1 else 1)\/(Pr.aR p/\p<20000000000/\∃ o1 l1 o2 l2,Jc.Dec a p l1 o1/\Jc.Dec b p l2 o2/\v=Jc.hs p o1 l1 o2 l2)
inductive ME (vs:List V)(H:Hp)(Q:VK)(bC:XK):Prop
 | mk:∀ (a b p v:Int),(vs=[.int a,.int b,.int p])->(a≠0)->(b≠0)->((Bd 100 a/\Bd 100 b))->(At a b p v)->(∀ H',av H H'->Q (.int v) H')->ME  vs H Q bC
theorem b9 {p:Int}(h:Pr.aR p)(n2:p≠2):p%2=1:=by
 rcases (show p%2=0\/p%2=1 by omega) with z|z
 ·have:=h.two
  exact absurd (aaH z) (h.no 2 (by omega) (by omega))
 ·exact z
theorem sZ {xs:List (Int × Int)}{i:Nat}{x:Int × Int}(h:xs[i]?=some x):xs.take (i+1)=xs.take i++[x]:=by
 rw[aca,h]
 rfl
def gw (n:Int):Int:=if n<0 then -n else n
def sgn (n:Int):Int:=if n<0 then -1 else 1
theorem IM (n:Int):sgn n*gw n=n:=by
 unfold sgn gw
 split<;>omega
inductive pC (vs:List V)(H:Hp)(Q:VK)(bC:XK):Prop
 | mk:∀ (n:Int),(vs=[.int n])->(n≠0)->(-10000000000<=n)->(n<=10000000000)->(∀ (p:Addr) (xs:List (Int × Int)) (H':Hp),av H H'->Pr.Told (gw n) xs->H' p=some (.tup [.int (sgn n*Pr.cx xs),.int (Pr.bI xs)])->Q (.ref p) H')->pC  vs H Q bC
theorem B3 {xs:List (Int × Int)}{i:Nat}{p o:Int}(h:xs[i]?=some (p,o)):Pr.cx (xs.take (i+1))=Pr.cx (xs.take i)*(if o%2=1 then p else 1):=by
 rw[sZ h,Pr.BE]
 simp[Pr.cx]
theorem B5 {xs:List (Int × Int)}{i:Nat}{p o:Int}(h:xs[i]?=some (p,o)):Pr.bI (xs.take (i+1))=Pr.bI (xs.take i)*p^(o / 2).toNat:=by
 rw[sZ h,Pr.BG]
 simp[Pr.bI]
open Pl
def qM (n:Int):Prop:=n.natAbs<=10000000000
theorem abs_dvd {p n:Int}:p∣gw n↔p∣n:=by
 unfold gw
 split
 ·exact abu
 ·exact Iff.rfl
inductive y4 (vs:List V)(H:Hp)(Q:VK)(bC:XK):Prop
 | mk:∀ (n:Int),(vs=[.int n])->(n≠0)->(qM n)->((∀ p,Pr.aR p->¬ p*p∣n))->(∀ H',av H H'->Q (.bl true) H')->y4  vs H Q bC
inductive uB (vs:List V)(H:Hp)(Q:VK)(bC:XK):Prop
 | mk:∀ (a b c:Int),(vs=[.int a,.int b,.int c])->(rR a b c)->(qM a)->(qM b)->(qM c)->(∀ H',av H H'->Q (.bl true) H')->uB  vs H Q bC
def UB (n:Int)(os:List Int):Prop:=os.Nodup/\∀ p,p∈os↔Pr.aR p/\p≠2/\p∣n
theorem B6 {n:Int}{xs:List (Int × Int)}(h:Pr.Told (gw n) xs):UB n ((xs.map (·.1)).filter fun p=>decide (2<p)):=by
 refine⟨?_,fun p=>?_⟩
 ·show List.Pairwise (·≠·) _
  exact (adF.mpr (h.rise.imp (fun hx e=>by omega))).filter _
 ·rw[abQ,Ej h,abs_dvd]
  constructor
  ·rintro⟨⟨a,b⟩,c⟩
   have:2<p:=acB c
   exact⟨a,by omega,b⟩
  ·rintro⟨a,b,c⟩
   have:=a.two
   exact⟨⟨a,c⟩,abr (by omega)⟩
inductive uC (vs:List V)(H:Hp)(Q:VK)(bC:XK):Prop
 | mk:∀ (a b c:Int),(vs=[.int a,.int b,.int c])->(rR a b c)->(qM a)->(qM b)->(qM c)->(∀ (p:Addr) (ks:List Int) (H':Hp),av H H'->H p=none->H' p=some (.lst ((0::2::ks).map V.int))->(0::2::ks).Pairwise (·<·)->(0::2::ks).length<100->(∀ x,x∈ks↔Pr.aR x/\x≠2/\(x∣a\/x∣b\/x∣c))->Q (.ref p) H')->uC  vs H Q bC
theorem FO {n:Int}{xs:List (Int × Int)}(h:Pr.Told (gw n) xs)(hn:qM n):xs.length<34:=by
 have h1:=Pr.DZ h.all
 rw[h.prod] at h1
 have h2:gw n<=10000000000:=by
  unfold gw qM at *
  split<;>omega
 by_cases c:xs.length<34
 ·exact c
 ·have:=Pr.qa (show 34<=xs.length by omega)
  have:(2:Int)^34=17179869184:=by decide
  omega
theorem UC {xs:List (Int × Int)}(h:∀ x∈xs,Pr.Part x):(3:Int)^((xs.map (·.1)).filter fun p=>decide (2<p)).length<=Pr.bL xs:=by
 induction xs with
 | nil=>simp[Pr.bL]
 | cons x r ih=>
  have h1:=ih fun y hy=>h y (.tail _ hy)
  have hp:=(h x (.head _)).prime.two
  have ho:=(h x (.head _)).often
  obtain⟨k,hk⟩:∃ k,x.2.toNat=k+1:=⟨x.2.toNat-1,by omega⟩
  have ge:x.1<=x.1^x.2.toNat:=by
   rw[hk,aan,aao]
   exact Pr.fZ (Pr.bY (by omega) k) (adO _) (by omega)
  have pz:=Pr.bY (show (1:Int)<=3 by omega) ((r.map (·.1)).filter fun p=>decide (2<p)).length
  simp only[Pr.bL,adN,ab7]
  split
  ·rename_i c
   have c':2<x.1:=acB c
   rw[aa8,aan,aao]
   exact aby (by omega) h1 (by omega) (by omega)
  ·have:=aby (show (1:Int)<=x.1^x.2.toNat by omega) h1 (by omega) (by omega)
   omega
theorem IP {n:Int}{xs:List (Int × Int)}(h:Pr.Told (gw n) xs)(hn:qM n):((xs.map (·.1)).filter fun p=>decide (2<p)).length<=20:=by
 have h1:=UC h.all
 rw[h.prod] at h1
 have h2:gw n<=10000000000:=by
  unfold gw qM at *
  split<;>omega
 by_cases c:((xs.map (·.1)).filter fun p=>decide (2<p)).length<=20
 ·exact c
 ·obtain⟨d,hd⟩:=Nat.exists_eq_add_of_le (show 21<=((xs.map (·.1)).filter fun p=>decide (2<p)).length by omega)
  rw[hd,ab4] at h1
  have:=Pr.bY (show (1:Int)<=3 by omega) d
  have e:(3:Int)^21=10460353203:=by decide
  rw[e] at h1
  omega
def rowOf (t:T3):Nat->P3
 | 0=>t.r0
 | 1=>t.r1
 | _=>t.r2
inductive MF (K:W.Frag)(vs:List V)(H:Hp)(Q:VK)(bC:XK):Prop
 | mk:∀ (a:Addr) (ns:List Int) (k:Int),(vs=[.ref a,.int k])->(aM K H a (ns.map V.int))->(0<=k)->(k<1000)->(∀ n:Int,Q (.int n) H)->MF K vs H Q bC
inductive mj (vs:List V)(H:Hp)(Q:VK)(bC:XK):Prop
 | mk:∀ (c p m:Int),(vs=[.int c,.int p,.int m])->(0<p)->(p<100000)->(0<m)->(∀ n:Int,0<=n->n<m->Q (.int n) H)->mj  vs H Q bC
def OT (H:Hp)(q:Addr)(t:T3):Prop:=ST H q t\/∃ r0 r1 r2:Addr,H q=some (.lst [.ref r0,.ref r1,.ref r2])/\H r0=some (l3 t.r0)/\H r1=some (l3 t.r1)/\H r2=some (l3 t.r2)
inductive MG (vs:List V)(H:Hp)(Q:VK)(bC:XK):Prop
 | mk:∀ (p q:Addr) (r:P3) (t:T3),(vs=[.ref p,.ref q])->(H p=some (l3 r))->(OT H q t)->(BP 2000 r)->(BT 2000 t)->(∀ (z:Addr) (H':Hp),av H H'->H z=none->H' z=some (l3 (rt r t))->Q (.ref z) H')->MG  vs H Q bC
inductive IQ (vs:List V)(H:Hp)(Q:VK)(bC:XK):Prop
 | mk:∀ (p q:Addr) (F:F6) (t:T3),(vs=[.ref p,.ref q])->(S6 H p F)->(ST H q t)->(BF 600 F)->(BT 900 t)->(∀ (r:Addr) (H':Hp),av H H'->S6 H' r (ch F t)->Q (.ref r) H')->IQ  vs H Q bC
theorem YL {r0 r1 r2:Addr}{k:Nat}(hk:k<3):∃ r,xG [V.ref r0,.ref r1,.ref r2] (0+(k:Int))=some (.ref r)/\[r0,r1,r2][k]?=some r:=by
 obtain rfl|rfl|rfl:k=0\/k=1\/k=2:=by omega
 ·exact⟨r0,rfl,rfl⟩
 ·exact⟨r1,rfl,rfl⟩
 ·exact⟨r2,rfl,rfl⟩
theorem MH {S:Addr->P3->Prop}{r0 r1 r2:Addr}{t:T3}(h0:S r0 t.r0)(h1:S r1 t.r1)(h2:S r2 t.r2){k:Nat}{r:Addr}(e:[r0,r1,r2][k]?=some r):S r (rowOf t k):=by
 match k,e with
 | 0,e=>cases e;exact h0
 | 1,e=>cases e;exact h1
 | 2,e=>cases e;exact h2
theorem AY {S:Addr->P3->Prop}{r0 r1 r2:Addr}{t:T3}(h0:S r0 t.r0)(h1:S r1 t.r1)(h2:S r2 t.r2){k:Nat}{x:V}(e:[V.ref r0,.ref r1,.ref r2][k]?=some x):∃ z,x=.ref z/\S z (rowOf t k):=by
 match k,e with
 | 0,e=>exact⟨r0,(aac e).symm,h0⟩
 | 1,e=>exact⟨r1,(aac e).symm,h1⟩
 | 2,e=>exact⟨r2,(aac e).symm,h2⟩
theorem FP {k:Nat}{t:T3}(h:BT k t)(j:Nat):BP k (rowOf t j):=match j with
 | 0=>h.r0
 | 1=>h.r1
 | n+2=>h.r2
theorem MI (t:T3){i j:Nat}(hi:i<3)(hj:j<3):cmp (rowOf (tr t) i) j=cmp (rowOf t j) i:=by
 obtain rfl|rfl|rfl:i=0\/i=1\/i=2:=by omega
 all_goals (obtain rfl|rfl|rfl:j=0\/j=1\/j=2:=by omega)
 all_goals rfl
theorem Ql {P:P3}{rs:List Addr}(e:l3 P=.lst (rs.map V.ref)):False:=by
 have e2:[V.int P.x,.int P.y,.int P.z]=rs.map V.ref:=by injection e
 match rs,e2 with
 | r::rs',e2=>
  rw[adN] at e2
  have:=(ac0 e2).1
  cases this
theorem Laid.ne {row:Nat->HO}{i:Nat}{vs:List V}{H:Hp}(l:Laid row i vs H)(P:P3):l3 P≠.lst vs:=by
 obtain⟨rs,rfl,_⟩:=l
 exact fun e=>Ql e
theorem OT.mono {H H':Hp}{q:Addr}{t:T3}(g:av H H')(h:OT H q t):OT H' q t:=by
 rcases h with h|⟨r0,r1,r2,h,h0,h1,h2⟩
 ·exact .inl (h.mono g)
 ·exact .inr ⟨r0,r1,r2,g _ _ h,g _ _ h0,g _ _ h1,g _ _ h2⟩
theorem Qm {j k:Nat}{r:P3}{t:T3}(h:BP j r)(p:BT k t):BP (j+k+2) (rt r t):=
 ⟨((h.x.mul p.r0.x).add (h.y.mul p.r1.x)).add ((h.z.mul p.r2.x).mono (abk _)),((h.x.mul p.r0.y).add (h.y.mul p.r1.y)).add ((h.z.mul p.r2.y).mono (abk _)),((h.x.mul p.r0.z).add (h.y.mul p.r1.z)).add ((h.z.mul p.r2.z).mono (abk _))⟩
theorem Qn (F:F6)(t:T3):(.tup [V.int ((rt (rt (rowOf (tr t) 0) (sl F)) t).x / 2),.int ((rt (rt (rowOf (tr t) 1) (sl F)) t).y / 2),.int ((rt (rt (rowOf (tr t) 2) (sl F)) t).z / 2),.int (rt (rt (rowOf (tr t) 1) (sl F)) t).z,.int (rt (rt (rowOf (tr t) 0) (sl F)) t).z,.int (rt (rt (rowOf (tr t) 0) (sl F)) t).y]:HO)
 =.tup [.int (ch F t).a,.int (ch F t).b,.int (ch F t).c,.int (ch F t).d,.int (ch F t).e,.int (ch F t).f]:=by
 have h2:∀ w:Int,2*w / 2=w:=fun w=>by omega
 rw[Eo,Eo,Eo]
 show (.tup [V.int (bl F (tr t).r0 (tr t).r0 / 2),.int (bl F (tr t).r1 (tr t).r1 / 2),.int (bl F (tr t).r2 (tr t).r2 / 2),_,_,_]:HO)=_
 rw[iW,iW,iW,h2,h2,h2]
 rfl
def d6 (Q:F6):PyData:=.tuple [.int Q.a,.int Q.b,.int Q.c,.int Q.d,.int Q.e,.int Q.f]
theorem Wj {H:Hp}{p:Addr}{Q:F6}(h:S6 H p Q):DA H (.ref p) (d6 Q):=.tup h (.cons .int (.cons .int (.cons .int (.cons .int (.cons .int (.cons .int .nil))))))
theorem YM (Q:F6):PyData.eqv (d6 Q) (d6 Q)=true:=SeqAt.eqv_refl _ rfl
theorem MJ {g x y z:Int}(o:Et x y z)(g0:0<=g)(hx:g∣x)(hy:g∣y)(hz:g∣z):g=1:=by
 obtain⟨u,v,w,e⟩:=o
 have:g∣1:=by
  rw[<- e]
  exact acS (acS (aah hx (aaw _ _)) (aah hy (aaw _ _))) (aah hz (aaw _ _))
 have h3:=Nat.dvd_one.mp (aa6.mpr this)
 omega
theorem _root_.L2.aF.up {K:W.Frag}{H H':Hp}{a:Addr}{xs:List V}(e:av H H')(h:aF K H a xs):aF K H' a xs:=by
 rcases h with (h|⟨o,h⟩)|h
 ·exact .inl (.inl (e _ _ h))
 ·exact .inl (.inr ⟨o,e _ _ h⟩)
 ·exact .inr h
theorem y6 {X:Cx}{K:W.Frag}(hK:X.K=K)(hc:X.calm=true):ff X (.builtin "any") (fun xs H Q=>∃ (l:Addr) (ns:List Int),xs=[.ref l]/\aF K H l (ns.map V.int)/\Q (.bl (ns.any (· != 0))) H):=by
 subst hK
 exact By hc
theorem Qo {H H':Hp}{p:Addr}{o:HO}(g:av H H')(n:H p=none):av H (upd H' p o):=fun b u z=>by
 rw[aH (aN z n)]
 exact g b u z
def IS (K:W.Frag)(H:Hp)(p:Addr)(t:T3):Prop:=∃ r0 r1 r2:Addr,aF K H p [.ref r0,.ref r1,.ref r2]/\aF K H r0 (v3 t.r0)/\aF K H r1 (v3 t.r1)/\aF K H r2 (v3 t.r2)
theorem IS.up {K:W.Frag}{H H':Hp}{p:Addr}{t:T3}(e:av H H')(h:IS K H p t):IS K H' p t:=by
 obtain⟨r0,r1,r2,h0,h1,h2,h3⟩:=h
 exact⟨r0,r1,r2,h0.up e,h1.up e,h2.up e,h3.up e⟩
theorem IS.of {K:W.Frag}{H:Hp}{p:Addr}{t:T3}(h:ST H p t):IS K H p t:=by
 obtain⟨r0,r1,r2,h0,h1,h2,h3⟩:=h
 exact⟨r0,r1,r2,aF.of h0,aF.of h1,aF.of h2,aF.of h3⟩
inductive oH (H:Hp):List V->List P3->Prop where
 | nil:oH H [] []
 | cons {r:Addr}{P:P3}{vs:List V}{Ps:List P3}:S3 H r P->oH H vs Ps->oH H (.ref r::vs) (P::Ps)
theorem oH.mono {H H':Hp}{vs:List V}{Ps:List P3}(g:av H H')(h:oH H vs Ps):oH H' vs Ps:=by
 induction h with
 | nil=>exact .nil
 | cons h _ ih=>exact .cons (g _ _ h) ih
theorem oH.put {H:Hp}{vs:List V}{Ps:List P3}{l:Addr}{zs:List V}{o:HO}(h:oH H vs Ps)(hl:H l=some (.lst zs)):oH (upd H l o) vs Ps:=by
 induction h with
 | nil=>exact .nil
 | @cons r P vs Ps h _ ih=>
  refine .cons ?_ ih
  have ne:r≠l:=fun w=>by
   subst w
   have h':H r=some (t3 P):=h
   rw[hl] at h'
   cases h'
  show upd H l o r=_
  rw[aH ne]
  exact h
theorem oH.app {H:Hp}{vs ws:List V}{Ps Rs:List P3}(h:oH H vs Ps)(k:oH H ws Rs):oH H (vs++ws) (Ps++Rs):=by
 induction h with
 | nil=>exact k
 | cons h _ ih=>exact .cons h ih
theorem oH.len {H:Hp}{vs:List V}{Ps:List P3}(h:oH H vs Ps):vs.length=Ps.length:=by
 induction h with
 | nil=>rfl
 | cons _ _ ih=>simp[ih]
theorem oH.get {H:Hp}{vs:List V}{Ps:List P3}(h:oH H vs Ps):∀ {i:Nat}{v:V},vs[i]?=some v->∃ r P,v=.ref r/\Ps[i]?=some P/\S3 H r P:=by
 induction h with
 | nil=>intro i v e;cases e
 | @cons r P vs Ps h _ ih=>
  intro i v e
  cases i with
  | zero=>exact⟨r,P,(aac e).symm,rfl,h⟩
  | succ i=>exact ih e
noncomputable def RS (H:Hp) (v:V):Bool:=@decide (∃ r P,v=.ref r/\S3 H r P/\N3 P) (Classical.propDecidable _)
theorem MK {H:Hp}{r:Addr}{P R:P3}(h:S3 H r P)(k:S3 H r R):P=R:=by
 have e:some (t3 P)=some (t3 R):=h.symm.trans k
 injection e with e
 injection e with e
 have e1:=(ac0 e).1
 have e2:=(ac0 (ac0 e).2).1
 have e3:=(ac0 (ac0 (ac0 e).2).2).1
 exact P3.ext' ⟨V.int.inj e1,V.int.inj e2,V.int.inj e3⟩
theorem FQ {H:Hp}{r:Addr}{P:P3}(h:S3 H r P):RS H (.ref r)=vF P:=by
 rw[acy]
 unfold RS
 rw[@decide_eq_true_iff _ (Classical.propDecidable _),ug]
 constructor
 ·rintro⟨r',R,e,hR,n⟩
  cases e
  rw[MK h hR]
  exact n
 ·intro n
  exact⟨r,P,rfl,h,n⟩
theorem UD (P:P3):([P.x,P.y,P.z].any (· != 0))=vF P:=by
 unfold vF
 by_cases h1:P.x=0<;>by_cases h2:P.y=0<;>by_cases h3:P.z=0<;>simp[h1,h2,h3]
theorem oH.first {H:Hp}{vs:List V}{Ps:List P3}{v:P3}(h:oH H vs Ps)(e:(Ps.filter vF).head?=some v):∃ r rest,(vs.filter (RS H)).map id=.ref r::rest/\S3 H r v:=by
 induction h with
 | nil=>cases e
 | @cons r P vs Ps h _ ih=>
  rw[ab7] at e
  rw[ab7,FQ h]
  cases c:vF P with
  | true=>
   rw[c,aaz rfl] at e
   rw[aaz rfl]
   have:P=v:=aac e
   subst this
   exact⟨r,_,rfl,h⟩
  | false=>
   rw[c,aar aaj] at e
   rw[aar aaj]
   exact ih e
def FR (t:T3):List P3:=[t.r0,t.r1,t.r2]
inductive FT (K:W.Frag)(vs:List V)(H:Hp)(Q:VK)(bC:XK):Prop
 | mk:∀ (p q:Addr) (t u:T3),(vs=[.ref p,.ref q])->(IS K H p t)->(IS K H q u)->(BT 420 t)->(BT 420 u)->(∀ (l:Addr) (H':Hp) (ws:List V),av H H'->H' l=some (.lst ws)->oH H' ws (GO (FR t) (FR u))->Q (.ref l) H')->FT K vs H Q bC
theorem Qp {K:W.Frag}{H:Hp}{r0 r1 r2:Addr}{t:T3}{k:Nat}(h0:aF K H r0 (v3 t.r0))(h1:aF K H r1 (v3 t.r1))(h2:aF K H r2 (v3 t.r2))(b:BT k t){i:Nat}{v:V}(e:[V.ref r0,.ref r1,.ref r2][i]?=some v):∃ z P,v=.ref z/\(FR t)[i]?=some P/\aF K H z (v3 P)/\BP k P:=by
 match i,e with
 | 0,e=>exact⟨r0,t.r0,(aac e).symm,rfl,h0,b.r0⟩
 | 1,e=>exact⟨r1,t.r1,(aac e).symm,rfl,h1,b.r1⟩
 | 2,e=>exact⟨r2,t.r2,(aac e).symm,rfl,h2,b.r2⟩
 | n+3,e=>cases e
def Qq:T3:=⟨⟨1,0,0⟩,⟨0,1,0⟩,⟨0,0,1⟩⟩
theorem ML {F:F6}{d:Int}{R:P3}(hd:d≠0)(h:tb (sl F) (tm d R)=⟨0,0,0⟩):tb (sl F) R=⟨0,0,0⟩:=by
 have e:∀ r:P3,rp r (tm d R)=d*rp r R:=fun r=>by
  simp only[rp,tm]
  grind
 simp only[tb,e,P3.mk.injEq] at h ⊢
 exact⟨aQ h.1 hd,aQ h.2.1 hd,aQ h.2.2 hd⟩
theorem _root_.L2.aF.put {K:W.Frag}{H:Hp}{a l:Addr}{xs zs:List V}{o:HO}(h:aF K H a xs)(hl:H l=some (.lst zs)):aF K (upd H l o) a xs:=by
 rcases h with (h|⟨c,h⟩)|h
 ·have ne:a≠l:=fun w=>by subst w;rw[hl] at h;cases h
  exact .inl (.inl (by rw[aH ne];exact h))
 ·have ne:a≠l:=fun w=>by subst w;rw[hl] at h;cases h
  exact .inl (.inr ⟨c,by rw[aH ne];exact h⟩)
 ·exact .inr h
theorem _root_.L2.aM.up {K:W.Frag}{H H':Hp}{a:Addr}{xs:List V}(e:av H H')(h:aM K H a xs):aM K H' a xs:=by
 rcases h with (h|⟨o,h⟩)|h
 ·exact .inl (.inl (e _ _ h))
 ·exact .inl (.inr ⟨o,e _ _ h⟩)
 ·exact .inr h
theorem _root_.L2.Sq.up {K:W.Frag}{H H':Hp}{b:Bool}{a:Addr}{xs:List V}(e:av H H')(h:Sq K H b a xs):Sq K H' b a xs:=by
 cases b
 ·exact aF.up e h
 ·exact aM.up e h
theorem NA {K:W.Frag}{H:Hp}{b:Bool}{p:Addr}{xs:List V}{i:Int}{v:V}{Q:VK}(h:Sq K H b p xs)(e:xG xs i=some v)(q:Q v H):SO K (.ref p) (.int i) H Q:=by
 cases b
 ·exact .inr (.inl ⟨p,xs,i,v,rfl,rfl,h,e,q⟩)
 ·exact .inl ⟨p,xs,i,v,rfl,rfl,h,e,q⟩
inductive og (K:W.Frag)(H:Hp):List V->List P3->Prop where
 | nil:og K H [] []
 | cons {r:Addr}{P:P3}{vs:List V}{Ps:List P3}:aF K H r (v3 P)->og K H vs Ps->og K H (.ref r::vs) (P::Ps)
theorem og.mono {K:W.Frag}{H H':Hp}{vs:List V}{Ps:List P3}(g:av H H')(h:og K H vs Ps):og K H' vs Ps:=by
 induction h with
 | nil=>exact .nil
 | cons h _ ih=>exact .cons (h.up g) ih
theorem og.put {K:W.Frag}{H:Hp}{vs:List V}{Ps:List P3}{l:Addr}{zs:List V}{o:HO}(h:og K H vs Ps)(hl:H l=some (.lst zs)):og K (upd H l o) vs Ps:=by
 induction h with
 | nil=>exact .nil
 | cons h _ ih=>exact .cons (h.put hl) ih
theorem og.app {K:W.Frag}{H:Hp}{vs ws:List V}{Ps Rs:List P3}(h:og K H vs Ps)(k:og K H ws Rs):og K H (vs++ws) (Ps++Rs):=by
 induction h with
 | nil=>exact k
 | cons h _ ih=>exact .cons h ih
theorem og.len {K:W.Frag}{H:Hp}{vs:List V}{Ps:List P3}(h:og K H vs Ps):vs.length=Ps.length:=by
 induction h with
 | nil=>rfl
 | cons _ _ ih=>rw[aa8,aa8,ih]
theorem og.get {K:W.Frag}{H:Hp}{vs:List V}{Ps:List P3}(h:og K H vs Ps):∀ {i:Nat}{v:V},vs[i]?=some v->∃ r P,v=.ref r/\Ps[i]?=some P/\aF K H r (v3 P):=by
 induction h with
 | nil=>intro i v e;cases e
 | @cons r P vs Ps h _ ih=>
  intro i v e
  match i,e with
  | 0,e=>exact⟨r,P,(aac e).symm,rfl,h⟩
  | i+1,e=>exact ih (i:=i) (by simpa using e)
theorem B7 {K:W.Frag}{b:Bool}{a:Addr}{xs:List V}{te:TE}{σ:V->St}{H:Hp}{Q:VK}(hn:xs.length<sizeLine)(hK:∀ H',av H H'->Sq K H' b a xs)(R:Nat->List V->Hp->Prop)(R0:∀ p,H p=none->R 0 [] (upd H p (.lst [])))
  (he:∀ (i:Nat) (x:V) (vs:List V) (H':Hp) (acc:Addr) (Q':VK),xs[i]?=some x->av H H'->H acc=none->H' acc=some (.lst vs)->R i vs H'->vs.length=i->(∀ y H2,av H' H2->R (i+1) (vs++[y]) (upd H2 acc (.lst (vs++[y])))->Q' y H2)->te (σ x) H' Q')
  (q:∀ p H' vs,av H H'->H p=none->H' p=some (.lst vs)->vs.length=xs.length->R xs.length vs H'->Q (.ref p) H'):CompEnd (Nt K b a) Q H te σ:=by
 cases b with
 | true=>exact iU hn hK R R0 he q
 | false=>exact kj hn hK R R0 he q
theorem uD {K:W.Frag}{a:Addr}{xs:List V}{tc:TT}{te:TE}{σ:V->St}{H:Hp}{Q:VK}(hn:xs.length<sizeLine)(b:Nat->Bool)(hK:∀ H',av H H'->aM K H' a xs)(R:Nat->List V->Prop)(R0:R 0 [])
  (Rt:∀ i x vs,xs[i]?=some x->b i=true->R i vs->R (i+1) (vs++[x])) (Rf:∀ i x vs,xs[i]?=some x->b i=false->R i vs->R (i+1) vs)
  (ht:∀ (i:Nat) (x:V) (H':Hp) (Q':Bool->Hp->Prop),xs[i]?=some x->av H H'->(∀ H2,av H' H2->Q' (b i) H2)->tc (σ x) H' Q')
  (he:∀ (i:Nat) (x:V) (H':Hp) (Q':VK),xs[i]?=some x->av H H'->(∀ H2,av H' H2->Q' x H2)->te (σ x) H' Q')
  (q:∀ a H' vs,av H H'->H a=none->H' a=some (.lst vs)->R xs.length vs->Q (.ref a) H'):fO (CQ K a) Q H tc te σ:=by
 intro acc aT
 refine⟨fun i m H' vs=>i<=xs.length/\m=xs.length-i/\av H H'/\H' acc=some (.lst vs)/\vs.length<=i/\R i vs,⟨xs.length,abd _,by simp,ai aT _,ag,aai _,R0⟩,?_⟩
 rintro i m H' vs ⟨hi,rfl,g,ha,hv,r⟩
 refine⟨ha,?_⟩
 by_cases h:i=xs.length
 ·subst h
  exact .inl ⟨⟨xs,hK _ g,aai _⟩,q acc H' vs g aT ha r⟩
 ·have eJ:i<xs.length:=by omega
  refine .inr ⟨⟨xs,xs[i],hK _ g,by simp[eJ]⟩,by omega,?_⟩
  rintro x H2 ⟨rfl,hx⟩
  have ex:=hx xs (hK _ g)
  refine ht i x _ _ ex g fun H3 g3=>?_
  cases e:b i with
  | true=>exact lP (he i x _ _ ex (g.trans g3) fun H4 g4=>⟨g4 _ _ (g3 _ _ ha),xs.length-(i+1),by omega,by omega,rfl,de (g.trans (g3.trans g4)) aT,ag,by simp;omega,Rt i x vs ex e r⟩)
  | false=>exact gU ⟨xs.length-(i+1),by omega,by omega,rfl,g.trans g3,g3 _ _ ha,by omega,Rf i x vs ex e r⟩
inductive FU (K:W.Frag)(vs:List V)(H:Hp)(Q:VK)(bC:XK):Prop
 | mk:∀ (p q:Addr) (r s:P3),(vs=[.ref p,.ref q])->(S3 H p r)->(aF K H q (v3 s))->(BP 2000 r)->(BP 2000 s)->(Q (.int (rp r s)) H)->FU K vs H Q bC
inductive AZ (K:W.Frag)(vs:List V)(H:Hp)(Q:VK)(bC:XK):Prop
 | mk:∀ (p q:Addr) (t:T3) (P:P3),(vs=[.ref p,.ref q])->(ST H p t)->(aF K H q (v3 P))->(BT 2000 t)->(BP 2000 P)->(∀ (r:Addr) (H':Hp),av H H'->H r=none->S3 H' r (tb t P)->Q (.ref r) H')->AZ K vs H Q bC
inductive A1 (K:W.Frag)(vs:List V)(H:Hp)(Q:VK)(bC:XK):Prop
 | mk:∀ (p q:Addr) (F:F6) (P:P3),(vs=[.ref p,.ref q])->(S6 H p F)->(aF K H q (v3 P))->(BF 600 F)->(BP 600 P)->(∀ H',av H H'->Q (.int (wo F P)) H')->A1 K vs H Q bC
inductive y7 (K:W.Frag)(vs:List V)(H:Hp)(Q:VK)(bC:XK):Prop
 | mk:∀ (p q:Addr) (P R:P3),(vs=[.ref p,.ref q])->(aF K H p (v3 P))->(aF K H q (v3 R))->(∀ (z:Addr) (H':Hp),av H H'->S3 H' z (ad P R)->Q (.ref z) H')->y7 K vs H Q bC
inductive qO (K:W.Frag)(vs:List V)(H:Hp)(Q:VK)(bC:XK):Prop
 | mk:∀ (b:Bool) (p:Addr) (x y z:Int),(vs=[.ref p])->(Sq K H b p [.int x,.int y,.int z])->(RR Top x y z)->(NZ x y z)->(∀ (r:Addr) (H':Hp) (a b c d:Int),av H H'->RQ H' r a b c->Et a b c->t8 a b c->d≠0->x=d*a->y=d*b->z=d*c->Q (.ref r) H')->qO K vs H Q bC
inductive FV (vs:List V)(H:Hp)(Q:VK)(bC:XK):Prop
 | mk:∀ (p:Addr) (t:T3),(vs=[.ref p])->(LT H p t)->(∀ (r:Addr) (H':Hp),av H H'->ST H' r (tr t)->Q (.ref r) H')->FV  vs H Q bC
inductive uE (vs:List V)(H:Hp)(Q:VK)(bC:XK):Prop
 | mk:∀ n,(vs=[.int n])->(0<=n)->(n<=Top)->(∀ g:Int,0<=g->g<=2*n+1->n<g*g->Q (.int g) H)->uE  vs H Q bC
inductive uF (vs:List V)(H:Hp)(Q:VK)(bC:XK):Prop
 | mk:∀ (r:Int),(vs=[.int (r*r)])->(0<=r)->(r*r<=Top)->(Q (.int r) H)->uF  vs H Q bC
theorem xa {g:Int}(h0:0<=g)(h:g<=2*Top+1):g.natAbs<2^1000:=by
 have e:Top=((2^900:Nat):Int):=by rw[yV];decide +kernel
 have k:2*2^900+1<2^1000:=by decide +kernel
 rw[e] at h
 generalize (2:Nat)^900=N at h k
 generalize (2:Nat)^1000=M at k
 omega
theorem newton_step {n g:Int}(n0:0<=n)(g0:0<=g)(hg:n<g*g):0<g/\0<=(g+n.fdiv g) / 2/\(g+n.fdiv g) / 2<g/\n<((g+n.fdiv g) / 2+1)*((g+n.fdiv g) / 2+1):=by
 have gp:0<g:=by
  rcases (show g=0\/0<g by omega) with h|h
  ·subst h;omega
  ·exact h
 have e:n=g*n.fdiv g+n.fmod g:=by rw[aes];omega
 have r0:=acr n gp
 have r1:=aek n gp
 generalize n.fdiv g=q at e ⊢
 generalize n.fmod g=r at e r0 r1
 have q0:0<=q:=by
  rcases adw q 0 with h|h
  ·have:=aaK (show q<=-1 by omega) (abx gp)
   omega
  ·exact h
 have q1:q<g:=by
  rcases adw q g with h|h
  ·exact h
  ·have:=aaK h (abx gp)
   omega
 have YN:∀ a:Int,0<=a*a:=fun a=>by
  rcases Int.le_total 0 a with h|h
  ·exact acq h h
  ·exact Int.mul_nonneg_of_nonpos_of_nonpos h h
 refine⟨gp,by omega,by omega,?_⟩
 have hn:n<g*(q+1):=by
  have:g*(q+1)=g*q+g:=by rw[Int.mul_add,abl]
  omega
 have h2:g+q+1<=2*((g+q) / 2+1):=by omega
 generalize (g+q) / 2+1=c at h2 ⊢
 have k:=YN (g-(q+1))
 have h3:(g+q+1)*(g+q+1)<=(2*c)*(2*c):=aby h2 h2 (by omega) (by omega)
 grind
theorem B8 {g r:Int}(h0:0<=g)(h1:g*g<=r*r)(h2:r*r<(g+1)*(g+1))(r0:0<=r):g=r:=by
 rcases acF g r with h|h|h
 ·have:=aby (show g+1<=r by omega) (show g+1<=r by omega) (by omega) (by omega)
  omega
 ·exact h
 ·have:=aby (show r+1<=g by omega) (show r+1<=g by omega) (by omega) (by omega)
  grind
theorem m8 {n:Int}{xs:List (Int × Int)}(n0:n≠0)(told:Pr.Told (gw n) xs):Jc.Sf (sgn n*Pr.cx xs)/\n=(sgn n*Pr.cx xs)*(Pr.bI xs*Pr.bI xs)/\0<=Pr.bI xs:=by
 have cr:=Pr.sJ told.all
 rw[told.prod] at cr
 have cu:(sgn n*Pr.cx xs)*(Pr.bI xs*Pr.bI xs)=n:=by
  have:=IM n
  rw[<- cr] at this
  rw[<- this]
  grind
 have YO:sgn n=1\/sgn n=-1:=by
  unfold sgn
  split<;>simp
 have u1:=Pr.sL told.all
 refine⟨⟨fun z=>n0 (by rw[<- cu,z,ae3]),fun q hq h=>Pr.yq hq told.all told.rise ?_⟩,cu.symm,by omega⟩
 rcases YO with e|e
 ·rw[e,aaN] at h
  exact h
 ·rw[e,acQ,aaN,abu] at h
  exact h
inductive MM (vs:List V)(H:Hp)(Q:VK)(bC:XK):Prop
 | mk:∀ (a b:Int),(vs=[.int a,.int b])->(Jc.Sf a)->(Jc.Sf b)->(Bd 400 a)->(Bd 400 b)->(∀ (c:Int) (H':Hp),av H H'->Jc.Cc a b c->Bd 800 c->Q (.int c) H')->MM  vs H Q bC
inductive uG (vs:List V)(H:Hp)(Q:VK)(bC:XK):Prop
 | mk:∀ (p:Addr) (w1 w2 w3 s m:Int),(vs=[.ref p,.int s])->(H p=some (.lst [.int w1,.int w2,.int w3]))->(w1≠0)->(w2≠0)->(s≠0)->(w1.natAbs<=100)->(w2.natAbs<=54000000)->(s.natAbs<=8000000)->(4*(w1*w2*w3)=s*m*m)->(∀ (r:Addr) (H':Hp) (c1 c2 c3 r1 r2 r3:Int),av H H'->H' r=some (.tup [.int c1,.int c2,.int c3])->Jc.Sf c1->Jc.Sf c2->Jc.Sf c3->w1=c1*(r1*r1)->w2=c2*(r2*r2)->w3=c3*(r3*r3)->0<=r1->0<=r2->0<=r3 ->
  (∀ p,Pr.aR p->p∣c3->p∣c1\/p∣c2\/p∣s)->Q (.ref r) H')->uG  vs H Q bC
inductive A2 (K:W.Frag)(vs:List V)(H:Hp)(Q:VK)(bC:XK):Prop
 | mk:∀ (b:Bool) (q p:Addr) (F:F6) (us:List V) (Ps:List P3),(vs=[.ref q,.ref p])->(S6 H q F)->(Sq K H b p us)->(og K H us Ps)->(Ps.length<=3)->(BF 300 F)->((∀ P∈Ps,BP 300 P))->((∃ v,ql F Ps=some v))->(∀ (r:Addr) (H':Hp) (v:P3),av H H'->aF K H' r (v3 v)->ql F Ps=some v->Q (.ref r) H')->A2 K vs H Q bC
theorem IT {k:Nat}{Ps:List P3}(h:∀ P∈Ps,BP k P){v:P3}(hv:v∈k9 Ps):BP (k+1) v:=by
 rcases aa9.mp hv with m|m
 ·exact (h v m).cy
 ·obtain⟨a,ha,m⟩:=adb.mp m
  obtain⟨b,hb,rfl⟩:=abb.mp m
  exact Qj (h a ha) (h b hb)
def m9 (K:W.Frag)(H:Hp)(F:F6)(Vs:List P3)(i:Nat)(vs:List V):Prop:=match (Vs.take i).find? fun v=>wo F v != 0 with
 | none=>vs=[]
 | some v=>∃ r rest,vs=.ref r::rest/\aF K H r (v3 v)
def FW (F:F6)(Vs:List P3)(i:Nat):Bool:=match Vs[i]? with
 | none=>false
 | some v=>wo F v != 0
theorem A3 {F:F6}{Vs:List P3}{i:Nat}{v:P3}(h:Vs[i]?=some v):FW F Vs i=(wo F v != 0):=by
 unfold FW
 rw[h]
theorem m9.zero {K:W.Frag}{H:Hp}{F:F6}{Vs:List P3}:m9 K H F Vs 0 []:=by
 unfold m9
 simp
theorem m9.step {K:W.Frag}{H:Hp}{F:F6}{Vs:List P3}{i:Nat}{vs:List V}{r:Addr}{P:P3}(hP:Vs[i]?=some P)(hr:aF K H r (v3 P))(h:m9 K H F Vs i vs):(FW F Vs i=true->m9 K H F Vs (i+1) (vs++[.ref r]))/\(FW F Vs i=false->m9 K H F Vs (i+1) vs):=by
 rw[A3 hP]
 unfold m9 at *
 rw[aca,hP,List.find?_append]
 cases e:(Vs.take i).find? fun v=>wo F v != 0 with
 | some v=>
  rw[e] at h
  obtain⟨r',rest,rfl,h'⟩:=h
  exact⟨fun _=>⟨r',rest++[.ref r],rfl,h'⟩,fun _=>⟨r',rest,rfl,h'⟩⟩
 | none=>
  rw[e] at h
  subst h
  refine⟨fun c=>?_,fun c=>?_⟩
  ·simp only[Option.none_or,Option.toList,List.find?_cons,c]
   exact⟨r,[],rfl,hr⟩
  ·simp only[Option.none_or,Option.toList,List.find?_cons,c,List.find?_nil]
theorem y9 {k:Nat}:∀ P∈gz,BP k P:=by
 intro P h
 simp only[gz,aaf,aaF,abN] at h
 rcases h with rfl|rfl|rfl
 ·exact⟨B1,pj,pj⟩
 ·exact⟨pj,B1,pj⟩
 ·exact⟨pj,pj,B1⟩
theorem Qr {F:F6}{v:P3}(h:wo F v≠0):N3 v:=by
 apply aaQ
 intro c
 rw[t9 c] at h
 simp[wo] at h
theorem J1 {v:P3}(h:N3 v):NZ v.x v.y v.z:=h
inductive uH (K:W.Frag)(vs:List V)(H:Hp)(Q:VK)(bC:XK):Prop
 | mk:∀ (q lr:Addr) (F:F6) (P:P3),(vs=[.ref q,.ref lr])->(S6 H q F)->(S3 H lr (tb (sl F) P))->(fE F)->(sz F≠0)->(E7 F P (tb (sl F) P))->(∀ (r r1 r2:Addr) (H':Hp) (R S:P3),av H H'->H' r=some (.tup [.ref r1,.ref r2])->S3 H' r1 R->S3 H' r2 S->PL F P R S->(wo F R).natAbs<=54000000->BP 100 R->BP 100 S->Q (.ref r) H')->uH K vs H Q bC
inductive MN (K:W.Frag)(vs:List V)(H:Hp)(Q:VK)(bC:XK):Prop
 | mk:∀ (q:Addr) (F:F6),(vs=[.ref q])->(S6 H q F)->(fE F)->(sz F≠0)->(∀ (r r0 r1 r2:Addr) (H':Hp) (P R S:P3),av H H'->H' r=some (.tup [.ref r0,.ref r1,.ref r2])->aF K H' r0 (v3 P)->aF K H' r1 (v3 R)->aF K H' r2 (v3 S)->PL F P R S->(wo F P).natAbs<=100->(wo F R).natAbs<=54000000->BP 100 P->BP 100 R->BP 100 S->Q (.ref r) H')->MN K vs H Q bC
theorem MO {F:F6}{P l v R:P3}{d:Int}(el:l=tb (sl F) P)(h:fE F)(f:E7 F P l)(ev:ql F (gz.map (cr l))=some v)(d0:d≠0)(e:v=tm d R):bl F P R=0/\wo F R≠0/\(wo F R).natAbs<=54000000/\BP 100 R:=by
 have nz:=o8 ev
 have b:=E8 f ev
 have on:=Ij (E6 ev)
 rw[e] at nz b on
 have bx:=mO d0 b.1
 have wC:=mO d0 b.2.1
 have bz:=mO d0 b.2.2
 refine⟨?_,fun z=>nz (by rw[Eu,z,aaI]),PX h ⟨bx,wC,bz⟩,⟨aag bx (by decide),aag wC (by decide),aag bz (by decide)⟩⟩
 unfold bl
 rw[<- el]
 have:rp l (tm d R)=d*rp l R:=by
  simp only[rp,tm]
  grind
 rw[this] at on
 exact (ab5.mp on).resolve_left d0
theorem FX {F:F6}{P l:P3}(h:E7 F P l):BP 8 l/\BP 1 P:=⟨⟨aag h.lx (by decide),aag h.ly (by decide),aag h.lz (by decide)⟩,⟨aag h.px (by decide),aag h.py (by decide),aag h.pz (by decide)⟩⟩
theorem MP {R v:P3}{d:Int}(d0:d≠0)(e:v=tm d R)(b:v.x.natAbs<=300/\v.y.natAbs<=300/\v.z.natAbs<=300):BP 9 R:=by
 rw[e] at b
 exact⟨aag (mO d0 b.1) (by decide),aag (mO d0 b.2.1) (by decide),aag (mO d0 b.2.2) (by decide)⟩
theorem za {g s t x y:Int}(g0:0<=g)(e:g=s*x+t*y)(k1:∃ k,x=k*g)(k2:∃ k,y=k*g):g=(Int.gcd x y:Int):=by
 obtain⟨a,ea⟩:=k1
 obtain⟨b,eb⟩:=k2
 have h1:g∣(Int.gcd x y:Int):=aeJ ⟨a,by rw[aao];exact ea⟩ ⟨b,by rw[aao];exact eb⟩
 have h2:(Int.gcd x y:Int)∣g:=by
  rw[e]
  exact acS (aah (aeA ..) (aaw ..)) (aah (aen ..) (aaw ..))
 exact Int.dvd_antisymm g0 (Int.natCast_nonneg _) h1 h2
theorem nq {a b:Int}(a0:a≠0):Jc.Gr (Int.gcd a b:Int) a b:=by
 refine⟨?_,aeA ..,aen ..,fun p hp x y=>aeJ x y⟩
 have:Int.gcd a b≠0:=fun z=>a0 (Int.gcd_eq_zero_iff.mp z).1
 omega
theorem uI {c g q m:Int}(m0:m≠0)(e:c*g=q*m):(c*g).fdiv m=q:=by
 rw[e]
 exact adn _ m0
theorem FY {k:Nat}{r:Int}(h:Bd k (r*r)):Bd k r:=by
 unfold Bd at *
 rw[aaC] at h
 rcases adv r.natAbs with z|z
 ·omega
 ·exact aag (adW _ z) h
theorem je {k:Nat}{a b:Int}(h:a∣b)(b0:b≠0)(hb:Bd k b):Bd k a:=Jc.iY h b0 hb
def RT (i:Nat):V:=match i with
 | 0=>.int 0
 | 1=>.int 1
 | _=>.int 2
def RU (i:Nat):V:=match i with
 | 0=>.int 1
 | 1=>.int 2
 | _=>.int 0
def RV (i:Nat):V:=match i with
 | 0=>.int 2
 | 1=>.int 0
 | _=>.int 1
def UE (a b c:Int)(i:Nat):V:=match i with
 | 0=>.int a
 | 1=>.int b
 | _=>.int c
theorem RW {i:Nat}(h:i<3):i=0\/i=1\/i=2:=by omega
theorem IU {F:F6}{P R S:P3}{c1 c2 c3 r1 r2 r3 q1 q2 q3 L s1 s2 s3:Int}(C:PL F P R S)(B9:Jc.Sf c1)(Ca:Jc.Sf c2)(CD:Jc.Sf c3)(h1:wo F P=c1*(r1*r1))(h2:wo F R=c2*(r2*r2))(h3:wo F S=c3*(r3*r3))
  (e1:c1*(Int.gcd c2 c3:Int)=q1*((Int.gcd c3 c1:Int)*(Int.gcd c1 c2:Int))) (e2:c2*(Int.gcd c3 c1:Int)=q2*((Int.gcd c1 c2:Int)*(Int.gcd c2 c3:Int))) (e3:c3*(Int.gcd c1 c2:Int)=q3*((Int.gcd c2 c3:Int)*(Int.gcd c3 c1:Int)))
  (L0:L≠0) (l1:(Int.gcd c2 c3:Int)*r2*r3=L*s1) (l2:(Int.gcd c3 c1:Int)*r3*r1=L*s2) (l3:(Int.gcd c1 c2:Int)*r1*r2=L*s3) :
  ∃ k:Int,k≠0/\(wo F P*s1*s1).fdiv q1=k/\me (tr ⟨tm s1 P,tm s2 R,tm s3 S⟩)≠0/\ch F (tr ⟨tm s1 P,tm s2 R,tm s3 S⟩)=⟨k*q1,k*q2,k*q3,0,0,0⟩/\Pl.rR q1 q2 q3:=by
 have G1:=nq (b:=c3) Ca.n0
 have G2:=nq (b:=c1) CD.n0
 have G3:=nq (b:=c2) B9.n0
 have Qt:=Jc.AK B9 Ca CD G1 G2 G3 e1 e2 e3
 obtain⟨k,k0,Bu,x1,x2,x3⟩:=Jc.E3 Qt C.w1 C.w2 C.w3 h1 h2 h3 (by have:=G1.pos;omega) e1 e2 e3 L0 l1 l2 l3
 have ne:∀ {w s q:Int},w*s*s=k*q->q≠0->s≠0:=fun {w s q} e hq z=>by
  rw[z,aaI] at e
  exact aay k0 hq e.symm
 refine⟨k,k0,?_,?_,?_,Qt⟩
 ·rw[x1]
  exact adn _ Qt.a0
 ·rw[EV,Mi]
  exact aay (aay (aay Bu (ne x2 Qt.b0)) (ne x3 Qt.c0)) C.Yc
 ·rw[E5 C,x1,x2,x3]
inductive uJ (vs:List V)(H:Hp)(Q:VK)(bC:XK):Prop
 | mk:∀ (p:Addr) (x y z:Int),(vs=[.ref p])->(RQ H p x y z)->(Et x y z)->(t8 x y z)->(∀ H',av H H'->Q (.bl true) H')->uJ  vs H Q bC
inductive uK (vs:List V)(H:Hp)(Q:VK)(bC:XK):Prop
 | mk:∀ (p:Addr) (x y z:Int),(vs=[.ref p,.int 3])->(RQ H p x y z)->(∀ H',av H H'->Q (.bl true) H')->uK  vs H Q bC
inductive uL (vs:List V)(H:Hp)(Q:VK)(bC:XK):Prop
 | mk:∀ (p:Addr) (F:F6),(vs=[.ref p])->(S6 H p F)->(BF 600 F)->(Q (.int (sz F)) H)->uL  vs H Q bC
inductive FZ (vs:List V)(H:Hp)(Q:VK)(bC:XK):Prop
 | mk:∀ (p:Addr) (a b c k:Int),(vs=[.ref p,.int k])->(S6 H p ⟨a,b,c,0,0,0⟩)->(a.natAbs<=21)->(b.natAbs<=21)->(c.natAbs<=21)->(∀ (r:Addr) (H':Hp) (F:F6),av H H'->S6 H' r F->fE F->Q (.ref r) H')->FZ  vs H Q bC
def MQ (i:Nat)(vs:List V):Prop:=∃ ms:List Int,vs=ms.map V.int/\ms.length=i/\∀ m∈ms,m.natAbs<=1
theorem MQ.next {i:Nat}{vs:List V}{n:Int}(h:MQ i vs)(hn:n.natAbs<=1):MQ (i+1) (vs++[.int n]):=by
 obtain⟨ms,rfl,hl,hm⟩:=h
 refine⟨ms++[n],by simp,by simp[hl],fun m UG=>?_⟩
 rcases aa9.mp UG with h|h
 ·exact hm m h
 ·rw[aaY.mp h]
  exact hn
theorem MQ.three {vs:List V}(h:MQ 3 vs):∃ x y z:Int,vs=[.int x,.int y,.int z]/\x.natAbs<=1/\y.natAbs<=1/\z.natAbs<=1:=by
 obtain⟨ms,rfl,hl,hm⟩:=h
 match ms,hl,hm with
 | [x,y,z],_,hm=>exact⟨x,y,z,rfl,hm x (by simp),hm y (by simp),hm z (by simp)⟩
theorem u1 {u x:Int}(hx:x.natAbs<=1):(u*x).natAbs<=u.natAbs:=by
 rw[aaC]
 exact aag (acg _ hx) (Nat.le_of_eq (aeC _))
theorem MR {a b c x y:Int}(ha:a.natAbs<=21)(hb:b.natAbs<=21)(hc:c.natAbs<=21)(hx:x.natAbs<=1)(hy:y.natAbs<=1):fE (ch ⟨a,b,c,0,0,0⟩ ⟨⟨1,x,0⟩,⟨0,1,0⟩,⟨y,0,1⟩⟩):=by
 have e:ch ⟨a,b,c,0,0,0⟩ ⟨⟨1,x,0⟩,⟨0,1,0⟩,⟨y,0,1⟩⟩=⟨a+c*y*y,a*x*x+b,c,0,2*(c*y),2*(a*x)⟩:=by
  simp only[ch,wo,bl,tb,sl,rp,tr,F6.mk.injEq]
  refine⟨?_,?_,?_,?_,?_,?_⟩<;>grind
 have h1:=u1 (u:=a) hx
 have h2:=u1 (u:=a*x) hx
 have h3:=u1 (u:=c) hy
 have h4:=u1 (u:=c*y) hy
 rw[e]
 constructor<;>simp only<;>omega
theorem MS {a b c x y:Int}(ha:a.natAbs<=21)(hb:b.natAbs<=21)(hc:c.natAbs<=21)(hx:x.natAbs<=1)(hy:y.natAbs<=1):fE (ch ⟨a,b,c,0,0,0⟩ ⟨⟨1,0,0⟩,⟨x,1,y⟩,⟨0,0,1⟩⟩):=by
 have e:ch ⟨a,b,c,0,0,0⟩ ⟨⟨1,0,0⟩,⟨x,1,y⟩,⟨0,0,1⟩⟩=⟨a+b*x*x,b,c+b*y*y,2*(b*y),2*(b*x*y),2*(b*x)⟩:=by
  simp only[ch,wo,bl,tb,sl,rp,tr,F6.mk.injEq]
  refine⟨?_,?_,?_,?_,?_,?_⟩<;>grind
 have h1:=u1 (u:=b) hx
 have h2:=u1 (u:=b*x) hx
 have h3:=u1 (u:=b) hy
 have h4:=u1 (u:=b*y) hy
 have h5:=u1 (u:=b*x) hy
 rw[e]
 constructor<;>simp only<;>omega
theorem mn {a:Int}(h:a.natAbs<=21):Bd 600 a:=aag (aag h (by decide:21<=2^5)) (abV (by decide) (by decide))
theorem qP {a:Int}(h:a.natAbs<=1):Bd 600 a:=mn (by omega)
inductive MT (vs:List V)(H:Hp)(Q:VK)(bC:XK):Prop
 | mk:∀ (c m:Int),(vs=[.int c,.int m])->(1<=m)->(m<=1000)->(∀ (r:Addr) (H':Hp) (a b d:Int),av H H'->H' r=some (.tup [.int a,.int b,.int d])->a.natAbs<=m.natAbs->b.natAbs<=m.natAbs->d.natAbs<=m.natAbs->Q (.ref r) H')->MT  vs H Q bC
def UH (m x:Int):Prop:=1<=x/\x<=m
theorem Qu (i:Int):Builtin.bitAnd i 1=0\/Builtin.bitAnd i 1=1:=by
 rw[show Builtin.bitAnd i 1=i%2 from PyProof.Rows.bitAnd_m1 i]
 omega
inductive zb (K:W.Frag)(vs:List V)(H:Hp)(Q:VK)(bC:XK):Prop
 | mk:∀ (a:Addr) (ns:List Int),(vs=[.ref a])->(aM K H a (ns.map V.int))->(∀ (r:Addr) (H':Hp) (F:F6),av H H'->S6 H' r F->fE F->Q (.ref r) H')->zb K vs H Q bC
def F0 (m i:Nat)(vs:List V):Prop:=∃ ms:List Int,vs=ms.map V.int/\ms.length=i/\∀ w∈ms,w.natAbs<=m
theorem F0.zero {m:Nat}:F0 m 0 []:=⟨[],rfl,rfl,fun _ h=>by cases h⟩
theorem F0.next {m i:Nat}{vs:List V}{n:Int}(h:F0 m i vs)(hn:n.natAbs<=m):F0 m (i+1) (vs++[.int n]):=by
 obtain⟨ms,rfl,hl,hm⟩:=h
 refine⟨ms++[n],by simp,by simp[hl],fun w hw=>?_⟩
 rcases aa9.mp hw with h|h
 ·exact hm w h
 ·rw[aaY.mp h]
  exact hn
theorem F0.six {m:Nat}{vs:List V}(h:F0 m 6 vs):∃ a b c d e f:Int,vs=[.int a,.int b,.int c,.int d,.int e,.int f]/\a.natAbs<=m/\b.natAbs<=m/\c.natAbs<=m/\d.natAbs<=m/\e.natAbs<=m/\f.natAbs<=m:=by
 obtain⟨ms,rfl,hl,hm⟩:=h
 match ms,hl,hm with
 | [a,b,c,d,e,f],_,hm=>exact⟨a,b,c,d,e,f,rfl,hm a (by simp),hm b (by simp),hm c (by simp),hm d (by simp),hm e (by simp),hm f (by simp)⟩
def YQ:V->V
 | .int n=>.int (n / 3)
 | _=>.eI
theorem uM {x y:Int}(hx:x.natAbs<=3)(hy:y.natAbs<=3):(x*y).natAbs<=9:=by
 rw[aaC]
 exact abY hx hy
theorem IV {x y:Int}(hx:x.natAbs<=1000):IntMulOk x y:=kK (by omega) (by omega)
theorem F1 {a b d e f x y:Int}(ha:a.natAbs<=9)(hb:b.natAbs<=9)(hd:d.natAbs<=9)(he:e.natAbs<=9)(hf:f.natAbs<=9)(hx:x.natAbs<=1)(hy:y.natAbs<=1):(lw ⟨a,b,0,d,e,f⟩ ⟨x,y,1⟩).natAbs<=45:=by
 have q:lw ⟨a,b,0,d,e,f⟩ ⟨x,y,1⟩=a*x*x+b*y*y+d*y+e*x+f*x*y:=by
  simp only[lw]
  grind
 have h1:=u1 (u:=a) hx
 have h2:=u1 (u:=a*x) hx
 have h3:=u1 (u:=b) hy
 have h4:=u1 (u:=b*y) hy
 have h5:=u1 (u:=d) hy
 have h6:=u1 (u:=e) hx
 have h7:=u1 (u:=f) hx
 have h8:=u1 (u:=f*x) hy
 rw[q]
 omega
theorem qQ {a:Int}(h:a.natAbs<=9):Bd 600 a:=mn (by omega)
inductive F2 (vs:List V)(H:Hp)(Q:VK)(bC:XK):Prop
 | mk:∀ (p:Addr) (F:F6),(vs=[.ref p])->(S6 H p F)->(BF 400 F)->(sz F=0)->((sz F=0->∀ (r:Addr) (H':Hp) (R:P3),av H H'->S3 H' r R->L3 R->BP 900 R->tb (sl F) R=⟨0,0,0⟩->Q (.ref r) H'))->F2  vs H Q bC
def F3 (C:Addr)(F:F6)(H:Hp)(E:XK):Prop:=∀ (dx r:Addr) (H':Hp) (R:P3),av H H'->H' dx=some (.xd [("vertex",.ref r)])->S3 H' r R->L3 R->BP 900 R->tb (sl F) R=⟨0,0,0⟩->E (.ref C) (some dx) H'
inductive F4 (C:Addr)(vs:List V)(H:Hp)(Q:VK)(E:XK):Prop
 | mk:∀ (p:Addr) (F:F6),(vs=[.ref p])->(S6 H p F)->(BF 400 F)->((sz F≠0->Q .eI H))->((sz F=0->F3 C F H E))->F4 C vs H Q E
inductive uN (C:Addr)(vs:List V)(H:Hp)(Q:VK)(E:XK):Prop
 | mk:∀ (q:Addr) (F:F6),(vs=[.ref q])->(S6 H q F)->(fE F)->((sz F≠0 ->
 ∀ (r ta pr:Addr) (H':Hp) (t:T3) (k q1 q2 q3:Int),av H H'->H' r=some (.tup [.ref ta,.int k,.ref pr])->ST H' ta t->H' pr=some (.tup [.int q1,.int q2,.int q3])->k≠0->me t≠0->ch F t=⟨k*q1,k*q2,k*q3,0,0,0⟩->Pl.rR q1 q2 q3 ->
  q1.natAbs<=10000000000->q2.natAbs<=10000000000->q3.natAbs<=10000000000->BT 800 t->Bd 1540 k->Q (.ref r) H'))->((sz F=0->F3 C F H E))->uN C vs H Q E
inductive uO (vs:List V)(H:Hp)(Q:VK)(bC:XK):Prop
 | mk:∀ (p:Addr) (F:F6),(vs=[.ref p])->(S6 H p F)->(fE F)->(sz F=0)->(∀ H',av H H'->Q (.bl true) H')->uO  vs H Q bC
def RX (k:Int):V->V
 | .int n=>.int (k*n)
 | _=>.eI
def Qs (a b c:Int)(ks:List Int):Prop:=(∀ x,x∈ks↔Pr.aR x/\x≠2/\(x∣a\/x∣b\/x∣c))/\(0::2::ks).Pairwise (·<·)
noncomputable def Cb (a b c:Int) (ks:List Int):List Int:=(0::2::ks).filter fun x=>decide (Jc.rE (-a*c) (-b*c) x=-1)
inductive qR (vs:List V)(H:Hp)(Q:VK)(bC:XK):Prop
 | mk:∀ (a b c:Int),(vs=[.int a,.int b,.int c])->(rR a b c)->(qM a)->(qM b)->(qM c)->(∀ (p:Addr) (ks:List Int) (H':Hp),av H H'->H p=none->Qs a b c ks->ks.length<100->H' p=some (.lst ((Cb a b c ks).map V.int))->Q (.ref p) H')->qR  vs H Q bC
theorem MU {x n:Int}(k:Nat)(h:2<=n):1*(x%n)^k%n=Pw.PM x k n:=by
 have:=Pw.start x n k
 rwa[ab3 (show (0:Int)<=1 by decide) (show (1:Int)<n by omega)] at this
theorem Qv (l:Int)(h:0<=l):(l / 2).toNat=l.toNat / 2:=by omega
structure xc (n:Int)(fs:List Int)(r k:Int):Prop where
 pr:∀ f∈fs,Pr.aR f
 eq:(n.natAbs:Int)=fs.prod*r
 r1:1<=r
 k2:2<=k
 no:Pr.nV r k
theorem oh:∀ {ps:List Int},(∀ p∈ps,2<=p)->((2^ps.length:Nat):Int)<=ps.prod
 | [],_=>by simp
 | p::ps,h=>by
  have ih:=oh (ps:=ps) fun x m=>h x (aaL _ m)
  have hp:=h p (aaR ..)
  have pos:0<2^ps.length:=aeB (by decide)
  rw[aeO,aa8,abC]
  generalize 2^ps.length=u at ih pos ⊢
  generalize ps.prod=v at ih ⊢
  have:=aby hp ih (by omega) (by omega)
  omega
section
variable {n r k:Int}{fs:List Int}
theorem xc.le (h:xc n fs r k)(hn:n.natAbs<=8000000):r<=8000000/\fs.length<23:=by
 have a:=oh fun p m=>(h.pr p m).two
 have e:=h.eq
 have r1:=h.r1
 have pos:0<2^fs.length:=aeB (by decide)
 generalize hv:fs.prod=v at a e
 have v1:1<=v:=by omega
 have h1:=abj v1 (show 0<=r by omega)
 have h2:=aaK r1 (show 0<=v by omega)
 refine⟨by omega,?_⟩
 by_cases c:fs.length<23
 ·exact c
 ·have:=abV (show 0<2 by decide) (show 23<=fs.length by omega)
  have k:(2:Nat)^23=8388608:=by decide
  omega
theorem xc.kb (h:xc n fs r k)(hn:n.natAbs<=8000000)(c:k*k<=r):k<=2828:=by
 have:=(h.le hn).1
 by_cases z:k<=2828
 ·exact z
 ·have:=aby (show (2829:Int)<=k by omega) (show (2829:Int)<=k by omega) (by decide) (by omega)
  omega
theorem xc.take (h:xc n fs (k*r) k)(r1:1<=r):xc n (fs++[k]) r k:=by
 refine⟨fun f m=>?_,?_,r1,h.k2,fun d d2 dk dd=>h.no d d2 dk (aah dd (aaw k r))⟩
 ·rcases aa9.mp m with m|m
  ·exact h.pr f m
  ·rw[aaY.mp m]
   exact Pr.DS h.k2 h.no (aa7 k r)
 ·rw[List.prod_append,List.prod_singleton,aaq]
  exact h.eq
theorem xc.next (h:xc n fs r k)(nd:¬ k∣r):xc n fs r (k+1):=⟨h.pr,h.eq,h.r1,by have:=h.k2;omega,fun d d2 dk dd=>by
 by_cases z:d=k
 ·exact nd (z▸dd)
 ·exact h.no d d2 (by omega) dd⟩
theorem xc.last (h:xc n fs r k)(c:¬ k*k<=r)(hr:1<r):xc n (fs++[r]) 1 2:=by
 have pr:Pr.aR r:=⟨by omega,fun j j2 jj d=>by
  by_cases z:j<k
  ·exact h.no j j2 z d
  ·have:=aby (show k<=j by omega) (show k<=j by omega) (by have:=h.k2;omega) (by omega)
   omega⟩
 refine⟨fun f m=>?_,?_,by decide,by decide,fun d d2 dk=>by omega⟩
 ·rcases aa9.mp m with m|m
  ·exact h.pr f m
  ·rw[aaY.mp m]
   exact pr
 ·rw[List.prod_append,List.prod_singleton,abl]
  exact h.eq
theorem xc.mem (h:xc n fs 1 k){x:Int}:x∈fs↔Pr.aR x/\x∣n:=by
 have e:(n.natAbs:Int)=fs.prod:=by rw[h.eq,abl]
 constructor
 ·intro m
  refine⟨h.pr x m,aee.mp ?_⟩
  rw[e]
  exact Pl.Au m
 ·rintro⟨hp,hd⟩
  refine Pl.Av hp h.pr ?_
  rw[<- e]
  exact aee.mpr hd
end
theorem F5 {a b c:Int}{ks:List Int}(P:rR a b c)(hq:Qs a b c ks)(x:Int):x∈Cb a b c ks↔Jc.mK a b c x:=by
 have at_:x∈(0::2::ks)↔(x=0\/x=2\/(Pr.aR x/\x≠2/\(x∣a\/x∣b\/x∣c))):=by
  rw[aaf,aaf,hq.1]
 unfold Cb
 rw[abQ,at_,aej]
 constructor
 ·rintro⟨h,e⟩
  exact (Jc.AD P h).mp e
 ·intro h
  have h2:x=0\/x=2\/(Pr.aR x/\x≠2/\(x∣a\/x∣b\/x∣c)):=by
   rcases h with ⟨e,_⟩|⟨e,_⟩|⟨hp,n2,h⟩
   ·exact .inl e
   ·exact .inr (.inl e)
   ·exact .inr (.inr ⟨hp,n2,h.imp (·.1) (Or.imp (·.1) (·.1))⟩)
  exact⟨h2,(Jc.AD P h2).mpr h⟩
theorem IW {a b c:Int}{ks:List Int}(hq:Qs a b c ks):(Cb a b c ks).Pairwise (·<·):=hq.2.filter _
theorem Cd {a b c:Int}{ks:List Int}(P:rR a b c)(hq:Qs a b c ks):(Cb a b c ks).length%2=0:=by
 have nz:∀ {x:Int},x≠0->-x*c≠0:=fun h z=>by
  rcases ab5.mp z with w|w
  ·omega
  ·exact P.c0 w
 have hL:∀ p∈(2::ks),Pr.aR p:=fun p h=>by
  rcases aaf.mp h with rfl|h
  ·exact Jc.cI
  ·exact ((hq.1 p).mp h).1
 have nd:(2::ks).Nodup:=(abT.mp hq.2).2.imp fun h=>ae5 h
 have dv:∀ {x:Int},(∀ p,Pr.aR p->p∣x->p∣a\/p∣b\/p∣c)->∀ p,Pr.aR p->p∣-x*c->p∈(2::ks):=fun hx p hp hd=>by
  by_cases e:p=2
  ·rw[e];exact aaR ..
  ·refine aaL _ ((hq.1 p).mpr ⟨hp,e,?_⟩)
   rcases Pr.euclid hp hd with h|h
   ·exact hx p hp (abu.mp h)
   ·exact .inr (.inr h)
 exact Jc.wu hL nd (aaR ..) (nz P.a0) (nz P.b0) (dv fun p _ h=>.inl h) (dv fun p _ h=>.inr (.inl h))
theorem Qw {k:Nat}{x:Int}(h:Bd k x):Bd k (-x):=by
 unfold Bd at *
 rwa[Int.natAbs_neg]
theorem J3 {a c:Int}(ha:a.natAbs<=10000000000)(hc:c.natAbs<=10000000000):Bd 100 (-a*c):=by
 unfold Bd
 rw[aaC,Int.natAbs_neg]
 exact aag (abY ha hc) (by decide)
inductive A4 (C:Addr)(vs:List V)(H:Hp)(Q:VK)(E:XK):Prop
 | mk:∀ (q:Addr) (F:F6),(vs=[.ref q])->(S6 H q F)->(fE F)->((sz F≠0 ->
 ∀ (r:Addr) (H':Hp) (bs:List Int),av H H'->H r=none->H' r=some (.lst (bs.map V.int))->bs.Pairwise (·<·)->bs.length<300->bs.length%2=0->(∀ x,x∈bs↔Loc F x)->Q (.ref r) H'))->((sz F=0->F3 C F H E))->A4 C vs H Q E
inductive F7 (vs:List V)(H:Hp)(Q:VK)(bC:XK):Prop
 | mk:∀ (x p:Int),(vs=[.int x,.int p])->(Pr.aR p)->(p≠2)->(p<20000000000)->(¬ p∣x)->(∀ b:Bool,(b=true↔Jc.J x p=-1)->Q (.bl b) H)->F7  vs H Q bC
theorem J4 {p x:Int}(hp:Pr.aR p)(n2:p≠2)(nd:¬ p∣x):Pw.PM x (p / 2).toNat p=p-1↔Jc.J x p=-1:=by
 have p3:2<p:=by have:=hp.two;omega
 rw[Jc.sN hp (b9 hp n2) x]
 have u:=Jc.fj hp nd
 have e2:(-1:Int)%p=p-1:=by
  rw[show (-1:Int)=(p-1)+p*(-1) by omega,Int.add_mul_emod_self_left]
  exact ab3 (by omega) (by omega)
 rcases Jc.D9 x p with e|e|e<;>rw[e] at u ⊢
 ·have e1:(1:Int)%p=1:=ab3 (by decide) (by omega)
  constructor<;>intro h<;>omega
 ·cases u
 ·exact⟨fun _=>rfl,fun _=>e2⟩
inductive MV (vs:List V)(H:Hp)(Q:VK)(bC:XK):Prop
 | mk:∀ (p:Addr) (a b c:Int),(vs=[.ref p])->(H p=some (.tup [.int a,.int b,.int c]))->(a.natAbs<=10000000000)->(b.natAbs<=10000000000)->(c.natAbs<=10000000000)->(∀ (r:Bool) (H':Hp),av H H'->(r=true↔¬ Pl.rS a b c)->Q (.bl r) H')->MV  vs H Q bC
def q3 (x:Int):Prop:=x=0\/x=1\/x=4
def NB (a b c x y z:Int):Prop:=(x=1\/y=1\/z=1)/\(a*x+b*y+c*z)%8=0
theorem tf (x:Int):q3 (x*x%8)/\(x%2=1->x*x%8=1):=by
 unfold q3
 rcases Pl.Pb x with h|h<;>omega
theorem F8 {u:Int}(h:q3 u):∃ x:Int,u=x*x/\(u=1->x%2=1):=by
 rcases h with rfl|rfl|rfl
 ·exact⟨0,rfl,fun z=>by cases z⟩
 ·exact⟨1,rfl,fun _=>rfl⟩
 ·exact⟨2,rfl,fun z=>by cases z⟩
theorem qS (a x:Int):(a*(x%8))%8=(a*x)%8:=by
 rw[abE,aeT,<- abE]
theorem A5 {a b c:Int}:Pl.rS a b c↔∃ x y z:Int,q3 x/\q3 y/\q3 z/\NB a b c x y z:=by
 constructor
 ·rintro⟨x,y,z,ho,e⟩
  refine⟨x*x%8,y*y%8,z*z%8,(tf x).1,(tf y).1,(tf z).1,ho.imp (tf x).2 (Or.imp (tf y).2 (tf z).2),?_⟩
  have h1:=qS a (x*x)
  have h2:=qS b (y*y)
  have h3:=qS c (z*z)
  rw[aaq,aaq,aaq] at e
  omega
 ·rintro⟨u,v,w,hu,hv,hw,ho,e⟩
  obtain⟨x,rfl,ox⟩:=F8 hu
  obtain⟨y,rfl,oy⟩:=F8 hv
  obtain⟨z,rfl,oz⟩:=F8 hw
  refine⟨x,y,z,ho.imp ox (Or.imp oy oz),?_⟩
  rw[aaq,aaq,aaq]
  exact e
def MW (i:Nat)(x:Int):Prop:=∃ j:Nat,j<i/\([0,1,4]:List Int)[j]?=some x
theorem F9 {x:Int}(h:q3 x):MW 3 x:=by
 rcases h with rfl|rfl|rfl
 ·exact⟨0,by decide,rfl⟩
 ·exact⟨1,by decide,rfl⟩
 ·exact⟨2,by decide,rfl⟩
theorem qT {i:Nat}{x y:Int}(hy:([0,1,4]:List Int)[i]?=some y)(h:MW (i+1) x):MW i x\/x=y:=by
 obtain⟨j,hj,e⟩:=h
 by_cases c:j=i
 ·subst c
  rw[hy] at e
  exact .inr (aac e).symm
 ·exact .inl ⟨j,by omega,e⟩
theorem zc {i:Nat}{v:V}(h:([.int 0,.int 1,.int 4]:List V)[i]?=some v):∃ x:Int,v=.int x/\q3 x/\([0,1,4]:List Int)[i]?=some x:=by
 match i,h with
 | 0,h=>exact⟨0,(aac h).symm,.inl rfl,rfl⟩
 | 1,h=>exact⟨1,(aac h).symm,.inr (.inl rfl),rfl⟩
 | 2,h=>exact⟨4,(aac h).symm,.inr (.inr rfl),rfl⟩
 | n+3,h=>cases h
inductive zd (vs:List V)(H:Hp)(Q:VK)(bC:XK):Prop
 | mk:∀ (p:Addr) (a b c x:Int),(vs=[.ref p,.int x])->(H p=some (.tup [.int a,.int b,.int c]))->(Pl.rR a b c)->(a.natAbs<=10000000000)->(b.natAbs<=10000000000)->(c.natAbs<=10000000000)->((x=0\/x=2\/(Pr.aR x/\x≠2/\x<20000000000)))->(∀ (r:Bool) (H':Hp),av H H'->(r=true↔Jc.mK a b c x)->Q (.bl r) H')->zd  vs H Q bC
theorem Qx {a b c:Int}:Jc.mK a b c 0↔(a<0/\b<0/\c<0)\/(0<a/\0<b/\0<c):=by
 constructor
 ·rintro (h|h|h)
  ·exact h.2
  ·cases h.1
  ·have:=h.1.two
   omega
 ·exact fun h=>.inl ⟨rfl,h⟩
theorem UI {a b c:Int}:Jc.mK a b c 2↔¬ Pl.rS a b c:=by
 constructor
 ·rintro (h|h|h)
  ·cases h.1
  ·exact h.2
  ·exact absurd rfl h.2.1
 ·exact fun h=>.inr (.inl ⟨rfl,h⟩)
theorem IX {a b c x:Int}(hp:Pr.aR x)(n2:x≠2):Jc.mK a b c x↔((x∣a/\Jc.J (-(b*c)) x=-1)\/(x∣b/\Jc.J (-(c*a)) x=-1)\/(x∣c/\Jc.J (-(a*b)) x=-1)):=by
 constructor
 ·rintro (h|h|h)
  ·have:=hp.two
   have:=h.1
   omega
  ·exact absurd h.1 n2
  ·exact h.2.2
 ·exact fun h=>.inr (.inr ⟨hp,n2,h⟩)
inductive Ga (vs:List V)(H:Hp)(Q:VK)(bC:XK):Prop
 | mk:∀ (n:Int),(vs=[.int n])->(n≠0)->(n.natAbs<=8000000)->(∀ (p:Addr) (ks:List Int) (H':Hp),av H H'->H p=none->H' p=some (.lst (ks.map V.int))->ks.length<40->(∀ x,x∈ks↔Pr.aR x/\x∣n)->Q (.ref p) H')->Ga  vs H Q bC
inductive Gb (vs:List V)(H:Hp)(Q:VK)(bC:XK):Prop
 | mk:∀ (p:Addr) (a b c n:Int),(vs=[.ref p,.int n])->(H p=some (.tup [.int a,.int b,.int c]))->(Pl.rR a b c)->(a.natAbs<=10000000000)->(b.natAbs<=10000000000)->(c.natAbs<=10000000000)->(n≠0)->(n.natAbs<=8000000)->(∀ (r:Addr) (ks:List Int) (H':Hp),av H H'->H r=none->H' r=some (.lst (ks.map V.int))->ks.Pairwise (·<·)->(∀ x,x∈ks↔(x=0\/x=2\/(Pr.aR x/\x∣n))/\Jc.mK a b c x)->Q (.ref r) H')->Gb  vs H Q bC
inductive Gd (vs:List V)(H:Hp)(Q:VK)(bC:XK):Prop
 | mk:∀ (p:Addr) (F:F6),(vs=[.ref p])->(S6 H p F)->(BF 400 F)->(∀ (l p1 p2 p3:Addr) (H':Hp),av H H'->H' l=some (.lst [.ref p1,.ref p2,.ref p3])->S3 H' p1 ⟨2*F.a,F.f,F.e⟩->S3 H' p2 ⟨F.f,2*F.b,F.d⟩->S3 H' p3 ⟨F.e,F.d,2*F.c⟩->Q (.ref l) H')->Gd  vs H Q bC
inductive Ge (vs:List V)(H:Hp)(Q:VK)(bC:XK):Prop
 | mk:∀ (p r:Addr) (ks:List Int),(vs=[.ref p,.ref r])->(H p=some (.lst (ks.map V.int)))->(H r=some (.lst (ks.map V.int)))->(ks.length<300)->(ks.length%2=0)->(∀ H',av H H'->Q (.bl true) H')->Ge  vs H Q bC
theorem xf {x y z:Int}:Jy (.int 1) [.int x,.int y,.int z]=true↔(x=1\/y=1\/z=1):=by
 simp[Jy,Hb]
theorem UJ {x y z:Int}(h:Jy (.int 1) [.int x,.int y,.int z]=true):x=1\/y=1\/z=1:=xf.mp h
theorem Qy {x y z:Int}(h:¬ Jy (.int 1) [.int x,.int y,.int z]=true):¬ (x=1\/y=1\/z=1):=fun k=>h (xf.mpr k)
section
variable {P:Program}{w:World}{K:W.Frag}{mg:Str->Option Value}{base:Heap}{t:Ny}
theorem bT:ay ["number","parts","left","divisor","taken"] ["number"] (aw gW):=.of
theorem nt:ay ["divisor"] ["divisor"] (aw fm):=.of
theorem eG:ay ["number","prime","often","left"] ["number","prime"] (aw jN):=.of
theorem dj:ay ["number","core","root","prime","often","turn"] ["number"] (aw mR):=.of
theorem jt:ay ["number"] ["number"] (aw dh):=.of
theorem cq:ay ["number","n","sign","top","bottom","twos","odd"] ["number","n"] (aw mS):=.of
theorem qU:ay ["odd"] ["odd"] (aw gX):=.of
theorem oJ:ay ["one","other"] ["one","other"] (aw gh):=.of
theorem dG:ay ["one","other","upper","lower","below"] ["one","other"] (aw jO):=.of
theorem xg:ay ["row","taken","times"] ["row","taken","times"] (aw lu):=.of
theorem lF:ay ["number","guess"] ["number"] (aw mT):=.of
theorem ic:ay ["number","guess"] ["number"] (aw iZ):=.of
theorem xh:ay ["a","b","c"] ["a","b","c"] (aw lA):=.of
theorem rW:ay ["a","b","c"] ["a","b","c"] (aw i4):=.of
theorem iH:ay ["a","b","c"] ["a","b","c"] (aw cM):=.of
theorem cW:ay ["a","b","c","odd_primes","number"] ["a","b","c"] (aw di):=.of
theorem lG:ay ["a","b","place","one","other"] ["a","b","place"] (aw mU):=.of
theorem gx:ay ["one","other","prime","one_is_odd","other_is_odd"] ["one","other","prime"] (aw gY):=.of
theorem eH:ay ["one","other","sign"] ["one","other"] (aw gZ):=.of
theorem oi:ay ["Q","P","products"] ["Q","P"] (aw lB):=.of
theorem ze:ay ["Q"] ["Q"] (aw mV):=.of
theorem fu:ay ["P","divisor"] ["P"] (aw gi):=.of
theorem jf:ay ["Q","slopes","crossings"] ["Q"] (aw jP):=.of
theorem qV:ay ["Q"] ["Q"] (aw hJ):=.of
theorem uP:ay ["Q"] ["Q"] (aw jQ):=.of
theorem uQ:ay ["table","P"] ["table","P"] (aw jR):=.of
theorem Gf:ay ["one","other"] ["one","other"] (aw um):=.of
theorem uR:ay ["P","times"] ["P","times"] (aw jS):=.of
theorem qW:ay ["row","P"] ["row","P"] (aw hU):=.of
theorem qX:ay ["table"] ["table"] (aw hV):=.of
theorem qY:ay ["one","other"] ["one","other"] (aw hX):=.of
theorem fv:ay ["lines","others","crossings","one"] ["lines","others"] (aw gj):=.of
theorem bN:ay ["Q","corners","worths","cores","roots","shared","plain","stretches","scale","columns"] ["Q"] (aw lC):=.of
theorem kL:ay ["Q","first"] ["Q"] (aw i5):=.of
theorem kM:ay ["Q","line","first"] ["Q","line"] (aw i6):=.of
theorem jg:ay ["Q","points","tried","one"] ["Q","points"] (aw jT):=.of
theorem jY:ay ["worths","size","first","second"] ["worths","size"] (aw lD):=.of
theorem iI:ay ["one","other","shared"] ["one","other"] (aw fq):=.of
theorem tj:ay ["Q","plain"] ["Q"] (aw qw):=.of
theorem Qz:ay ["_law_script","_law_k"] ["_law_script","_law_k"] (aw Mr):=.of
theorem xi:ay ["_law_cell","_law_prime","_law_many","_law_part"] ["_law_cell","_law_prime","_law_many"] (aw uo):=.of
theorem Gg:ay ["_law_found"] ["_law_found"] (aw uq):=.of
theorem Ce:ay ["_law_found","_law_many"] ["_law_found","_law_many"] (aw qA):=.of
theorem uS:ay ["_law_row","_law_other"] ["_law_row","_law_other"] (aw jU):=.of
theorem bU:ay ["_law_form_here","_law_table","_law_doubled","_law_flipped","_law_half","_law_whole_here","_law_a","_law_b","_law_c","_law_d","_law_e","_law_f"] ["_law_form_here","_law_table"] (aw mW):=.of
theorem gR:ay ["_law_form_here","_law_found","_law_a","_law_b","_law_c","_law_d","_law_e","_law_f"] ["_law_form_here"] (aw yQ):=.of
theorem iJ:ay ["_law_numbers","_law_found","_law_number","_law_other"] ["_law_numbers"] (aw qB):=.of
theorem uT:ay ["_law_point"] ["_law_point"] (aw jV):=.of
theorem dt:ay ["_law_form_here","_law_point","_law_found","_law_a","_law_b","_law_c","_law_d","_law_e","_law_f","_law_x","_law_y","_law_z"] ["_law_form_here","_law_point"] (aw ur):=.of
theorem cG:ay ["_law_cell","_law_most","_law_found","_law_signs","_law_prime","_law_by","_law_at"] ["_law_cell","_law_most"] (aw hZ):=.of
theorem jh:ay ["_law_form_here","_law_cell","_law_steps","_law_table"] ["_law_form_here","_law_cell"] (aw mX):=.of
theorem cb:ay ["_law_script","_law_kind","_law_some","_law_form_here","_law_crosses","_law_last","_law_worth_here","_law_a","_law_b","_law_c","_law_p","_law_q","_law_r","_law_s","_law_t","_law_u"] ["_law_script"] (aw yR):=.of
theorem cN:ay ["_law_number","_law_prime","_law_found","_law_factor","_law_rest"] ["_law_number","_law_prime"] (aw jW):=.of
theorem cO:ay ["_law_triple","_law_x","_law_a","_law_b","_law_c","_law_y","_law_z"] ["_law_triple"] (aw jX):=.of
theorem Gh:ay ["_law_triple","_law_place","_law_k"] ["_law_triple","_law_place"] (aw Fq):=.of
theorem fP:ay ["_law_number","_law_found","_law_rest","_law_d"] ["_law_number"] (aw qC):=.of
theorem jZ:ay ["_law_triple","_law_number","_law_places"] ["_law_triple","_law_number"] (aw ia):=.of
theorem eU:ay ["_law_form_here","_law_a","_law_b","_law_c","_law_d","_law_e","_law_f"] ["_law_form_here"] (aw qD):=.of
theorem du:ay ["_law_form_here","_law_rows","_law_told","_law_e","_law_point","_law_sums"] ["_law_form_here"] (aw mY):=.of
theorem zf:ay ["_law_found","_law_due"] ["_law_found","_law_due"] (aw mZ):=.of
theorem lH:ay ["_law_script","_law_form_here","_law_due","_law_found","_law_table","_law_scale","_law_triple"] ["_law_script"] (aw Fs):=.of
theorem uU:ay ["self","vertex"] ["self","vertex"] (aw dR):=.of
theorem Gi (F:Fn K mg "_law_whole" uq)(T:Txt K mg t) :oB P w K mg base 1 "_law_whole" ["_law_found"] (oR):=by
 refine F.Np Gg (fun f bh A outer s H fz vs Q E hr h=>?_)
 obtain⟨n,rfl,q⟩:=h
 refine⟨_,ar (aA (pH (aS jE rfl T.eD wZ (aa (pv 0) (aa (oP (v:=.ty "int") rfl T.JW JY rfl) af))) (my (CM (aS jE rfl T.eD wZ (aa (pv 0) (aa (oP (v:=.ty "bool") rfl T.Mu Mv rfl) af))))))),?_⟩
 refine⟨_,rfl,_,_,_,_,rfl,.inr ⟨_,rfl⟩,.of (.int _),rfl,_,rfl,?_⟩
 refine lP ?_
 exact⟨_,rfl,_,_,_,_,rfl,.inr ⟨_,rfl⟩,.of (.int _),T.Uw,_,rfl,q⟩
theorem uV (F:Fn K mg "taken_out" jN)(T:Txt K mg t) :aV P w K mg base aU 1 "taken_out" ["number","prime"] (mh):=by
 refine F.ok eG (fun f bh A outer s H vs Q E hr h=>?_)
 obtain⟨x,p,rfl,x0,p2,pl,q⟩:=h
 refine⟨_,ah (bQ (i:=2) eG.nd ae)
  (ah (bQ (i:=3) eG.nd (pv 0))
  (ah (dZ aaZ (aE bB (aj zF (pv 3) (pv 1)) ae (aG _)) (ah (bQ (i:=3) eG.nd (aj cR (pv 3) (pv 1)))
  (ar (bQ (i:=2) eG.nd (aj bG (pv 2) ae)))))
  (ar (aA (aJ (aa (pv 2) (aa (pv 3) af))))))),?_⟩
 refine⟨_,rfl,?_⟩
 refine⟨fun m σ H'=>∃ (o l:Int),σ=[some (.int x),some (.int p),some (.int o),some (.int l)]/\H=H'/\Pr.Hy x p l o/\0<=o/\l≠0/\l.natAbs<=x.natAbs/\(0<x->0<l)/\(x<0->l<0)/\m=l.natAbs,
  ⟨_,0,x,rfl,rfl,Pr.sI x p,by omega,x0,aai _,id,id,rfl⟩,?_⟩
 rintro m σ H' ⟨o,l,rfl,rfl,IY,o0,l0,lx,s1,s2,rfl⟩
 refine⟨_,rfl,_,rfl,_,_,rfl,rfl,(by show p≠0;omega),rfl,_,rfl,?_⟩
 refine bK (fun c=>?_) (fun c=>?_)
 ·have z:l.fmod p=0:=aP (cZ c)
  obtain⟨t1,t2,t3,t4⟩:=yY p2 l0 z
  refine⟨fun σ' H2=>σ'=[some (.int x),some (.int p),some (.int (o+1)),some (.int (l.fdiv p))]/\H=H2,?_,?_⟩
  ·rintro σ' H2 ⟨rfl,rfl⟩
   exact⟨_,t2,o+1,l.fdiv p,rfl,rfl,Pr.DW IY o0 z,by omega,t1,by omega,fun h=>t3 (s1 h),fun h=>t4 (s2 h),rfl⟩
  ·exact⟨_,rfl,_,rfl,_,_,rfl,rfl,⟨by omega,pl⟩,_,rfl,_,_,rfl,rfl,rfl,rfl⟩
 ·have z:l.fmod p≠0:=fun z=>dX c (aa2 V.int z)
  exact⟨_,rfl,_,rfl,(cz 2),fun r jw=>q r _ o l (ai jw _) ag IY o0 z l0 lx s1 s2⟩
theorem nA (F:Fn K mg "divisor_after" fm)(T:Txt K mg t) :aV P w K mg base aU 1 "divisor_after" ["divisor"] (uy):=by
 refine F.ok nt (fun f bh A outer s H vs Q E hr h=>?_)
 obtain⟨d,rfl,q⟩:=h
 refine⟨_,ah (aZ (aE bB (pv 0) ae (aG _)) (ar (aA ae)) aL)
  (ar (aA (aj bG (pv 0) ae))),?_⟩
 refine⟨_,rfl,rfl,_,rfl,?_⟩
 refine bK (fun c=>?_) (fun c=>?_)
 ·rw[aaz (aP (cZ c))] at q
  exact q
 ·rw[aar (fun z=>dX c (aa2 V.int z))] at q
  exact⟨_,rfl,_,_,rfl,rfl,q⟩
theorem qZ (F:Fn K mg "prime_parts" gW)(T:Txt K mg t)(fA:aV P w K mg base aU 1 "divisor_after" ["divisor"] (uy))(bO:aV P w K mg base aU 1 "taken_out" ["number","prime"] (mh)):aV P w K mg base aU 2 "prime_parts" ["number"] (mi):=by
 refine F.ok bT (fun f bh A outer s H vs Q E hr h=>?_)
 obtain⟨n,rfl,n0,n1,q⟩:=h
 refine⟨_,ah (aZ (aE jC (pv 0) ae (aG _)) fN aL)
  (ah (bQ (i:=1) bT.nd (cE af))
  (ah (bQ (i:=2) bT.nd (pv 0))
  (ah (bQ (i:=3) bT.nd ae)
  (ah (dZ aaZ (aE zJ (aj au (pv 3) (pv 3)) (pv 2) (aG _)) (dO (aZ (aE bB (aj zF (pv 2) (pv 3)) ae (aG _)) (ah (bQ (i:=4) bT.nd (aq bO hr aB (aa (pv 2) (aa (pv 3) af))))
  (ah (fH (pO abI acU acT dQ (pv 1) (aa (aJ (aa (pv 3) (aa (aO (a8 K) (pv 4) ae) af))) af)))
  (ar (bQ (i:=2) bT.nd (aO (a8 K) (pv 4) ae))))) aL)
  (ar (bQ (i:=3) bT.nd (aq fA hr aB (aa (pv 3) af))))))
  (dO (aZ (aE pK (pv 2) ae (aG _)) (ar (fH (pO abI acU acT dQ (pv 1) (aa (aJ (aa (pv 2) (aa ae af))) af)))) aL)
  (ar (aA (pv 1)))))))),?_⟩
 refine⟨_,rfl,_,_,rfl,rfl,_,rfl,l9 (show ¬ n<1 by omega) ?_⟩
 refine⟨(cz 0),fun pl kH=>?_⟩
 refine⟨_,rfl,?_⟩
 refine⟨W1 n pl H,⟨_,n,2,[],[],none,rfl,ai kH _,ag,.nil,Pr.BB n,by omega,by omega,n0,rfl⟩,?_⟩
 rintro m σ H1 ⟨left,d,xs,rs,of,rfl,g1,vG,t1,out,d2,dm,l1,rfl⟩
 have bd:Builtin.Int.intBits d<=1048576:=lT (k:=64) (by omega) (by decide)
 have ln:=Pr.DV out l1
 have UK:=short out.all (FL out l1) n1
 have YR:=t1.len
 refine⟨_,rfl,_,rfl,_,_,rfl,rfl,zZ bd bd,_,rfl,_,_,rfl,rfl,_,rfl,?_⟩
 refine bK (fun c=>?_) (fun c=>?_)
 ·have dd:d*d<=left:=cZ c
  have dl:=J0 (show 1<=d by omega)
  refine⟨fun σ' H2=>∃ m',m'<(left+1-d).toNat/\W1 n pl H m' σ' H2,fun _ _ h=>h,?_⟩
  refine⟨fun σ' H3=>∃ (ys:List (Int × Int)) (qs:List Addr) (l2:Int) (ta:Option V),σ'=[some (.int n),some (.ref pl),some (.int l2),some (.int d),ta]/\av H H3/\H3 pl=some (.lst (qs.map V.ref))/\eM H3 qs ys/\Pr.Out n l2 (if d=2 then 3 else d+2) ys/\1<=l2/\l2<=left,?_,?_⟩
  ·refine⟨_,rfl,_,rfl,_,_,rfl,rfl,(by show d≠0;omega),rfl,_,rfl,?_⟩
   refine bK (fun c2=>?_) (fun c2=>?_)
   ·have z2:left.fmod d=0:=aP (cZ c2)
    refine⟨_,rfl,_,rfl,left,d,rfl,(by omega),d2,aak (log2_lt_of (k:=64) (by omega) (by decide)) (by decide),fun r H2 o l2 g2 wg IY o0 zl l0 lx sp sn=>?_⟩
    have lp:=sp (by omega)
    have o3:0<o:=by
     rcases (show o=0\/0<o by omega) with h|h
     ·have e:=IY.eq
      rw[h,show (0:Int).toNat=0 from rfl,aaO,aaN] at e
      rw[<- e] at zl
      exact absurd z2 zl
     ·exact h
    refine⟨_,rfl,.inl ⟨rfl,_,aM.of (g2 _ _ vG)⟩,_,rfl,_,rfl,r,_,_,_,rfl,rfl,aF.of wg,rfl,(cz 2),fun p hp=>?_⟩
    have rM:=g2 _ _ vG
    have FN:pl≠p:=fun z=>by subst z;rw[rM] at hp;cases hp
    have nr:r≠pl:=fun z=>by subst z;rw[rM] at wg;cases wg
    have YS:r≠p:=fun z=>by subst z;rw[wg] at hp;cases hp
    refine⟨pl,_,_,rfl,rfl,(by rw[aH FN];exact rM),(by rw[aas];exact sY (by omega)),?_⟩
    obtain⟨k1,k2,k3⟩:=grown (x:=(d,o)) (g1.trans g2) kH hp rM (eM.same g2 t1)
    refine⟨_,rfl,r,_,_,_,rfl,rfl,aF.of (by rw[aH nr,aH YS];exact wg),rfl,?_⟩
    exact⟨xs++[(d,o)],rs++[p],l2,_,rfl,k1,k2,k3,Pr.DY out IY d2 o3 zl rfl,by omega,by omega⟩
   ·have z2:left.fmod d≠0:=fun z=>dX c2 (aa2 V.int z)
    exact⟨xs,rs,left,_,rfl,g1,vG,t1,Pr.DX out (Pr.sI left d) d2 rfl z2 rfl,l1,by omega⟩
  ·rintro σ3 H3 ⟨ys,qs,l2,ta,rfl,g3,MX,t3,UL,YT,l22⟩
   refine⟨_,rfl,d,rfl,(l2+1-(if d=2 then 3 else d+2)).toNat,?_,l2,_,ys,qs,_,rfl,g3,MX,t3,UL,?_,?_,YT,rfl⟩
   all_goals split<;>omega
 ·have dd:¬ d*d<=left:=dX c
  refine⟨fun σ' H2=>∃ (ys:List (Int × Int)) (qs:List Addr) (l2:Option V) (d2 o2:Option V),σ'=[some (.int n),some (.ref pl),l2,d2,o2]/\av H H2/\H2 pl=some (.lst (qs.map V.ref))/\eM H2 qs ys/\Pr.Told n ys,?_,?_⟩
  ·refine⟨_,rfl,_,_,rfl,rfl,_,rfl,?_⟩
   refine bK (fun c3=>?_) (fun c3=>?_)
   ·have o3:1<left:=cZ c3
    refine⟨_,rfl,.inl ⟨rfl,_,aM.of vG⟩,_,rfl,(cz 2),fun p hp=>?_⟩
    have FN:pl≠p:=fun z=>by subst z;rw[vG] at hp;cases hp
    refine⟨pl,_,_,rfl,rfl,(by rw[aH FN];exact vG),(by rw[aas];exact sY (by omega)),?_⟩
    obtain⟨k1,k2,k3⟩:=grown (x:=(left,1)) g1 kH hp vG t1
    exact⟨xs++[(left,1)],rs++[p],_,_,_,rfl,k1,k2,k3,Pr.BC out d2 (by omega) o3⟩
   ·have o3:¬ 1<left:=dX c3
    exact⟨xs,rs,_,_,_,rfl,g1,vG,t1,Pr.BD out (by omega)⟩
  ·rintro σ3 H3 ⟨ys,qs,l3,d3,o3,rfl,g3,MX,t3,told⟩
   exact⟨_,rfl,q pl qs ys H3 g3 kH MX t3 told⟩
theorem zg (F:Fn K mg "core_of" mR)(T:Txt K mg t)(cV:aV P w K mg base aU 2 "prime_parts" ["number"] (mi)):aV P w K mg base aU 3 "core_of" ["number"] (pC):=by
 refine F.ok dj (fun f bh A outer s H vs Q E hr h=>?_)
 obtain⟨n,rfl,c',n0,n1,q⟩:=h
 refine⟨_,ah (aZ (aE bB (pv 0) ae (aG _)) fN aL)
  (dO (bQ (i:=1) dj.nd (jA (aE jC (pv 0) ae (aG _)) (jq fi ae) ae))
  (ah (bQ (i:=2) dj.nd ae)
  (ah (fU aaZ rfl (xH K (aq cV hr aB (aa (aS lN rfl T.AS AV (aa (pv 0) af)) af))) (GI K (aD (eO (i:=3) dj.nd) (aD (eO (i:=4) dj.nd) dE))) (dO (aZ (aE bB (aj bj (pv 4) ae) ae (aG _)) (ar (bQ (i:=1) dj.nd (aj au (pv 1) (pv 3)))) aL)
  (ar (fU aaZ rfl (cD rfl T.eF (aa (aj gK (pv 4) ae) af)) (eO (i:=5) dj.nd) (ar (bQ (i:=2) dj.nd (aj au (pv 2) (pv 3))))))))
  (ar (aA (aJ (aa (pv 1) (aa (pv 2) af)))))))),?_⟩
 refine⟨_,rfl,rfl,_,rfl,l9 (fun z=>c' (aP z)) ?_⟩
 refine⟨fun σ' H'=>σ'=[some (.int n),some (.int (sgn n)),none,none,none,none]/\H=H',?_,?_⟩
 ·refine⟨_,rfl,_,_,rfl,rfl,_,rfl,?_⟩
  unfold sgn
  refine bK (fun c2=>?_) (fun c2=>?_)
  ·refine⟨_,rfl,?_⟩
   rw[aaz (cZ c2)]
   exact⟨rfl,rfl⟩
  ·rw[aar (dX c2)]
   exact⟨rfl,rfl⟩
 rintro _ _ ⟨rfl,rfl⟩
 have a1:1<=gw n/\gw n<=10000000000:=by
  unfold gw
  split<;>omega
 refine⟨_,rfl,_,rfl,gw n,rfl,a1.1,a1.2,fun pl rs xs H1 g1 np hl tl told=>?_⟩
 refine⟨pl,rfl,⟨_,aM.of hl⟩,iA (K:=K) (a:=pl) (xs:=rs.map V.ref) (fun i σ H'=>∃ (pr of tu:Option V),σ=[some (.int n),some (.int (sgn n*Pr.cx (xs.take i))),some (.int (Pr.bI (xs.take i))),pr,of,tu]/\H1=H')
  ⟨none,none,none,by show [some (V.int n),some (V.int (sgn n)),some (V.int 1),none,none,none]=[some (V.int n),some (V.int (sgn n*1)),some (V.int 1),none,none,none];rw[abl],rfl⟩ (fun i σ H2 _ ⟨_,_,_,_,e⟩=>e▸aM.of hl) ?_ ?_⟩
 ·rintro i y σ H2 hi ⟨pr,of,tu,rfl,rfl⟩
  obtain⟨r,jw,rfl⟩:∃ r,rs[i]?=some r/\y=.ref r:=by
   rw[aaB] at hi
   cases e:rs[i]? with
   | none=>rw[e] at hi;cases hi
   | some r=>rw[e] at hi;exact⟨r,rfl,(aac hi).symm⟩
  obtain⟨⟨p,o⟩,hx,ht⟩:=tl.get jw
  have mem:=aaV hx
  have Wk:=told.all _ mem
  have p2:2<=p:=Wk.prime.two
  have o1:1<=o:=Wk.often
  have o2:o<=40:=Pr.DU told (by show gw n<=10000000000;exact a1.2) mem
  have pn:p<=gw n:=Pr.Hx told mem
  refine⟨r,_,rfl,aF.of ht,rfl,_,_,rfl,_,_,rfl,rfl,?_⟩
  refine⟨fun σ' H'=>σ'=[some (.int n),some (.int (sgn n*Pr.cx (xs.take (i+1)))),some (.int (Pr.bI (xs.take i))),some (.int p),some (.int o),tu]/\H1=H',?_,?_⟩
  ·refine⟨_,rfl,_,_,rfl,rfl,(by show (0:Int)<2;decide),rfl,_,rfl,?_⟩
   rw[B3 hx]
   refine bK (fun c2=>?_) (fun c2=>?_)
   ·have e:o%2=1:=aP (cZ c2)
    rw[aaz e,<- aaq]
    exact⟨_,rfl,_,rfl,_,_,rfl,rfl,rV (by omega) (by omega),rfl,rfl⟩
   ·have e:¬ o%2=1:=fun z=>dX c2 (aa2 V.int z)
    rw[aar e,abl]
    exact⟨rfl,rfl⟩
  rintro _ _ ⟨rfl,rfl⟩
  refine⟨_,rfl,_,_,rfl,rfl,⟨by decide,by decide⟩,o / 2,rfl,(by omega),(by omega),
   se (fun j σ H'=>∃ tu:Option V,σ=[some (.int n),some (.int (sgn n*Pr.cx (xs.take (i+1)))),some (.int (Pr.bI (xs.take i)*p^j)),some (.int p),some (.int o),tu]/\H1=H') ⟨tu,by rw[aaO,abl],rfl⟩ ?_ ?_⟩
  ·rintro j σ H' hj ⟨tu,rfl,rfl⟩
   refine⟨_,rfl,_,rfl,_,_,rfl,rfl,rV (by omega) (by omega),some (.int (0+(j:Int))),?_,rfl⟩
   rw[aan,<- aaq]
   rfl
  ·rintro σ H' ⟨tu,rfl,rfl⟩
   refine⟨some (.int p),some (.int o),tu,?_,rfl⟩
   rw[B5 hx]
 ·rintro σ H2 ⟨pr,of,tu,rfl,rfl⟩
  have e:xs.take (rs.map V.ref).length=xs:=by rw[aas,tl.len,abz]
  rw[e]
  exact⟨_,rfl,_,rfl,(cz 2),fun p hp=>q p xs _ (g1.trans (ai hp _)) told ag⟩
theorem xj (F:Fn K mg "row_less" lu)(T:Txt K mg t) :aV P w K mg base aU 1 "row_less" ["row","taken","times"] (FC):=by
 refine F.ok xg (fun f bh A outer s H vs Q E hr h=>?_)
 obtain⟨pa,pb,x,s',t',y,u,v,k,rfl,ha,hb,m1,m2,m3,q⟩:=h
 refine⟨_,ar (aA (aJ (aa (aj bM (aO (a8 K) (pv 0) ae) (aj au (pv 2) (aO (a8 K) (pv 1) ae))) (aa (aj bM (aO (a8 K) (pv 0) ae) (aj au (pv 2) (aO (a8 K) (pv 1) ae))) (aa (aj bM (aO (a8 K) (pv 0) ae) (aj au (pv 2) (aO (a8 K) (pv 1) ae))) af))))),?_⟩
 exact⟨_,rfl,pa,_,_,_,rfl,rfl,aF.of ha,rfl,_,rfl,_,rfl,pb,_,_,_,rfl,rfl,aF.of hb,rfl,_,_,rfl,rfl,m1,_,_,rfl,rfl,
  _,rfl,pa,_,_,_,rfl,rfl,aF.of ha,rfl,_,rfl,_,rfl,pb,_,_,_,rfl,rfl,aF.of hb,rfl,_,_,rfl,rfl,m2,_,_,rfl,rfl,
  _,rfl,pa,_,_,_,rfl,rfl,aF.of ha,rfl,_,rfl,_,rfl,pb,_,_,_,rfl,rfl,aF.of hb,rfl,_,_,rfl,rfl,m3,_,_,rfl,rfl,
  (cz 3),fun p np=>q p _ (ai np _) ag⟩
theorem uW (F:Fn K mg "shares_of" jO)(T:Txt K mg t)(lI:aV P w K mg base aU 1 "row_less" ["row","taken","times"] (FC)):aV P w K mg base aU 2 "shares_of" ["one","other"] (iG):=by
 refine F.ok dG (fun f bh A outer s H vs Q E hr h=>?_)
 obtain⟨x,y,rfl,hx,hy,q⟩:=h
 refine⟨_,ah (bQ (i:=2) dG.nd (aJ (aa (pv 0) (aa ae (aa ae af)))))
  (ah (bQ (i:=3) dG.nd (aJ (aa (pv 1) (aa ae (aa ae af)))))
  (ah (dZ aaZ (aE kG (aO (a8 K) (pv 3) ae) ae (aG _)) (ah (bQ (i:=4) dG.nd (aq lI hr aB (aa (pv 2) (aa (pv 3) (aa (aj cR (aO (a8 K) (pv 2) ae) (aO (a8 K) (pv 3) ae)) af)))))
  (ah (bQ (i:=2) dG.nd (pv 3))
  (ar (bQ (i:=3) dG.nd (pv 4))))))
  (ah (aZ (aE jC (aO (a8 K) (pv 2) ae) ae (aG _)) (ar (aA (aJ (aa (jq fi (aO (a8 K) (pv 2) ae)) (aa (jq fi (aO (a8 K) (pv 2) ae)) (aa (jq fi (aO (a8 K) (pv 2) ae)) af)))))) aL)
  (ar (aA (pv 2)))))),?_⟩
 have B4:((x.natAbs:Int)+2*y.natAbs+1).natAbs<=4*Lm:=by
  have:=Mw
  omega
 have UM:=Sh.ET (x:=x) (y:=y)
 generalize ((x.natAbs:Int)+2*y.natAbs+1)=B at B4 UM
 refine⟨_,rfl,(cz 3),fun p1 n1=>?_⟩
 refine⟨_,rfl,(cz 3),fun p2 n2=>?_⟩
 refine⟨fun m σ H'=>∃ (pa pb:Addr) (a s t b u v:Int) (be:Option V),σ=[some (.int x),some (.int y),some (.ref pa),some (.ref pb),be]/\av H H'/\H' pa=some (.tup [.int a,.int s,.int t])/\H' pb=some (.tup [.int b,.int u,.int v]) /\
  Sh.Rows x y a s t b u v/\Sh.Sz B a s t b u v/\m=b.natAbs,⟨_,p1,p2,_,_,_,_,_,_,none,rfl,(ai n1 _).trans (ai n2 _),ai n2 _ _ _ ag,ag,Sh.yA x y,UM,rfl⟩,?_⟩
 clear UM n1 n2 p1 p2
 rintro m σ H1 ⟨pa,pb,a,s',t',b,u,v,be,rfl,g,ha,hb,rws,sz,rfl⟩
 refine⟨_,rfl,pb,_,_,_,rfl,rfl,aF.of hb,rfl,rfl,_,rfl,?_⟩
 refine bK (fun c=>?_) (fun c=>?_)
 ·have b0:b≠0:=fun z=>neT c (aa2 V.int z)
  have Wl:=Sh.Ig sz b0 (a.fdiv b) (a.fmod b) (Sh.quot a b) rfl
  have Jr:=Sh.BK rws (a.fdiv b)
  rw[m7] at Jr
  have qs:(a.fdiv b).natAbs<=8*Lm:=by
   have e:a.fdiv b*b=a-a.fmod b:=by have:=m7 a b;omega
   have h1:(a.fdiv b).natAbs<=(a.fdiv b*b).natAbs:=by
    rw[aaC]
    exact acX _ (by omega)
   rw[e] at h1
   have h2:=sz.a0
   have h3:=Wl.b0
   omega
  refine⟨fun σ' H2=>∃ pc:Addr,σ'=[some (.int x),some (.int y),some (.ref pb),some (.ref pc),some (.ref pc)]/\av H1 H2/\H2 pc=some (.tup [.int (a-a.fdiv b*b),.int (s'-a.fdiv b*u),.int (t'-a.fdiv b*v)]),?_,?_⟩
  ·rintro σ' H2 ⟨pc,rfl,g2,hc⟩
   rw[m7] at hc
   exact⟨(a.fmod b).natAbs,Sh.wz b0,pb,pc,b,u,v,_,_,_,_,rfl,g.trans g2,g2 _ _ hb,hc,Jr,Wl,rfl⟩
  ·have z1:=sz.b0
   have z2:=sz.u0
   have z3:=sz.v0
   refine⟨_,rfl,_,rfl,_,rfl,pa,_,_,_,rfl,rfl,aF.of ha,rfl,_,rfl,pb,_,_,_,rfl,rfl,aF.of hb,rfl,_,_,rfl,rfl,⟨b0,lE (by omega)⟩,
    pa,pb,a,s',t',b,u,v,_,rfl,ha,hb,mulL qs (by omega),mulL qs (by omega),mulL qs (by omega),fun pc H2 g2 hc=>?_⟩
   exact⟨_,rfl,_,rfl,pc,rfl,g2,hc⟩
 ·have b0:b=0:=aP (RP c)
  obtain⟨e1,⟨k1,e2⟩,⟨k2,e3⟩⟩:=Sh.ES rws b0
  have z2:=sz.s0
  have z3:=sz.t0
  refine⟨_,rfl,pa,_,_,_,rfl,rfl,aF.of ha,rfl,_,_,rfl,rfl,_,rfl,?_⟩
  refine bK (fun c=>?_) (fun c=>?_)
  ·have a0:a<0:=cZ c
   refine⟨_,rfl,pa,_,_,_,rfl,rfl,aF.of ha,rfl,_,rfl,_,rfl,pa,_,_,_,rfl,rfl,aF.of ha,rfl,_,rfl,_,rfl,pa,_,_,_,rfl,rfl,aF.of ha,rfl,_,rfl,(cz 3),fun p np=>?_⟩
   exact q p _ (-a) (-s') (-t') (g.trans (ai np _)) ag (by omega) (by rw[acQ,acQ];omega) ⟨-k1,by rw[aeG];exact e2⟩ ⟨-k2,by rw[aeG];exact e3⟩ (by omega) (by omega)
  ·have a0:¬ a<0:=dX c
   exact⟨_,rfl,q pa H1 a s' t' g ha (by omega) e1 ⟨k1,e2⟩ ⟨k2,e3⟩ (by omega) (by omega)⟩
theorem uX (F:Fn K mg "slopes_of" jQ)(T:Txt K mg t) :aV P w K mg base aU 1 "slopes_of" ["Q"] (FH):=by
 refine F.ok uP (fun f bh A outer s H vs Q E hr h=>?_)
 obtain⟨p,F,rfl,hp,q⟩:=h
 unfold S6 at hp
 refine⟨_,ar (aA (aJ (aa (aJ (aa (aj au ae (aO (a8 K) (pv 0) ae)) (aa (aO (a8 K) (pv 0) ae) (aa (aO (a8 K) (pv 0) ae) af)))) (aa (aJ (aa (aO (a8 K) (pv 0) ae) (aa (aj au ae (aO (a8 K) (pv 0) ae)) (aa (aO (a8 K) (pv 0) ae) af)))) (aa (aJ (aa (aO (a8 K) (pv 0) ae) (aa (aO (a8 K) (pv 0) ae) (aa (aj au ae (aO (a8 K) (pv 0) ae)) af)))) af))))),?_⟩
 refine⟨_,rfl,p,_,_,_,rfl,rfl,aF.of hp,rfl,_,_,rfl,rfl,Mx,_,rfl,p,_,_,_,rfl,rfl,aF.of hp,rfl,_,rfl,p,_,_,_,rfl,rfl,aF.of hp,rfl,(cz 3),fun p1 n1=>?_⟩
 have h1:=ai n1 (t3 (sl F).r0) _ _ hp
 refine⟨_,rfl,p,_,_,_,rfl,rfl,aF.of h1,rfl,_,rfl,p,_,_,_,rfl,rfl,aF.of h1,rfl,_,_,rfl,rfl,Mx,_,rfl,p,_,_,_,rfl,rfl,aF.of h1,rfl,(cz 3),fun p2 n2=>?_⟩
 have h2:=ai n2 (t3 (sl F).r1) _ _ h1
 refine⟨_,rfl,p,_,_,_,rfl,rfl,aF.of h2,rfl,_,rfl,p,_,_,_,rfl,rfl,aF.of h2,rfl,_,rfl,p,_,_,_,rfl,rfl,aF.of h2,rfl,_,_,rfl,rfl,Mx,(cz 3),fun p3 n3=>⟨(cz 3),fun p4 n4=>?_⟩⟩
 have g3:=ai n3 (t3 (sl F).r2)
 have g4:=ai n4 (.tup [.ref p1,.ref p2,.ref p3])
 exact q p4 _ ((ai n1 _).trans ((ai n2 _).trans (g3.trans g4))) ⟨p1,p2,p3,ag,g4 _ _ (g3 _ _ (ai n2 _ _ _ ag)),g4 _ _ (g3 _ _ ag),g4 _ _ ag⟩
theorem zh (F:Fn K mg "size_of" mV)(T:Txt K mg t) :aV P w K mg base aU 1 "size_of" ["Q"] (qJ):=by
 refine F.ok ze (fun f bh A outer s H vs Q E hr h=>?_)
 obtain⟨p,F,rfl,hp,bf,q⟩:=h
 unfold S6 at hp
 refine⟨_,ar (aA (aj bM (aj bM (aj bM (aj bG (aj au (aj au (aj au ae (aO (a8 K) (pv 0) ae)) (aO (a8 K) (pv 0) ae)) (aO (a8 K) (pv 0) ae)) (aj au (aj au (aO (a8 K) (pv 0) ae) (aO (a8 K) (pv 0) ae)) (aO (a8 K) (pv 0) ae))) (aj au (aj au (aO (a8 K) (pv 0) ae) (aO (a8 K) (pv 0) ae)) (aO (a8 K) (pv 0) ae))) (aj au (aj au (aO (a8 K) (pv 0) ae) (aO (a8 K) (pv 0) ae)) (aO (a8 K) (pv 0) ae))) (aj au (aj au (aO (a8 K) (pv 0) ae) (aO (a8 K) (pv 0) ae)) (aO (a8 K) (pv 0) ae)))),?_⟩
 exact⟨_,rfl,p,_,_,_,rfl,rfl,aF.of hp,rfl,_,_,rfl,rfl,bV b4 bf.a,_,rfl,p,_,_,_,rfl,rfl,aF.of hp,rfl,_,_,rfl,rfl,bV (b4.mul bf.a) bf.b,_,rfl,p,_,_,_,rfl,rfl,aF.of hp,rfl,_,_,rfl,rfl,bV ((b4.mul bf.a).mul bf.b) bf.c,
  _,rfl,p,_,_,_,rfl,rfl,aF.of hp,rfl,_,rfl,p,_,_,_,rfl,rfl,aF.of hp,rfl,_,_,rfl,rfl,bV bf.d bf.e,_,rfl,p,_,_,_,rfl,rfl,aF.of hp,rfl,_,_,rfl,rfl,bV (bf.d.mul bf.e) bf.f,_,_,rfl,rfl,
  _,rfl,p,_,_,_,rfl,rfl,aF.of hp,rfl,_,rfl,p,_,_,_,rfl,rfl,aF.of hp,rfl,_,_,rfl,rfl,bV bf.a bf.d,_,rfl,p,_,_,_,rfl,rfl,aF.of hp,rfl,_,_,rfl,rfl,bV (bf.a.mul bf.d) bf.d,_,_,rfl,rfl,
  _,rfl,p,_,_,_,rfl,rfl,aF.of hp,rfl,_,rfl,p,_,_,_,rfl,rfl,aF.of hp,rfl,_,_,rfl,rfl,bV bf.b bf.e,_,rfl,p,_,_,_,rfl,rfl,aF.of hp,rfl,_,_,rfl,rfl,bV (bf.b.mul bf.e) bf.e,_,_,rfl,rfl,
  _,rfl,p,_,_,_,rfl,rfl,aF.of hp,rfl,_,rfl,p,_,_,_,rfl,rfl,aF.of hp,rfl,_,_,rfl,rfl,bV bf.c bf.f,_,rfl,p,_,_,_,rfl,rfl,aF.of hp,rfl,_,_,rfl,rfl,bV (bf.c.mul bf.f) bf.f,_,_,rfl,rfl,q⟩
theorem q4 (F:Fn K mg "crossing_of" hX)(T:Txt K mg t) :aV P w K mg base aU 1 "crossing_of" ["one","other"] (AX K):=by
 refine F.ok qY (fun f bh A outer s H vs Q E hr h=>?_)
 obtain⟨p,q',r,s',rfl,hp,hq,br,bs,q⟩:=h
 refine⟨_,ar (aA (aJ (aa (aj bM (aj au (aO (a8 K) (pv 0) ae) (aO (a8 K) (pv 1) ae)) (aj au (aO (a8 K) (pv 0) ae) (aO (a8 K) (pv 1) ae))) (aa (aj bM (aj au (aO (a8 K) (pv 0) ae) (aO (a8 K) (pv 1) ae)) (aj au (aO (a8 K) (pv 0) ae) (aO (a8 K) (pv 1) ae))) (aa (aj bM (aj au (aO (a8 K) (pv 0) ae) (aO (a8 K) (pv 1) ae)) (aj au (aO (a8 K) (pv 0) ae) (aO (a8 K) (pv 1) ae))) af))))),?_⟩
 exact⟨_,rfl,p,_,_,_,rfl,rfl,hp,rfl,_,rfl,q',_,_,_,rfl,rfl,hq,rfl,_,_,rfl,rfl,bV br.y bs.z,_,rfl,p,_,_,_,rfl,rfl,hp,rfl,_,rfl,q',_,_,_,rfl,rfl,hq,rfl,_,_,rfl,rfl,bV br.z bs.y,_,_,rfl,rfl,_,rfl,p,_,_,_,rfl,rfl,hp,rfl,_,rfl,q',_,_,_,rfl,rfl,hq,rfl,_,_,rfl,rfl,bV br.z bs.x,_,rfl,p,_,_,_,rfl,rfl,hp,rfl,_,rfl,q',_,_,_,rfl,rfl,hq,rfl,_,_,rfl,rfl,bV br.x bs.z,_,_,rfl,rfl,_,rfl,p,_,_,_,rfl,rfl,hp,rfl,_,rfl,q',_,_,_,rfl,rfl,hq,rfl,_,_,rfl,rfl,bV br.x bs.y,_,rfl,p,_,_,_,rfl,rfl,hp,rfl,_,rfl,q',_,_,_,rfl,rfl,hq,rfl,_,_,rfl,rfl,bV br.y bs.x,_,_,rfl,rfl,(cz 3),fun z nz=>q z _ (ai nz _) ag⟩
theorem uY (F:Fn K mg "stretched" jS)(T:Txt K mg t) :aV P w K mg base aU 1 "stretched" ["P","times"] (FI K):=by
 refine F.ok uR (fun f bh A outer s H vs Q E hr h=>?_)
 obtain⟨p,P',m,rfl,hp,bp,bm,q⟩:=h
 refine⟨_,ar (aA (aJ (aa (aj au (aO (a8 K) (pv 0) ae) (pv 1)) (aa (aj au (aO (a8 K) (pv 0) ae) (pv 1)) (aa (aj au (aO (a8 K) (pv 0) ae) (pv 1)) af))))),?_⟩
 exact⟨_,rfl,p,_,_,_,rfl,rfl,hp,rfl,_,rfl,_,_,rfl,rfl,bV bp.x bm,_,rfl,p,_,_,_,rfl,rfl,hp,rfl,_,rfl,_,_,rfl,rfl,bV bp.y bm,_,rfl,p,_,_,_,rfl,rfl,hp,rfl,_,rfl,_,_,rfl,rfl,bV bp.z bm,(cz 3),fun z nz=>q z _ (ai nz _) ag⟩
theorem q5 (F:Fn K mg "row_product" hU)(T:Txt K mg t) :aV P w K mg base aU 1 "row_product" ["row","P"] (FU K):=by
 refine F.ok qW (fun f bh A outer s H vs Q E hr h=>?_)
 obtain⟨p,q',r,s',rfl,hp,hq,br,bs,q⟩:=h
 unfold S3 at hp
 refine⟨_,ar (aA (aj bG (aj bG (aj au (aO (a8 K) (pv 0) ae) (aO (a8 K) (pv 1) ae)) (aj au (aO (a8 K) (pv 0) ae) (aO (a8 K) (pv 1) ae))) (aj au (aO (a8 K) (pv 0) ae) (aO (a8 K) (pv 1) ae)))),?_⟩
 exact⟨_,rfl,p,_,_,_,rfl,rfl,aF.of hp,rfl,_,rfl,q',_,_,_,rfl,rfl,hq,rfl,_,_,rfl,rfl,bV br.x bs.x,_,rfl,p,_,_,_,rfl,rfl,aF.of hp,rfl,_,rfl,q',_,_,_,rfl,rfl,hq,rfl,_,_,rfl,rfl,bV br.y bs.y,_,_,rfl,rfl,_,rfl,p,_,_,_,rfl,rfl,aF.of hp,rfl,_,rfl,q',_,_,_,rfl,rfl,hq,rfl,_,_,rfl,rfl,bV br.z bs.z,_,_,rfl,rfl,q⟩
theorem uZ (F:Fn K mg "turned_by" jR)(T:Txt K mg t)(dN:aV P w K mg base aU 1 "row_product" ["row","P"] (FU K)):aV P w K mg base aU 2 "turned_by" ["table","P"] (AZ K):=by
 refine F.ok uQ (fun f bh A outer s H vs Q E hr h=>?_)
 obtain⟨p,q',t',P',rfl,ht,hq,bt,bp,q⟩:=h
 obtain⟨r0,r1,r2,hp,h0,h1,h2⟩:=ht
 refine⟨_,ar (aA (aJ (aa (aq dN hr aB (aa (aO (a8 K) (pv 0) ae) (aa (pv 1) af))) (aa (aq dN hr aB (aa (aO (a8 K) (pv 0) ae) (aa (pv 1) af))) (aa (aq dN hr aB (aa (aO (a8 K) (pv 0) ae) (aa (pv 1) af))) af))))),?_⟩
 exact⟨_,rfl,p,_,_,_,rfl,rfl,aF.of hp,rfl,_,rfl,r0,q',_,_,rfl,h0,hq,bt.r0,bp,_,rfl,p,_,_,_,rfl,rfl,aF.of hp,rfl,_,rfl,r1,q',_,_,rfl,h1,hq,bt.r1,bp,_,rfl,p,_,_,_,rfl,rfl,aF.of hp,rfl,_,rfl,r2,q',_,_,rfl,h2,hq,bt.r2,bp,(cz 3),fun z nz=>q z _ (ai nz _) nz ag⟩
theorem xk (F:Fn K mg "worth_of" lB)(T:Txt K mg t) :aV P w K mg base aU 1 "worth_of" ["Q","P"] (A1 K):=by
 refine F.ok oi (fun f bh A outer s H vs Q E hr h=>?_)
 obtain⟨p,q',F,P',rfl,hp,hq,bf,bp,q⟩:=h
 unfold S6 at hp
 refine⟨_,ah (bQ (i:=2) oi.nd (aJ (aa (aj au (aO (a8 K) (pv 1) ae) (aO (a8 K) (pv 1) ae)) (aa (aj au (aO (a8 K) (pv 1) ae) (aO (a8 K) (pv 1) ae)) (aa (aj au (aO (a8 K) (pv 1) ae) (aO (a8 K) (pv 1) ae)) (aa (aj au (aO (a8 K) (pv 1) ae) (aO (a8 K) (pv 1) ae)) (aa (aj au (aO (a8 K) (pv 1) ae) (aO (a8 K) (pv 1) ae)) (aa (aj au (aO (a8 K) (pv 1) ae) (aO (a8 K) (pv 1) ae)) af))))))))
  (ar (aA (aS (pY rfl) rfl T.Fv Fz (aa (jK rfl (bD.gen (cl:=[]) [] [] [(".0",.local),("coefficient",.local),("product",.local)] rfl) (DO rfl T.Fw (aa (pv 0) (aa (pv 2) af))) (fun C s0 H0 fp pins=>aj au (pv 0) (pv 1))) af)))),?_⟩
 refine⟨_,rfl,q',_,_,_,rfl,rfl,hq,rfl,_,rfl,q',_,_,_,rfl,rfl,hq,rfl,_,_,rfl,rfl,bV bp.x bp.x,_,rfl,q',_,_,_,rfl,rfl,hq,rfl,_,rfl,q',_,_,_,rfl,rfl,hq,rfl,_,_,rfl,rfl,bV bp.y bp.y,_,rfl,q',_,_,_,rfl,rfl,hq,rfl,_,rfl,q',_,_,_,rfl,rfl,hq,rfl,_,_,rfl,rfl,bV bp.z bp.z,_,rfl,q',_,_,_,rfl,rfl,hq,rfl,_,rfl,q',_,_,_,rfl,rfl,hq,rfl,_,_,rfl,rfl,bV bp.y bp.z,_,rfl,q',_,_,_,rfl,rfl,hq,rfl,_,rfl,q',_,_,_,rfl,rfl,hq,rfl,_,_,rfl,rfl,bV bp.x bp.z,_,rfl,q',_,_,_,rfl,rfl,hq,rfl,_,rfl,q',_,_,_,rfl,rfl,hq,rfl,_,_,rfl,rfl,bV bp.x bp.y,(cz 6),fun p1 n1=>?_⟩
 have g1:=ai n1 (.tup [.int (P'.x*P'.x),.int (P'.y*P'.y),.int (P'.z*P'.z),.int (P'.y*P'.z),.int (P'.x*P'.z),.int (P'.x*P'.y)])
 have GQ:=g1 _ _ hp
 refine⟨_,rfl,_,rfl,p,p1,_,_,rfl,aF.of GQ,aF.of ag,yl (fun H' g=>aF.of (g _ _ GQ)) (fun H' g=>aF.of (g _ _ ag)) rfl (sC 6) Uy ?_ ?_⟩
 ·intro i x y H' Q' ex ey g k
  obtain⟨a,b,rfl,rfl,ha,hb⟩:∃ a b:Int,x=.int a/\y=.int b/\Bd 600 a/\Bd (600+600) b:=by
   match i,ex,ey with
   | 0,ex,ey=>exact⟨_,_,(aac ex).symm,(aac ey).symm,bf.a,bp.x.mul bp.x⟩
   | 1,ex,ey=>exact⟨_,_,(aac ex).symm,(aac ey).symm,bf.b,bp.y.mul bp.y⟩
   | 2,ex,ey=>exact⟨_,_,(aac ex).symm,(aac ey).symm,bf.c,bp.z.mul bp.z⟩
   | 3,ex,ey=>exact⟨_,_,(aac ex).symm,(aac ey).symm,bf.d,bp.y.mul bp.z⟩
   | 4,ex,ey=>exact⟨_,_,(aac ex).symm,(aac ey).symm,bf.e,bp.x.mul bp.z⟩
   | 5,ex,ey=>exact⟨_,_,(aac ex).symm,(aac ey).symm,bf.f,bp.x.mul bp.y⟩
   | n+6,ex,ey=>cases ex
  exact⟨_,rfl,_,rfl,_,_,rfl,rfl,bV ha hb,k _ (av.refl _)⟩
 ·intro l H' g h0 hl
  refine⟨l,[F.a*(P'.x*P'.x),F.b*(P'.y*P'.y),F.c*(P'.z*P'.z),F.d*(P'.y*P'.z),F.e*(P'.x*P'.z),F.f*(P'.x*P'.y)],rfl,hl,?_⟩
  rw[TQ]
  exact q _ (g1.trans g)
theorem Gj (F:Fn K mg "added" um)(T:Txt K mg t) :aV P w K mg base aU 1 "added" ["one","other"] (y7 K):=by
 refine F.ok Gf (fun f bh A outer s H vs Q E hr h=>?_)
 obtain⟨p,q',P',R',rfl,hp,hq,q⟩:=h
 refine⟨_,ar (aA (aJ (aa (aj bG (aO (a8 K) (pv 0) ae) (aO (a8 K) (pv 1) ae)) (aa (aj bG (aO (a8 K) (pv 0) ae) (aO (a8 K) (pv 1) ae)) (aa (aj bG (aO (a8 K) (pv 0) ae) (aO (a8 K) (pv 1) ae)) af))))),?_⟩
 exact⟨_,rfl,p,_,_,_,rfl,rfl,hp,rfl,_,rfl,q',_,_,_,rfl,rfl,hq,rfl,_,_,rfl,rfl,_,rfl,p,_,_,_,rfl,rfl,hp,rfl,_,rfl,q',_,_,_,rfl,rfl,hq,rfl,_,_,rfl,rfl,_,rfl,p,_,_,_,rfl,rfl,hp,rfl,_,rfl,q',_,_,_,rfl,rfl,hq,rfl,_,_,rfl,rfl,(cz 3),fun z nz=>q z _ (ai nz _) ag⟩
theorem oK (F:Fn K mg "lowest_point" gi)(T:Txt K mg t)(a5:aV P w K mg base aU 2 "shares_of" ["one","other"] (iG)):aV P w K mg base aU 3 "lowest_point" ["P"] (qO K):=by
 refine F.ok fu (fun f bh A outer s H vs Q E hr h=>?_)
 obtain⟨b,p,x,y,z,rfl,hp,hb,RY,q⟩:=h
 refine⟨_,ah (bQ (i:=1) fu.nd (aO (a8 K) (aq a5 hr aB (aa (aO (a8 K) (aq a5 hr aB (aa (aO (JD K) (pv 0) ae) (aa (aO (JD K) (pv 0) ae) af))) ae) (aa (aO (JD K) (pv 0) ae) af))) ae))
  (dO (aZ (aE jC (aO (gF K) (eS rfl (aI.gen (cl:=[]) [] [] [(".0",.local),("number",.local)] rfl) (tX (pv 0)) (fun C s0 H0 fp pins=>aE kG (pv 0) ae (aG _)) (fun C s0 H0 fp pins=>pv 0)) ae) ae (aG _)) (ar (bQ (i:=1) fu.nd (jq fi (pv 1)))) aL)
  (ar (aA (aJ (aa (aj cR (aO (JD K) (pv 0) ae) (pv 1)) (aa (aj cR (aO (JD K) (pv 0) ae) (pv 1)) (aa (aj cR (aO (JD K) (pv 0) ae) (pv 1)) af))))))),?_⟩
 obtain⟨bx,wC,bz⟩:=IK hb
 refine⟨_,rfl,NA hp rfl ⟨_,rfl,NA hp rfl ⟨x,y,rfl,bx,wC,fun p1 H1 g s' t' g1 h1 g0 eg ⟨k1,e1⟩ ⟨k2,e2⟩ _ _=>?_⟩⟩⟩
 have bg:=yX bx wC eg e1 e2
 refine⟨p1,_,_,_,rfl,rfl,aF.of h1,rfl,_,rfl,NA (hp.up g1) rfl ⟨g,z,rfl,bg,bz,fun p2 H2 d s2 t2 g2 h2 d0 ed ⟨k3,e3⟩ ⟨k4,e4⟩ _ _=>?_⟩⟩
 refine⟨p2,_,_,_,rfl,rfl,aF.of h2,rfl,?_⟩
 have bd:=yX bg bz ed e3 e4
 have dn:d≠0:=by
  intro zz
  subst zz
  rw[aaI] at e3 e4
  subst e3
  rw[aaI] at e1 e2
  unfold NZ at RY
  omega
 have dx:d∣x:=⟨k1*k3,by rw[e1,e3];grind⟩
 have dy:d∣y:=⟨k2*k3,by rw[e2,e3];grind⟩
 have dz:d∣z:=⟨k4,by rw[aao];exact e4⟩
 have Wm:s2*s'*x+s2*t'*y+t2*z=d:=by rw[ed,eg];grind
 have MY:=g1.trans g2
 have q8:=hp.up MY
 refine⟨fun σ' H'=>∃ e:Int,σ'=[some (.ref p),some (.int e)]/\av H H'/\((e=d/\0<lh x y z)\/(e=-d/\lh x y z<0)),?_,?_⟩
 ·refine⟨_,rfl,p,b,_,rfl,q8,wd (xs:=[.int x,.int y,.int z]) (sC 3) nz id (fun H' g=>q8.up g) ?_ ?_ ?_⟩
  ·intro i v H' Q' hv g k
   obtain⟨n,rfl,_⟩:=get3 hv
   exact⟨_,rfl,rfl,_,rfl,k _ (av.refl _)⟩
  ·intro i v H' Q' hv e g k
   exact⟨_,rfl,k _ (av.refl _)⟩
  ·intro l H' g h0 hl
   have fz:=MD RY
   refine⟨l,_,_,_,rfl,rfl,aM.of hl,FK RY,_,_,rfl,rfl,_,rfl,bK (fun c=>?_) (fun c=>?_)⟩
   ·have c':=cZ c
    exact⟨_,rfl,_,rfl,-d,rfl,MY.trans g,.inr ⟨rfl,c'⟩⟩
   ·have c':=dX c
    exact⟨d,rfl,MY.trans g,.inl ⟨rfl,by omega⟩⟩
 ·rintro _ H3 ⟨e,rfl,g3,he⟩
  have UN:=hp.up g3
  have en:e≠0:=by omega
  have be:e.natAbs<=Lm:=by omega
  have ex:e∣x:=by
   rcases he with ⟨z,_⟩|⟨z,_⟩<;>rw[z]
   ·exact dx
   ·exact Int.neg_dvd.mpr dx
  have ey:e∣y:=by
   rcases he with ⟨z,_⟩|⟨z,_⟩<;>rw[z]
   ·exact dy
   ·exact Int.neg_dvd.mpr dy
  have ez:e∣z:=by
   rcases he with ⟨z,_⟩|⟨z,_⟩<;>rw[z]
   ·exact dz
   ·exact Int.neg_dvd.mpr dz
  have eb:∃ u v w:Int,u*x+v*y+w*z=e:=by
   rcases he with ⟨zz,_⟩|⟨zz,_⟩
   ·exact⟨_,_,_,Wm.trans zz.symm⟩
   ·exact⟨-(s2*s'),-(s2*t'),-t2,by rw[zz,<- Wm];grind⟩
  obtain⟨o,qx,qy,qz⟩:=L8 en ex ey ez eb
  refine⟨_,rfl,NA UN rfl ⟨_,rfl,_,_,rfl,rfl,⟨en,lE (by omega)⟩,_,rfl,NA UN rfl ⟨_,rfl,_,_,rfl,rfl,⟨en,lE (by omega)⟩,
   _,rfl,NA UN rfl ⟨_,rfl,_,_,rfl,rfl,⟨en,lE (by omega)⟩,(cz 3),fun r nr=>?_⟩⟩⟩⟩
  refine q r _ _ _ _ e (g3.trans (ai nr _)) ag o (MC en qx qy qz RY ?_) en qx qy qz
  rcases he with ⟨zz,w⟩|⟨zz,w⟩
  ·exact .inl ⟨by omega,w⟩
  ·exact .inr ⟨by omega,w⟩
theorem q9 (F:Fn K mg "turned_over" hV)(T:Txt K mg t) :aV P w K mg base aU 1 "turned_over" ["table"] (FV):=by
 refine F.ok qX (fun f bh A outer s H vs Q E hr h=>?_)
 obtain⟨p,t',rfl,ht,q⟩:=h
 refine⟨_,ar (aA (cT cU rfl T.jb jc (aa (bX rfl (aI.gen (cl:=[("table",_)]) ["table"] [0] [(".0",.local),("place",.local),("table",.cell)] rfl) (cD rfl T.eF (aa ae af)) (fun C s0 H0 fp pins=>aJ (aa (aO (a8 K) (aO (gF K) (pv 1) ae) (pv 0)) (aa (aO (a8 K) (aO (gF K) (pv 1) ae) (pv 0)) (aa (aO (a8 K) (aO (gF K) (pv 1) ae) (pv 0)) af))))) af))),?_⟩
 refine⟨3,rfl,by decide,by decide,eT 3 (by decide) (Laid fun j=>t3 (rowOf (tr t') j)) (fun _ _=>Laid.zero) ?_ ?_⟩
 ·intro i vs H' acc Q' hi g h0 ha r hl k
  obtain⟨r0,r1,r2,hp,QA,QB,QC⟩:=ht.mono g
  obtain rfl|rfl|rfl:i=0\/i=1\/i=2:=by omega
  ·exact⟨_,rfl,p,_,_,_,rfl,rfl,aM.of hp,rfl,_,rfl,r0,_,_,_,rfl,rfl,aF.of QA,rfl,_,rfl,p,_,_,_,rfl,rfl,aM.of hp,rfl,_,rfl,r1,_,_,_,rfl,rfl,aF.of QB,rfl,_,rfl,p,_,_,_,rfl,rfl,aM.of hp,rfl,_,rfl,r2,_,_,_,rfl,rfl,aF.of QC,rfl,(cz 3),fun z nz=>k _ _ (ai nz _) (r.next (ai nz _) ha nz ag fun j e=>by cases e)⟩
  ·exact⟨_,rfl,p,_,_,_,rfl,rfl,aM.of hp,rfl,_,rfl,r0,_,_,_,rfl,rfl,aF.of QA,rfl,_,rfl,p,_,_,_,rfl,rfl,aM.of hp,rfl,_,rfl,r1,_,_,_,rfl,rfl,aF.of QB,rfl,_,rfl,p,_,_,_,rfl,rfl,aM.of hp,rfl,_,rfl,r2,_,_,_,rfl,rfl,aF.of QC,rfl,(cz 3),fun z nz=>k _ _ (ai nz _) (r.next (ai nz _) ha nz ag fun j e=>by cases e)⟩
  ·exact⟨_,rfl,p,_,_,_,rfl,rfl,aM.of hp,rfl,_,rfl,r0,_,_,_,rfl,rfl,aF.of QA,rfl,_,rfl,p,_,_,_,rfl,rfl,aM.of hp,rfl,_,rfl,r1,_,_,_,rfl,rfl,aF.of QB,rfl,_,rfl,p,_,_,_,rfl,rfl,aM.of hp,rfl,_,rfl,r2,_,_,_,rfl,rfl,aF.of QC,rfl,(cz 3),fun z nz=>k _ _ (ai nz _) (r.next (ai nz _) ha nz ag fun j e=>by cases e)⟩
 ·intro l H' vs g h0 hl _ r
  obtain⟨s0,s1,s2,rfl,e0,e1,e2⟩:=r.three
  refine⟨l,_,rfl,.inl ⟨aM.of hl,fun z nz=>q z _ (g.trans (ai nz _)) ⟨s0,s1,s2,ag,ai nz _ _ _ e0,ai nz _ _ _ e1,ai nz _ _ _ e2⟩⟩⟩
theorem rX (F:Fn K mg "above_root" iZ)(T:Txt K mg t) :aV P w K mg base aU 1 "above_root" ["number"] (uE):=by
 refine F.ok ic (fun f bh A outer s H vs Q E hr h=>?_)
 obtain⟨n,rfl,n0,n1,q⟩:=h
 refine⟨_,ah (bQ (i:=1) ic.nd ae)
  (ah (dZ aaZ (aE zJ (aj au (pv 1) (pv 1)) (pv 0) (aG _)) (ar (bQ (i:=1) ic.nd (aj au ae (pv 1)))))
  (ar (aA (pv 1)))),?_⟩
 refine⟨fun m σ H'=>∃ g:Int,σ=[some (.int n),some (.int g)]/\H'=H/\1<=g/\g<=2*n+1/\m=(n+1-g).toNat,⟨_,1,rfl,rfl,by omega,by omega,rfl⟩,?_⟩
 rintro m σ H' ⟨g,rfl,rfl,g0,g1,rfl⟩
 have bg:=lT (xa (g:=g) (by omega) (by omega)) (by decide)
 refine⟨_,rfl,_,rfl,_,_,rfl,rfl,zZ bg bg,_,rfl,_,_,rfl,rfl,_,rfl,?_⟩
 refine bK (fun c=>?_) (fun c=>?_)
 ·have c':g*g<=n:=acB c
  have gn:=J0 g0
  refine⟨fun σ' H2=>σ'=[some (.int n),some (.int (2*g))]/\H2=H',?_,?_⟩
  ·rintro σ' H2 ⟨rfl,rfl⟩
   exact⟨_,by omega,2*g,rfl,rfl,by omega,by omega,rfl⟩
  ·exact⟨_,rfl,_,_,rfl,rfl,zZ (lT (k:=2) (by decide) (by decide)) bg,rfl,rfl⟩
 ·have c':¬ g*g<=n:=aei (adI.mpr c)
  exact⟨_,rfl,q g (by omega) g1 (by omega)⟩
theorem zi (F:Fn K mg "root_of" mT)(T:Txt K mg t)(ji:aV P w K mg base aU 1 "above_root" ["number"] (uE)):aV P w K mg base aU 2 "root_of" ["number"] (uF):=by
 refine F.ok lF (fun f bh A outer s H vs Q E hr h=>?_)
 obtain⟨r,rfl,r0,n1,q⟩:=h
 have n0:0<=r*r:=acq r0 r0
 have fin:∀ g:Int,0<=g->g*g<=r*r->r*r<(g+1)*(g+1)->g=r:=fun g a b c=>B8 a b c r0
 generalize r*r=n at *
 refine⟨_,ah (aZ (aE jC (pv 0) ae (aG _)) fN aL)
  (ah (bQ (i:=1) lF.nd (aq ji hr aB (aa (pv 0) af)))
  (ah (dZ aaZ (aE pK (aj au (pv 1) (pv 1)) (pv 0) (aG _)) (ar (bQ (i:=1) lF.nd (aj gK (aj bG (pv 1) (aj cR (pv 0) (pv 1))) ae))))
  (ar (aA (pv 1))))),?_⟩
 refine⟨_,rfl,_,_,rfl,rfl,_,rfl,l9 (show ¬ n<0 by omega) ?_⟩
 refine⟨_,rfl,n,rfl,n0,n1,fun g g0 g1 g2=>?_⟩
 refine⟨fun m σ H'=>∃ g:Int,σ=[some (.int n),some (.int g)]/\H'=H/\0<=g/\g<=2*n+1/\n<(g+1)*(g+1)/\m=g.toNat,⟨_,g,rfl,rfl,g0,g1,?_,rfl⟩,?_⟩
 ·have:(g+1)*(g+1)=g*g+2*g+1:=by grind
  omega
 rintro m σ H' ⟨g,rfl,rfl,g0,g1,g2,rfl⟩
 have ng:=xa (g:=g) g0 (by omega)
 have bg:=lT ng (by decide)
 refine⟨_,rfl,_,rfl,_,_,rfl,rfl,zZ bg bg,_,rfl,_,_,rfl,rfl,_,rfl,?_⟩
 refine bK (fun c=>?_) (fun c=>?_)
 ·have c':n<g*g:=acB c
  obtain⟨gp,s0,s1,s2⟩:=newton_step n0 g0 c'
  refine⟨fun σ' H2=>σ'=[some (.int n),some (.int ((g+n.fdiv g) / 2))]/\H2=H',?_,?_⟩
  ·rintro σ' H2 ⟨rfl,rfl⟩
   exact⟨_,by omega,_,rfl,rfl,s0,by omega,s2,rfl⟩
  ·exact⟨_,rfl,_,rfl,_,rfl,_,_,rfl,rfl,⟨by omega,aak (log2_lt_of ng (by decide)) (by decide)⟩,_,_,rfl,rfl,_,_,rfl,rfl,⟨by decide,by decide⟩,rfl,rfl⟩
 ·have c':¬ n<g*g:=aei (adI.mpr c)
  have:=fin g g0 (by omega) g2
  subst this
  exact⟨_,rfl,q⟩
theorem u7 (F:Fn K mg "off_curve" jT)(T:Txt K mg t)(u9:aV P w K mg base aU 1 "added" ["one","other"] (y7 K))(eV:aV P w K mg base aU 1 "worth_of" ["Q","P"] (A1 K)):aV P w K mg base aU 2 "off_curve" ["Q","points"] (A2 K):=by
 refine F.ok jg (fun f bh A outer s H vs Q E hr h=>?_)
 obtain⟨b,q',p,F,us,Ps,rfl,hF,hp,tu,len,bf,bp,⟨v,ev⟩,q⟩:=h
 refine⟨_,ah (bQ (i:=2) jg.nd (cT tN rfl T.Fx FA (aa (pv 1) af)))
  (ah (fU aaZ rfl (tX (pv 1)) (eO (i:=3) jg.nd) (ar (fH (pO abI adD adC mD (pv 2) (aa (bX rfl (aI.gen (cl:=[("one",_)]) ["one"] [3] [(".0",.local),("other",.local),("added",.globalImplicit),("one",.cell)] rfl) (tX (pv 1)) (fun C s0 H0 fp pins=>aq u9 hr aB (aa (pv 1) (aa (pv 0) af)))) af)))))
  (ar (aA (aO (gF K) (eS rfl (aI.gen (cl:=[("Q",_)]) ["Q"] [0] [(".0",.local),("point",.local),("worth_of",.globalImplicit),("Q",.cell)] rfl) (xH K (pv 2)) (fun C s0 H0 fp pins=>aE kG (aq eV hr aB (aa (pv 1) (aa (pv 0) af))) ae (aG _)) (fun C s0 H0 fp pins=>pv 0)) ae)))),?_⟩
 have ul:=tu.len
 refine⟨_,rfl,p,us,rfl,(by cases b;exact .inr hp;exact .inl hp),fun tl Wn=>?_⟩
 have g0:=ai Wn (.lst us)
 refine⟨_,rfl,p,b,us,rfl,hp.up g0,Ah (xs:=us) (fun i σ H'=>∃ (ox:Option V) (ws:List V),σ=[some (.ref q'),some (.ref p),some (.ref tl),ox]/\av H H'/\H' tl=some (.lst ws)/\og K H' ws (Ps++(Ps.take i).flatMap fun a=>Ps.map (ad a))/\ws.length<=3+3*i) ⟨none,us,rfl,g0,ag,by simpa using tu.mono g0,by omega⟩ ?_ ?_ ?_⟩
 ·rintro i σ H' hi ⟨ox,ws,rfl,g,_⟩
  exact hp.up g
 ·rintro i x σ H1 hx ⟨ox,ws,rfl,g,Dy,tw,lw⟩
  have hi:i<us.length:=(abm.mp hx).1
  obtain⟨r,P,rfl,eP,jw⟩:=tu.get hx
  refine⟨_,rfl,.inl ⟨rfl,_,aM.of Dy⟩,_,rfl,p,b,us,rfl,hp.up g,B7 (xs:=us) (abv (by omega:us.length<=100) (by decide)) (fun H' g'=>hp.up (g.trans g')) (fun j Cf H'=>og K H' Cf ((Ps.take j).map (ad P))) (fun _ _=>.nil) ?_ ?_⟩
  ·intro j y Cf H2 acc Q' ey g2 h0 ha rr hl k
   obtain⟨r2,R,rfl,eR,wg⟩:=tu.get ey
   refine⟨_,rfl,_,rfl,r,r2,P,R,rfl,jw.up (g.trans g2),wg.up (g.trans g2),fun z H3 g3 hz=>k _ _ g3 ?_⟩
   rw[acD,eR,aaS]
   exact ((rr.mono g3).app (.cons (aF.of hz) .nil)).put (g3 _ _ ha)
  ·intro l H2 Cf g2 _ hl _ rr
   have QD:=g2 _ _ Dy
   rw[ul,abz] at rr
   have wl:Cf.length=Ps.length:=by rw[rr.len,aas]
   refine⟨tl,l,_,_,rfl,rfl,QD,hl,aag (by omega:ws.length+Cf.length<=100) (by decide),some (.ref r),ws++Cf,rfl,Qo (g.trans g2) Wn,ag,?_,by rw[aaT];omega⟩
   have e:(Ps++(Ps.take (i+1)).flatMap fun a=>Ps.map (ad a))=(Ps++(Ps.take i).flatMap fun a=>Ps.map (ad a))++Ps.map (ad P):=by
    rw[acD,eP,adH]
    simp[List.flatMap_append]
   rw[e]
   exact ((tw.mono g2).app rr).put QD
 ·rintro σ H1 ⟨ox,ws,rfl,g,Dy,tw,lw⟩
  rw[ul,abz] at tw
  have RZ:og K H1 ws (k9 Ps):=tw
  have wl:=RZ.len
  refine⟨_,rfl,tl,rfl,⟨_,aM.of Dy⟩,uD (xs:=ws) (abv (by omega:ws.length<=100) (by decide)) (FW F (k9 Ps)) (fun H' g'=>aM.of (g' _ _ Dy)) (m9 K H1 F (k9 Ps)) m9.zero ?_ ?_ ?_ ?_ ?_⟩
  ·intro i x vs ex e r
   obtain⟨r',P,rfl,eP,jw⟩:=RZ.get ex
   exact (m9.step eP jw r).1 e
  ·intro i x vs ex e r
   obtain⟨r',P,rfl,eP,jw⟩:=RZ.get ex
   exact (m9.step eP jw r).2 e
  ·intro i x H' Q' ex g' k
   obtain⟨r',P,rfl,eP,jw⟩:=RZ.get ex
   have bP:=IT bp (aaV eP)
   refine⟨_,rfl,_,rfl,q',r',F,P,rfl,(g.trans g') _ _ hF,jw.up g',bf.mono,bP.cy,fun H2 g2=>?_⟩
   have kk:=k H2 g2
   rw[A3 eP] at kk
   refine⟨rfl,_,rfl,?_⟩
   have ee:(!decide (V.int (wo F P)=V.int 0))=(wo F P != 0):=by
    by_cases z:wo F P=0
    ·rw[z];rfl
    ·rw[aa5 (fun w=>z (aP w))]
     simp[z]
   first
    | exact ee▸kk
    | (rw[<- ee] at kk;exact kk)
  ·intro i x H' Q' ex g' k
   exact⟨_,rfl,k _ (av.refl _)⟩
  ·intro la H7 vs g7 h0 NC rr
   unfold m9 at rr
   rw[wl,abz] at rr
   have YU:(k9 Ps).find? (fun v=>wo F v != 0)=some v:=ev
   rw[YU] at rr
   obtain⟨r',rest,rfl,jw⟩:=rr
   exact⟨la,_,_,_,rfl,rfl,aM.of NC,JU,q r' _ v (g.trans g7) (jw.up g7) ev⟩
theorem rY (F:Fn K mg "corners_on" i6)(T:Txt K mg t)(cv:aV P w K mg base aU 1 "crossing_of" ["one","other"] (AX K))(dS:aV P w K mg base aU 2 "off_curve" ["Q","points"] (A2 K))(aY:aV P w K mg base aU 3 "lowest_point" ["P"] (qO K))(cg:aV P w K mg base aU 1 "slopes_of" ["Q"] (FH))(dU:aV P w K mg base aU 2 "turned_by" ["table","P"] (AZ K)):aV P w K mg base aU 4 "corners_on" ["Q","line"] (uH K):=by
 refine F.ok kM (fun f bh A outer s H vs Q E hr h=>?_)
 obtain⟨q',lr,F,P0,rfl,hF,hl,in1,ns,fs,q⟩:=h
 refine⟨_,ah (bQ (i:=2) kM.nd (aq aY hr aB (aa (aq dS hr aB (aa (pv 0) (aa (bX rfl (aI.gen (cl:=[("line",_)]) ["line"] [1] [(".0",.local),("axis",.local),("crossing_of",.globalImplicit),("line",.cell)] rfl) (Bs K (fG (v:=.ref t.gk) rfl T.qF rfl)) (fun C s0 H0 fp pins=>aq cv hr aB (aa (pv 1) (aa (pv 0) af)))) af))) af)))
  (ar (aA (aJ (aa (pv 2) (aa (aq aY hr aB (aa (aq cv hr aB (aa (pv 1) (aa (aq dU hr aB (aa (aq cg hr aB (aa (pv 0) af)) (aa (pv 2) af))) af))) af)) af))))),?_⟩
 have J5:∀ H':Hp,aF K H' t.gk [.ref t.i7,.ref t.i8,.ref t.i9]:=fun H'=>T.yU.sq _
 have UO:∀ H':Hp,og K H' [.ref t.i7,.ref t.i8,.ref t.i9] gz:=fun H'=>.cons (T.qG.sq _) (.cons (T.qH.sq _) (.cons (T.qI.sq _) .nil))
 obtain⟨QE,_⟩:=FX fs
 have el:tb (sl F) P0=tb (sl F) P0:=rfl
 have nl:=AJ fs.w0
 have YV:=AL (EY ns nl)
 generalize UP:tb (sl F) P0=l at *
 refine⟨_,rfl,t.gk,rfl,⟨_,J5 _⟩,kj (xs:=[.ref t.i7,.ref t.i8,.ref t.i9]) (sC 3) (fun H' _=>J5 H') (fun i ws H'=>og K H' ws ((gz.take i).map (cr l))) (fun _ _=>.nil) ?_ ?_⟩
 ·intro i x vs H' acc Q' ex g h0 ha rr hv k
  obtain⟨r,A',rfl,eA,hA⟩:=(UO H').get ex
  refine⟨_,rfl,_,rfl,lr,r,l,A',rfl,aF.of (g _ _ hl),hA,QE.cy,y9 A' (aaV eA),fun z H3 g3 hz=>k _ _ g3 ?_⟩
  rw[acD,eA,aaS]
  exact ((rr.mono g3).app (.cons (aF.of hz) .nil)).put (g3 _ _ ha)
 intro la H1 ws g1 _ NC _ rr
 have IZ:og K H1 ws (gz.map (cr l)):=rr
 have YW:∀ R∈gz.map (cr l),BP 300 R:=fun R hR=>by
  obtain⟨A',hA,rfl⟩:=abb.mp hR
  exact (FJ QE (y9 (k:=0) A' hA)).cy
 refine⟨true,q',la,F,ws,gz.map (cr l),rfl,g1 _ _ hF,aM.of NC,IZ,by simp[gz],in1.bf.mono,YW,YV,fun r H2 v g2 wg ev=>?_⟩
 have bv:=E8 fs ev
 have nv:=Qr (o8 ev)
 have YX:BP 9 v:=⟨aag bv.1 (by decide),aag bv.2.1 (by decide),aag bv.2.2 (by decide)⟩
 refine⟨false,r,v.x,v.y,v.z,rfl,wg,yW YX.cy,J1 nv,fun r1 H3 a b c d g3 h3 o3 p3 d0 ex ey ez=>?_⟩
 have em:v=tm d ⟨a,b,c⟩:=P3.ext' ⟨ex,ey,ez⟩
 obtain⟨Wo,Wq,YY,bR⟩:=MO UP.symm in1 fs ev d0 em
 have Wr:=MP d0 em bv
 have QF:=g1.trans (g2.trans g3)
 have Ws:S3 H3 r1 ⟨a,b,c⟩:=h3
 generalize hRe:(⟨a,b,c⟩:P3)=R at *
 refine⟨_,rfl,_,rfl,_,rfl,q',F,rfl,QF _ _ hF,fun sr H4 g4 hs=>?_⟩
 have QG:BT 8 (sl F):=Ax in1.bf
 refine⟨_,rfl,sr,r1,sl F,R,rfl,hs,aF.of (g4 _ _ Ws),QG.mono,Wr.cy,fun kr H5 g5 _ hk=>?_⟩
 have bk:BP 19 (tb (sl F) R):=(Ph QG Wr).cy
 refine⟨lr,kr,l,tb (sl F) R,rfl,aF.of ((QF.trans (g4.trans g5)) _ _ hl),aF.of hk,QE.cy,bk.cy,fun c' H6 g6 hc=>?_⟩
 have bc:BP 28 (cr l (tb (sl F) R)):=(FJ QE bk).cy
 have Wt:=EZ fs.w0 Wq Wo
 rw[UP] at Wt
 refine⟨false,c',_,_,_,rfl,aF.of hc,yW bc.cy,J1 Wt,fun r2 H7 a2 b2 c2 d2 g7 h7 o7 p7 Wu YZ Y0 UQ=>?_⟩
 have Wv:cr l (tb (sl F) R)=tm d2 ⟨a2,b2,c2⟩:=P3.ext' ⟨YZ,Y0,UQ⟩
 have bS:BP 100 (⟨a2,b2,c2⟩:P3):=(FD Wu (Wv▸bc)).cy
 refine⟨(cz 2),fun p np=>?_⟩
 have gp:=ai np (.tup [.ref r1,.ref r2])
 exact q p r1 r2 _ R ⟨a2,b2,c2⟩ (QF.trans (g4.trans (g5.trans (g6.trans (g7.trans gp))))) ag ((g4.trans (g5.trans (g6.trans (g7.trans gp)))) _ _ Ws) (gp _ _ h7) (Mf ns fs.w0 Wq Wo Wu (by rw[UP];exact Wv)) YY bR bS
theorem rZ (F:Fn K mg "corners_of" i5)(T:Txt K mg t)(dS:aV P w K mg base aU 2 "off_curve" ["Q","points"] (A2 K))(cg:aV P w K mg base aU 1 "slopes_of" ["Q"] (FH))(dU:aV P w K mg base aU 2 "turned_by" ["table","P"] (AZ K))(jk:aV P w K mg base aU 4 "corners_on" ["Q","line"] (uH K)):aV P w K mg base aU 5 "corners_of" ["Q"] (MN K):=by
 refine F.ok kL (fun f bh A outer s H vs Q E hr h=>?_)
 obtain⟨q',F,rfl,hF,in1,ns,q⟩:=h
 refine⟨_,ah (bQ (i:=1) kL.nd (aq dS hr aB (aa (pv 0) (aa (fG (v:=.ref t.gk) rfl T.qF rfl) af))))
  (ar (aA (aj (OG K) (aJ (aa (pv 1) af)) (aq jk hr aB (aa (pv 0) (aa (aq dU hr aB (aa (aq cg hr aB (aa (pv 0) af)) (aa (pv 1) af))) af)))))),?_⟩
 have J5:∀ H':Hp,aF K H' t.gk [.ref t.i7,.ref t.i8,.ref t.i9]:=fun H'=>T.yU.sq _
 have UO:∀ H':Hp,og K H' [.ref t.i7,.ref t.i8,.ref t.i9] gz:=fun H'=>.cons (T.qG.sq _) (.cons (T.qH.sq _) (.cons (T.qI.sq _) .nil))
 refine⟨_,rfl,false,q',t.gk,F,_,gz,rfl,hF,J5 _,UO _,by decide,in1.bf.mono,y9,AL (EX ns),fun r0 H1 P1 g1 Ww ev=>?_⟩
 have fs:=Mj in1 ev
 obtain⟨QE,bP⟩:=FX fs
 refine⟨_,rfl,(cz 1),fun p1 VU=>?_⟩
 have QH:=ai VU (.tup [.ref r0])
 refine⟨_,rfl,_,rfl,q',F,rfl,QH _ _ (g1 _ _ hF),fun sr H2 g2 hs=>?_⟩
 refine⟨_,rfl,sr,r0,sl F,P1,rfl,hs,Ww.up (QH.trans g2),(Ax in1.bf).mono,bP.cy,fun kr H3 g3 _ hk=>?_⟩
 refine⟨q',kr,F,P1,rfl,(g1.trans (QH.trans (g2.trans g3))) _ _ hF,hk,in1,ns,fs,fun r r1 r2 H4 R S g4 UR h1 h2 C wR bR bS=>?_⟩
 have US:=g2.trans (g3.trans g4)
 refine⟨p1,r,_,_,rfl,rfl,aF.of (US _ _ ag),aF.of UR,by simp,(cz 3),(fun z=>by cases z),fun _ p np=>?_⟩
 have gp:=ai np (.tup [.ref r0,.ref r1,.ref r2])
 exact q p r0 r1 r2 _ P1 R S (g1.trans (QH.trans (US.trans gp))) ag (Ww.up (QH.trans (US.trans gp))) (aF.of (gp _ _ h1)) (aF.of (gp _ _ h2)) C fs.w wR bP.cy bR bS
theorem vd {f:Addr}{fd:FuncData}(F:CB K "__init__" "Flat.__init__" dR f fd)(T:Txt K mg t) :kB P w K mg base aU 1 f fd ["self","vertex"] (z8 t.c8 "vertex"):=by
 refine F.ok uU (fun vs H Q E h=>?_) (fun bh A outer s H vs Q E hr h=>?_)
 ·obtain⟨_,_,rfl,_⟩:=h
  rfl
 obtain⟨e,v,rfl,he,q⟩:=h
 refine⟨_,ah (fH (vW rfl T.uu T.y1 T.y2 T.y3 (aa (pv 0) (aa Kt af)))) (ar (Bo (pv 0) (pv 1) rfl)),?_⟩
 refine⟨_,rfl,e,t.c8,t.wW,_,rfl,he,T.yT,?_⟩
 refine⟨_,rfl,_,rfl,e,t.c8,rfl,ag,T.Fy,fun dx z7=>?_⟩
 have ne:dx≠e:=fun z=>by subst z;rw[ag] at z7;cases z7
 refine q dx _ ag (by rw[aH ne];exact ag) fun b o nb hb=>?_
 have bd:b≠dx:=fun z=>by subst z;rw[aH nb] at z7;rw[z7] at hb;cases hb
 rw[aH nb,aH bd,aH nb]
 exact hb
theorem oM (F:Fn K mg "crossings_of" gj)(T:Txt K mg t)(cv:aV P w K mg base aU 1 "crossing_of" ["one","other"] (AX K)):aV P w K mg base aU 2 "crossings_of" ["lines","others"] (FT K):=by
 refine F.ok fv (fun f bh A outer s H vs Q E hr h=>?_)
 obtain⟨p,q',t1,t2,rfl,h1,h2,b1,b2,q⟩:=h
 obtain⟨r0,r1,r2,hp,e0,e1,e2⟩:=h1
 obtain⟨s0,s1,s2,hq,f0,f1,f2⟩:=h2
 refine⟨_,ah (bQ (i:=2) fv.nd (cE af))
  (ah (fU aaZ rfl (Bs K (pv 0)) (eO (i:=3) fv.nd) (ar (fH (pO abI adD adC mD (pv 2) (aa (bX rfl (aI.gen (cl:=[("one",_)]) ["one"] [3] [(".0",.local),("other",.local),("crossing_of",.globalImplicit),("one",.cell)] rfl) (Bs K (pv 1)) (fun C s0 H0 fp pins=>aq cv hr aB (aa (pv 1) (aa (pv 0) af)))) af)))))
  (ar (aA (pv 2)))),?_⟩
 refine⟨(cz 0),fun cl Wx=>?_⟩
 have g0:=ai Wx (.lst [])
 refine⟨_,rfl,p,rfl,⟨_,hp.up g0⟩,tI (xs:=[.ref r0,.ref r1,.ref r2]) (fun i σ H'=>∃ (ox:Option V) (ws:List V),σ=[some (.ref p),some (.ref q'),some (.ref cl),ox]/\av H H'/\H' cl=some (.lst ws)/\oH H' ws (GO ((FR t1).take i) (FR t2))/\ws.length<=3*i) ⟨none,[],rfl,g0,ag,.nil,aai _⟩ ?_ ?_ ?_⟩
 ·rintro i σ H' hi ⟨ox,ws,rfl,g,_⟩
  exact hp.up g
 ·rintro i v σ H1 hv ⟨ox,ws,rfl,g,yg,tu,len⟩
  have hi:i<3:=(abm.mp hv).1
  obtain⟨z,P,rfl,eP,hz,bz⟩:=Qp e0 e1 e2 b1 hv
  refine⟨_,rfl,.inl ⟨rfl,_,aM.of yg⟩,_,rfl,q',rfl,⟨_,hq.up g⟩,kj (xs:=[.ref s0,.ref s1,.ref s2]) (sC 3) (fun H' g'=>hq.up (g.trans g')) (fun i Cf H'=>oH H' Cf (((FR t2).take i).map (cr P))) (fun _ _=>.nil) ?_ ?_⟩
  ·intro j x Cf H2 acc Q' ex g2 h0 ha r hl k
   obtain⟨y,R,rfl,eR,hy,wC⟩:=Qp f0 f1 f2 b2 ex
   refine⟨_,rfl,_,rfl,z,y,P,R,rfl,hz.up (g.trans g2),hy.up (g.trans g2),bz.cy,wC.cy,fun w H3 g3 hw=>k _ _ g3 ?_⟩
   rw[acD,eR,aaS]
   exact ((r.mono g3).app (.cons hw .nil)).put (g3 _ _ ha)
  ·intro l H2 Cf g2 _ hl _ r
   have I0:=g2 _ _ yg
   have wl:Cf.length=3:=r.len
   refine⟨cl,l,_,_,rfl,rfl,I0,hl,aag (by omega:ws.length+Cf.length<=100) (by decide),some (.ref z),ws++Cf,rfl,Qo (g.trans g2) Wx,ag,?_,by rw[aaT];omega⟩
   have e:GO ((FR t1).take (i+1)) (FR t2)=GO ((FR t1).take i) (FR t2)++(FR t2).map (cr P):=by
    rw[acD,eP]
    simp[GO,List.flatMap_append]
   rw[e]
   exact ((tu.mono g2).app r).put I0
 ·rintro σ H1 ⟨ox,ws,rfl,g,yg,tu,_⟩
  exact⟨_,rfl,q cl H1 ws g yg tu⟩
theorem ve (F:Fn K mg "vertex_of" jP)(T:Txt K mg t)(dH:aV P w K mg base aU 1 "size_of" ["Q"] (qJ))(cg:aV P w K mg base aU 1 "slopes_of" ["Q"] (FH))(dw:aV P w K mg base aU 2 "crossings_of" ["lines","others"] (FT K))(aY:aV P w K mg base aU 3 "lowest_point" ["P"] (qO K)):aV P w K mg base aU 4 "vertex_of" ["Q"] (F2):=by
 refine F.ok jf (fun f bh A outer s H vs Q E hr h=>?_)
 obtain⟨p,F,rfl,hp,bf,qe,q⟩:=h
 refine⟨_,ah (aZ (aE kG (aq dH hr aB (aa (pv 0) af)) ae (aG _)) fN aL)
  (ah (bQ (i:=1) jf.nd (aq cg hr aB (aa (pv 0) af)))
  (ah (bQ (i:=2) jf.nd (aj pP (aj pP (aq dw hr aB (aa (pv 1) (aa (pv 1) af))) (aq dw hr aB (aa (pv 1) (aa (fG (v:=.ref t.gk) rfl T.qF rfl) af)))) (aq dw hr aB (aa (fG (v:=.ref t.gk) rfl T.qF rfl) (aa (fG (v:=.ref t.gk) rfl T.qF rfl) af)))))
  (ar (aA (aq aY hr aB (aa (aO (gF K) (eS rfl (aI.gen (cl:=[]) [] [] [(".0",.local),("crossing",.local),("any",.globalImplicit)] rfl) (xH K (pv 2)) (fun C s0 H0 fp pins=>eN (aS (y6 (K:=K) rfl rfl) rfl T.Qd Qg (aa (pv 0) af)) (fun _=>rfl)) (fun C s0 H0 fp pins=>pv 0)) ae) af)))))),?_⟩
 refine⟨_,rfl,p,F,rfl,hp,bf.mono,rfl,_,rfl,bK (fun c=>?_) (fun c=>?_)⟩
 ·exact absurd qe (fun z=>neT c (aa2 V.int z))
 have z0:sz F=0:=aP (RP c)
 refine⟨_,rfl,p,F,rfl,hp,fun sr H1 g1 hs=>?_⟩
 have xK:IS K H1 sr (sl F):=.of hs
 have J5:∀ H':Hp,IS K H' t.gk Qq:=fun H'=>⟨_,_,_,T.yU.sq _,T.qG.sq _,T.qH.sq _,T.qI.sq _⟩
 have bs:BT 420 (sl F):=(Ax bf).mono
 have ba:BT 420 Qq:=⟨⟨B1,pj,pj⟩,⟨pj,B1,pj⟩,⟨pj,pj,B1⟩⟩
 refine⟨_,rfl,_,rfl,sr,sr,sl F,sl F,rfl,xK,xK,bs,bs,fun l1 H2 v1 g2 vG t1=>?_⟩
 refine⟨_,rfl,sr,t.gk,sl F,Qq,rfl,xK.up g2,J5 _,bs,ba,fun l2 H3 v2 g3 rM t2=>?_⟩
 have n1:v1.length=9:=t1.len
 have n2:v2.length=9:=t2.len
 refine⟨l1,l2,_,_,rfl,rfl,g3 _ _ vG,rM,aag (by omega:v1.length+v2.length<=100) (by decide),fun l3 Y1=>?_⟩
 have g4:=ai Y1 (.lst (v1++v2))
 refine⟨t.gk,t.gk,Qq,Qq,rfl,J5 _,J5 _,ba,ba,fun l4 H5 v4 g5 Y2 t4=>?_⟩
 have n4:v4.length=9:=t4.len
 refine⟨l3,l4,_,_,rfl,rfl,g5 _ _ ag,Y2,aag (by rw[aaT];omega:(v1++v2).length+v4.length<=100) (by decide),fun l5 Y3=>?_⟩
 have g6:=ai Y3 (.lst (v1++v2++v4))
 have tu:oH (upd H5 l5 (.lst (v1++v2++v4))) (v1++v2++v4) (Ih F):=((((t1.mono g3).app t2).mono (g4.trans g5)).app t4).mono g6
 obtain⟨v,ev⟩:=Ii F
 obtain⟨nv,kv⟩:=Ua z0 ev
 have bv:BP 803 v:=(PF bf (abQ.mp (List.mem_of_head? ev)).1).cy
 obtain⟨r,rest,er,jw⟩:=tu.first ev
 have gA:=g1.trans (g2.trans (g3.trans (g4.trans (g5.trans g6))))
 have ND:(upd H5 l5 (.lst (v1++v2++v4))) l5=some (.lst (v1++v2++v4)):=ag
 generalize upd H5 l5 (.lst (v1++v2++v4))=H6 at *
 refine⟨_,rfl,l5,rfl,⟨_,aM.of ND⟩,fJ (xs:=v1++v2++v4) (abv (by rw[aaT,aaT];omega:(v1++v2++v4).length<=100) (by decide)) (RS H6) id (fun H' g=>aM.of (g _ _ ND)) ?_ ?_ ?_⟩
 ·intro i x H' Q' hv g k
  obtain⟨r',P,rfl,eP,hP⟩:=tu.get hv
  have kk:=k H' (av.refl _)
  rw[FQ hP,<- UD] at kk
  exact⟨_,rfl,r',[P.x,P.y,P.z],rfl,aF.of (g _ _ hP),_,rfl,kk⟩
 ·intro i x H' Q' hv e g k
  exact⟨_,rfl,k _ (av.refl _)⟩
 ·intro la H7 g7 h0 NC
  rw[er] at NC
  refine⟨la,_,_,_,rfl,rfl,aM.of NC,JU,false,r,v.x,v.y,v.z,rfl,aF.of (g7 _ _ jw),yW bv.cy,nv,fun z H8 a b c' d g8 h8 o3 p3 d0 ex ey ez=>?_⟩
  have em:v=tm d ⟨a,b,c'⟩:=P3.ext' ⟨ex,ey,ez⟩
  exact q z0 z H8 ⟨a,b,c'⟩ (gA.trans (g7.trans g8)) h8 ⟨o3,p3⟩ ((FD d0 (em▸bv)).cy) (ML d0 (em▸kv))
theorem rf (F:Fn K mg "refuse_flat" hJ)(T:Txt K mg t)(dH:aV P w K mg base aU 1 "size_of" ["Q"] (qJ))(j4:aV P w K mg base aU 4 "vertex_of" ["Q"] (F2))(j6:Lb P w K mg base 1 t.wW ["self","vertex"] (z8 t.c8 "vertex")):aV P w K mg base (XD P w) 5 "refuse_flat" ["Q"] (F4 t.c8):=by
 obtain⟨J6,xl,xm⟩:=id j6
 refine F.K9 qV (fun f bh A outer s H vs Q E hr h=>?_)
 obtain⟨p,F,rfl,hp,bf,q1,q2⟩:=h
 refine⟨_,ar (aZ (aE bB (aq dH hr aB (aa (pv 0) af)) ae (aG _)) (ar (Bq T.IJ xl (hr.mono (show 1+1<=4 by decide)) xm T.Ft rfl (aa (aq j4 hr aB (aa (pv 0) af)) af))) aL),?_⟩
 refine⟨_,rfl,p,F,rfl,hp,bf.mono,rfl,_,rfl,bK (fun c=>?_) (fun c=>?_)⟩
 ·have z0:sz F=0:=aP (cZ c)
  refine⟨_,rfl,p,F,rfl,hp,bf,z0,fun _ r H1 R g1 R1 l3 bp kr=>?_⟩
  refine⟨(cz 1),fun e he=>⟨e,_,rfl,ag,fun dx H2 Wy z7 k=>⟨rfl,dx,Wy,?_⟩⟩⟩
  have ne:dx≠e:=fun z=>by subst z;rw[Wy] at z7;cases z7
  have kp:∀ b o,H1 b=some o->without H2 e b=some o:=fun b o hb=>by
   have nb:=aN hb he
   rw[cJ nb]
   exact k b o nb (by rw[aH nb];exact hb)
  exact q2 z0 dx r _ R (fun b o hb=>kp b o (g1 b o hb)) (by rw[cJ ne];exact z7) (kp _ _ R1) l3 bp kr
 ·exact q1 (fun z=>dX c (aa2 V.int z))
theorem nB (F:Fn K mg "core_of_cores" fq)(T:Txt K mg t)(a5:aV P w K mg base aU 2 "shares_of" ["one","other"] (iG)):aV P w K mg base aU 3 "core_of_cores" ["one","other"] (MM):=by
 refine F.ok iI (fun f bh A outer s H vs Q E hr h=>?_)
 obtain⟨a,b,rfl,sa,sb,ba,bb,q⟩:=h
 refine⟨_,ah (bQ (i:=2) iI.nd (aO (a8 K) (aq a5 hr aB (aa (pv 0) (aa (pv 1) af))) ae))
  (ar (aA (aj au (aj cR (pv 0) (pv 2)) (aj cR (pv 1) (pv 2))))),?_⟩
 have la:a.natAbs<=Lm:=aag ba (by rw[md];exact abV (by decide) (by decide))
 have lb:b.natAbs<=Lm:=aag bb (by rw[md];exact abV (by decide) (by decide))
 refine⟨_,rfl,_,rfl,a,b,rfl,la,lb,fun p H1 g s' t' g1 hp g0 eg ka kb _ _=>?_⟩
 have G:=Jc.PQ sa.n0 g0 eg ka kb
 have gp:=G.pos
 obtain⟨k1,e1⟩:=ka
 obtain⟨k2,e2⟩:=kb
 have gn:g≠0:=by omega
 have f1:a.fdiv g=k1:=by rw[e1];exact adn _ gn
 have f2:b.fdiv g=k2:=by rw[e2];exact adn _ gn
 have lg:g.natAbs<=Lm:=yX la lb eg e1 e2
 have b1:Bd 400 k1:=ib gn (by rw[aao,<- e1];exact ba)
 have b2:Bd 400 k2:=ib gn (by rw[aao,<- e2];exact bb)
 refine⟨p,_,_,_,rfl,rfl,aF.of hp,rfl,_,rfl,_,rfl,_,_,rfl,rfl,⟨gn,lE (by omega)⟩,_,rfl,_,rfl,_,_,rfl,rfl,⟨gn,lE (by omega)⟩,_,_,rfl,rfl,?_,?_⟩
 ·rw[f1,f2]
  exact bV b1 b2
 ·rw[f1,f2]
  exact q _ _ g1 (Jc.PY sa sb G (by rw[aao];exact e1) (by rw[aao];exact e2)) (b1.mul b2)
theorem xn (F:Fn K mg "cores_of" lD)(T:Txt K mg t)(dW:aV P w K mg base aU 3 "core_of" ["number"] (pC))(dP:aV P w K mg base aU 3 "core_of_cores" ["one","other"] (MM)):aV P w K mg base aU 4 "cores_of" ["worths","size"] (uG):=by
 refine F.ok jY (fun f bh A outer s H vs Q E hr h=>?_)
 obtain⟨p,w1,w2,w3,s,m,rfl,hp,mG,E4,s0,b1,b2,bs,em,q⟩:=h
 refine⟨_,ah (bQ (i:=2) jY.nd (aO (a8 K) (aq dW hr aB (aa (aO (gF K) (pv 0) ae) af)) ae))
  (ah (bQ (i:=3) jY.nd (aO (a8 K) (aq dW hr aB (aa (aO (gF K) (pv 0) ae) af)) ae))
  (ar (aA (aJ (aa (pv 2) (aa (pv 3) (aa (aq dP hr aB (aa (aq dP hr aB (aa (pv 2) (aa (pv 3) af))) (aa (aO (a8 K) (aq dW hr aB (aa (pv 1) af)) ae) af))) af))))))),?_⟩
 refine⟨_,rfl,p,_,_,_,rfl,rfl,aM.of hp,rfl,w1,rfl,mG,by omega,by omega,fun p1 xs H1 g1 QI h1=>?_⟩
 obtain⟨B9,e1,r1⟩:=m8 mG QI
 refine⟨p1,_,_,_,rfl,rfl,aF.of h1,rfl,?_⟩
 generalize sgn w1*Pr.cx xs=c1 at *
 generalize Pr.bI xs=u1 at *
 refine⟨_,rfl,p,_,_,_,rfl,rfl,aM.of (g1 _ _ hp),rfl,w2,rfl,E4,by omega,by omega,fun p2 ys H2 g2 QJ h2=>?_⟩
 obtain⟨Ca,e2,r2⟩:=m8 E4 QJ
 refine⟨p2,_,_,_,rfl,rfl,aF.of h2,rfl,?_⟩
 generalize sgn w2*Pr.cx ys=c2 at *
 generalize Pr.bI ys=u2 at *
 have d1:c1∣w1:=⟨_,e1⟩
 have d2:c2∣w2:=⟨_,e2⟩
 have n1:=Jc.iY d1 mG b1
 have n2:=Jc.iY d2 E4 b2
 have bd:∀ {x:Int},x.natAbs<=54000000->Bd 100 x:=fun h=>aag h (by decide)
 refine⟨_,rfl,_,rfl,_,rfl,_,rfl,c1,c2,rfl,B9,Ca,(bd (by omega)).mono (by omega),(bd n2).mono (by omega),fun yC H3 g3 R3 _=>?_⟩
 have Ub:Bd 400 yC:=by
  obtain⟨g,g0,eg⟩:=R3.sq
  have:Bd (100+100) (c1*c2):=(bd (by omega)).mul (bd n2)
  rw[eg,aao] at this
  exact (ib (aay g0 g0) this).mono (by omega)
 refine⟨_,rfl,s,rfl,s0,by omega,by omega,fun p3 zs H4 g4 QK h4=>?_⟩
 obtain⟨CD,e3,r3⟩:=m8 s0 QK
 refine⟨p3,_,_,_,rfl,rfl,aF.of h4,rfl,?_⟩
 generalize sgn s*Pr.cx zs=cs at *
 generalize Pr.bI zs=us at *
 have ds:cs∣s:=⟨_,e3⟩
 have n3:=Jc.iY ds s0 bs
 refine⟨yC,cs,rfl,R3.sf,CD,Ub,(bd (by omega)).mono (by omega),fun c3 H5 g5 k3 _=>?_⟩
 obtain⟨u3,Y4,e4⟩:=Jc.yE e1 e2 e3 mG E4 R3 k3 em
 refine⟨(cz 3),fun r nr=>q r _ c1 c2 c3 u1 u2 u3 (g1.trans (g2.trans (g3.trans (g4.trans (g5.trans (ai nr _)))))) ag B9 Ca k3.sf e1 e2 e4 r1 r2 Y4 fun p' GH hd=>?_⟩
 rcases k3.dv p' GH hd with h|h
 ·rcases R3.dv p' GH h with h|h
  ·exact .inl h
  ·exact .inr (.inl h)
 ·exact .inr (.inr (aah h ds))
theorem xo (F:Fn K mg "plain_of" lC)(T:Txt K mg t)(ie:aV P w K mg base (XD P w) 5 "refuse_flat" ["Q"] (F4 t.c8))(jl:aV P w K mg base aU 5 "corners_of" ["Q"] (MN K))(eV:aV P w K mg base aU 1 "worth_of" ["Q","P"] (A1 K))(dH:aV P w K mg base aU 1 "size_of" ["Q"] (qJ))(lJ:aV P w K mg base aU 4 "cores_of" ["worths","size"] (uG))(nD:aV P w K mg base aU 2 "root_of" ["number"] (uF))(a5:aV P w K mg base aU 2 "shares_of" ["one","other"] (iG))(aY:aV P w K mg base aU 3 "lowest_point" ["P"] (qO K))(j7:aV P w K mg base aU 1 "stretched" ["P","times"] (FI K))(ig:aV P w K mg base aU 1 "turned_over" ["table"] (FV)):aV P w K mg base (XD P w) 6 "plain_of" ["Q"] (uN t.c8):=by
 refine F.K9 bN (fun f bh A outer s H vs Q E hr h=>?_)
 obtain⟨q',F,rfl,hF,in1,qN,qE⟩:=h
 refine⟨_,ah (fH (aq ie hr JB (aa (pv 0) af)))
  (ah (PS.tG (bQ (i:=1) bN.nd (aq jl hr aB (aa (pv 0) af))))
  (ah (PS.tG (jI (k:=2) bN.nd rfl (Or.inl rfl) rfl rfl (aI.gen (cl:=[("Q",_)]) ["Q"] [0] [(".0",.local),("corner",.local),("worth_of",.globalImplicit),("Q",.cell)] rfl) (Bs K (pv 1)) (fun C s0 H0 fp pins=>aq eV hr aB (aa (pv 1) (aa (pv 0) af))) (Or.inl rfl)))
  (ah (PS.tG (bQ (i:=3) bN.nd (aq lJ hr aB (aa (pv 2) (aa (aq dH hr aB (aa (pv 0) af)) af)))))
  (ah (PS.tG (bQ (i:=4) bN.nd (jK rfl (bD.gen (cl:=[]) [] [] [(".0",.local),("worth",.local),("core",.local),("root_of",.globalImplicit)] rfl) (IA rfl T.Fw (aa (pv 2) (aa (pv 3) af))) (fun C s0 H0 fp pins=>aq nD hr aB (aa (aj cR (pv 0) (pv 1)) af)))))
  (ah (PS.tG (bQ (i:=5) bN.nd (wU rfl (cm.gen (cl:=[("cores",_)]) ["cores"] [3] [(".0",.local),("first",.local),("second",.local),("third",.local),("shares_of",.globalImplicit),("cores",.cell)] rfl) (Bs K (fG (v:=.ref t.ja) rfl T.uv rfl)) (fun C s0 H0 fp pins=>aO (a8 K) (aq a5 hr aB (aa (aO (a8 K) (pv 3) (pv 1)) (aa (aO (a8 K) (pv 3) (pv 2)) af))) ae))))
  (ah (PS.tG (Fo (k:=6) bN.nd rfl (Or.inl rfl) rfl rfl (cm.gen (cl:=[("shared",_),("cores",_)]) ["cores","shared"] [3,5] [(".0",.local),("first",.local),("second",.local),("third",.local),("cores",.cell),("shared",.cell)] rfl) (Bs K (fG (v:=.ref t.ja) rfl T.uv rfl)) (fun C s0 H0 fp pins=>aj cR (aj au (aO (a8 K) (pv 3) (pv 0)) (aO (gF K) (pv 4) (pv 0))) (aj au (aO (gF K) (pv 4) (pv 1)) (aO (gF K) (pv 4) (pv 2)))) (Or.inl rfl)))
  (ah (PS.tG (bQ (i:=7) bN.nd (aq aY hr aB (aa (wU rfl (cm.gen (cl:=[("shared",_),("roots",_)]) ["roots","shared"] [4,5] [(".0",.local),("first",.local),("second",.local),("third",.local),("roots",.cell),("shared",.cell)] rfl) (Bs K (fG (v:=.ref t.ja) rfl T.uv rfl)) (fun C s0 H0 fp pins=>aj au (aj au (aO (gF K) (pv 4) (pv 0)) (aO (gF K) (pv 3) (pv 1))) (aO (gF K) (pv 3) (pv 2)))) af))))
  (ah (PS.tG (bQ (i:=8) bN.nd (aj cR (aj au (aj au (aO (gF K) (pv 2) ae) (aO (a8 K) (pv 7) ae)) (aO (a8 K) (pv 7) ae)) (aO (gF K) (pv 6) ae))))
  (ah (PS.tG (DP (k:=9) bN.nd rfl (Or.inl rfl) rfl rfl (bD.gen (cl:=[]) [] [] [(".0",.local),("corner",.local),("stretch",.local),("stretched",.globalImplicit)] rfl) (DO rfl T.Fw (aa (pv 1) (aa (pv 7) af))) (fun C s0 H0 fp pins=>aq j7 hr aB (aa (pv 0) (aa (pv 1) af))) (Or.inl rfl)))
  (ar (PS.tG (aA (aJ (aa (aq ig hr aB (aa (pv 9) af)) (aa (pv 8) (aa (cT cU rfl T.jb jc (aa (pv 6) af)) af)))))))))))))))),?_⟩
 have tk:∀ H':Hp,aF K H' t.ja [.ref t.gq,.ref t.gu,.ref t.gv]:=fun H'=>T.IH.sq _
 have UT:∀ (H0:Hp) (i:Nat) (x:V),([.ref t.gq,.ref t.gu,.ref t.gv]:List V)[i]?=some x->∃ u:Addr,x=.ref u/\∀ H',av H0 H'->aF K H' u [RT i,RU i,RV i]:=fun H0 i x ex=>by
  match i,ex with
  | 0,ex=>exact⟨_,(aac ex).symm,fun H' _=>T.BX.sq _⟩
  | 1,ex=>exact⟨_,(aac ex).symm,fun H' _=>T.BY.sq _⟩
  | 2,ex=>exact⟨_,(aac ex).symm,fun H' _=>T.BZ.sq _⟩
  | n+3,ex=>cases ex
 have bf:BF 600 F:=in1.bf.mono
 refine⟨_,rfl,q',F,rfl,hF,in1.bf.mono,fun ns=>?_,qE⟩
 have q:=qN ns
 refine⟨_,rfl,q',F,rfl,hF,in1,ns,fun co r0 r1 r2 H1 P1 R S g1 UU h0 h1 h2 C wP wR bP bR bS=>?_⟩
 have PD:=g1 _ _ hF
 -- worths
 have tu:og K H1 [.ref r0,.ref r1,.ref r2] [P1,R,S]:=.cons h0 (.cons h1 (.cons h2 .nil))
 refine⟨_,rfl,co,rfl,⟨_,aF.of UU⟩,kj (xs:=[.ref r0,.ref r1,.ref r2]) (sC 3) (fun H' g=>aF.of (g _ _ UU)) (fun i ws _=>ws=([.int (wo F P1),.int (wo F R),.int (wo F S)]:List V).take i) (fun _ _=>rfl) ?_ ?_⟩
 ·intro i x vs H' acc Q' ex g _ ha rr hv k
  obtain⟨r,A',rfl,eA,hA⟩:=tu.get ex
  have bA:BP 600 A':=by
   have hm:=aaV eA
   simp only[aaf,aaF,abN] at hm
   rcases hm with rfl|rfl|rfl
   ·exact bP.cy
   ·exact bR.cy
   ·exact bS.cy
  refine⟨_,rfl,_,rfl,q',r,F,A',rfl,g _ _ PD,hA.up g,bf,bA,fun H2 g2=>k _ _ g2 ?_⟩
  have eW:([.int (wo F P1),.int (wo F R),.int (wo F S)]:List V)[i]?=some (.int (wo F A')):=by
   have:([P1,R,S].map fun A=>V.int (wo F A))[i]?=some (.int (wo F A')):=by rw[aaB,eA];rfl
   exact this
  rw[acD,eW,rr]
  rfl
 intro wl H2 ws g2 _ hw _ rr
 have R4:H2 wl=some (.lst [.int (wo F P1),.int (wo F R),.int (wo F S)]):=by rw[hw,rr];rfl
 have MY:=g1.trans g2
 -- cores
 refine⟨_,rfl,_,rfl,q',F,rfl,MY _ _ hF,bf,wl,wo F P1,wo F R,wo F S,sz F,me ⟨P1,R,S⟩,rfl,R4,C.w1,C.w2,ns,wP,wR,E9 in1,C.prod,fun cl H3 c1 c2 c3 u1 u2 u3 g3 hc B9 Ca CD x1 x2 x3 v1 v2 Y5 dv=>?_⟩
 have QL:Bd 220 (wo F P1):=(Er in1.bf bP).mono (by omega)
 have Wz:Bd 220 (wo F R):=(Er in1.bf bR).mono (by omega)
 have WA:Bd 220 (wo F S):=(Er in1.bf bS).mono (by omega)
 have QM:Bd 220 c1:=je ⟨_,x1⟩ C.w1 QL
 have QN:Bd 220 c2:=je ⟨_,x2⟩ C.w2 Wz
 have QO:Bd 220 c3:=je ⟨_,x3⟩ C.w3 WA
 have WB:Bd 220 (u1*u1):=je ⟨c1,by rw[aao];exact x1⟩ C.w1 QL
 have WC:Bd 220 (u2*u2):=je ⟨c2,by rw[aao];exact x2⟩ C.w2 Wz
 have WD:Bd 220 (u3*u3):=je ⟨c3,by rw[aao];exact x3⟩ C.w3 WA
 have lg:∀ {x:Int},Bd 900 x->x.natAbs.log2<9000:=fun {x} h=>lE (aag h (by rw[md];exact aag (abV (by decide) (by decide:900<=1000)) (by omega)))
 have lm:∀ {x:Int},Bd 220 x->x.natAbs<=Lm:=fun {x} h=>aag h (by rw[md];exact abV (by decide) (by decide))
 -- roots
 refine⟨_,rfl,_,rfl,wl,cl,_,_,rfl,aM.of (g3 _ _ R4),aF.of hc,wV (xs:=[.int (wo F P1),.int (wo F R),.int (wo F S)]) (ys:=[.int c1,.int c2,.int c3]) (fun H' g=>aM.of (g _ _ (g3 _ _ R4))) (fun H' g=>aF.of (g _ _ hc)) rfl (sC 3)
  (fun i vs _=>vs=([.int u1,.int u2,.int u3]:List V).take i) (fun _ _=>rfl) (fun _ _ _ _ _ h=>h) ?_ ?_⟩
 ·intro i x y vs H' acc Q' ex ey g _ ha rr hv k
  match i,ex,ey,rr with
  | 0,ex,ey,rr=>
   obtain rfl:V.int (wo F P1)=x:=aac ex
   obtain rfl:V.int c1=y:=aac ey
   have f:(wo F P1).fdiv c1=u1*u1:=by rw[x1];exact abD _ B9.n0
   exact⟨_,rfl,_,rfl,_,_,rfl,rfl,⟨B9.n0,lg (QM.mono (by omega))⟩,u1,(by show [V.int ((wo F P1).fdiv c1)]=_;rw[f]),v1,(jd (WB.mono (by omega))).2,k _ _ (av.refl _) (by rw[rr];rfl)⟩
  | 1,ex,ey,rr=>
   obtain rfl:V.int (wo F R)=x:=aac ex
   obtain rfl:V.int c2=y:=aac ey
   have f:(wo F R).fdiv c2=u2*u2:=by rw[x2];exact abD _ Ca.n0
   exact⟨_,rfl,_,rfl,_,_,rfl,rfl,⟨Ca.n0,lg (QN.mono (by omega))⟩,u2,(by show [V.int ((wo F R).fdiv c2)]=_;rw[f]),v2,(jd (WC.mono (by omega))).2,k _ _ (av.refl _) (by rw[rr];rfl)⟩
  | 2,ex,ey,rr=>
   obtain rfl:V.int (wo F S)=x:=aac ex
   obtain rfl:V.int c3=y:=aac ey
   have f:(wo F S).fdiv c3=u3*u3:=by rw[x3];exact abD _ CD.n0
   exact⟨_,rfl,_,rfl,_,_,rfl,rfl,⟨CD.n0,lg (QO.mono (by omega))⟩,u3,(by show [V.int ((wo F S).fdiv c3)]=_;rw[f]),Y5,(jd (WD.mono (by omega))).2,k _ _ (av.refl _) (by rw[rr];rfl)⟩
  | n+3,ex,ey,rr=>cases ex
 intro rl H4 us g4 _ Y6 _ rr
 have UW:H4 rl=some (.lst [.int u1,.int u2,.int u3]):=by rw[Y6,rr];rfl
 have WE:=g4 _ _ hc
 -- shared
 have G1:=nq (b:=c3) Ca.n0
 have G2:=nq (b:=c1) CD.n0
 have G3:=nq (b:=c2) B9.n0
 refine⟨t.ja,rfl,⟨_,tk _⟩,lq (xs:=[.ref t.gq,.ref t.gu,.ref t.gv]) (fun H' _=>tk H') (sC 3) RT RU RV (UE (Int.gcd c2 c3:Int) (Int.gcd c3 c1:Int) (Int.gcd c1 c2:Int)) (UT _) ?_ ?_⟩
 ·intro i H' Q' hi g k
  have nL:=g _ _ WE
  obtain rfl|rfl|rfl:=RW hi
  ·exact⟨_,rfl,_,rfl,cl,_,_,_,rfl,rfl,aF.of nL,rfl,_,rfl,_,rfl,cl,_,_,_,rfl,rfl,aF.of nL,rfl,c2,c3,rfl,lm QN,lm QO,fun p H2 g s' t' g2 hp g0 eg ka kb _ _=>⟨p,_,_,_,rfl,rfl,aF.of hp,rfl,by
    rw[za g0 eg ka kb]
    exact k _ g2⟩⟩
  ·exact⟨_,rfl,_,rfl,cl,_,_,_,rfl,rfl,aF.of nL,rfl,_,rfl,_,rfl,cl,_,_,_,rfl,rfl,aF.of nL,rfl,c3,c1,rfl,lm QO,lm QM,fun p H2 g s' t' g2 hp g0 eg ka kb _ _=>⟨p,_,_,_,rfl,rfl,aF.of hp,rfl,by
    rw[za g0 eg ka kb]
    exact k _ g2⟩⟩
  ·exact⟨_,rfl,_,rfl,cl,_,_,_,rfl,rfl,aF.of nL,rfl,_,rfl,_,rfl,cl,_,_,_,rfl,rfl,aF.of nL,rfl,c1,c2,rfl,lm QM,lm QN,fun p H2 g s' t' g2 hp g0 eg ka kb _ _=>⟨p,_,_,_,rfl,rfl,aF.of hp,rfl,by
    rw[za g0 eg ka kb]
    exact k _ g2⟩⟩
 intro vH H5 g5 _ Y7
 have QP:H5 vH=some (.lst [.int (Int.gcd c2 c3:Int),.int (Int.gcd c3 c1:Int),.int (Int.gcd c1 c2:Int)]):=Y7
 obtain⟨q1,e1⟩:=Jc.ui B9 G1 G2 G3
 obtain⟨q2,e2⟩:=Jc.ui Ca G2 G3 G1
 obtain⟨q3,e3⟩:=Jc.ui CD G3 G1 G2
 rw[aao _ q1] at e1
 rw[aao _ q2] at e2
 rw[aao _ q3] at e3
 have p1:=G1.pos
 have p2:=G2.pos
 have p3:=G3.pos
 have Ka:Bd 220 (Int.gcd c2 c3:Int):=je G1.da Ca.n0 QN
 have Kb:Bd 220 (Int.gcd c3 c1:Int):=je G2.da CD.n0 QO
 have Kc:Bd 220 (Int.gcd c1 c2:Int):=je G3.da B9.n0 QM
 obtain⟨n1,n2,n3⟩:=Jc.Mk B9 Ca CD G1 G2 G3 e1 e2 e3 ⟨_,x1⟩ ⟨_,x2⟩ dv C.w1 C.w2 ns wP wR (E9 in1)
 have al:∀ {L s1 s2 s3:Int},_:=fun {L s1 s2 s3}=>IU (L:=L) (s1:=s1) (s2:=s2) (s3:=s3) C B9 Ca CD x1 x2 x3 e1 e2 e3
 generalize (Int.gcd c2 c3:Int)=d1 at *
 generalize (Int.gcd c3 c1:Int)=d2 at *
 generalize (Int.gcd c1 c2:Int)=d3 at *
 have UX:d2*d3≠0:=aay (by omega) (by omega)
 have WG:d3*d1≠0:=aay (by omega) (by omega)
 have WH:d1*d2≠0:=aay (by omega) (by omega)
 have Y8:=g5 _ _ WE
 have UY:=g5 _ _ UW
 -- plain
 refine⟨t.ja,rfl,⟨_,tk _⟩,lq (xs:=[.ref t.gq,.ref t.gu,.ref t.gv]) (fun H' _=>tk H') (sC 3) RT RU RV (UE q1 q2 q3) (UT _) ?_ ?_⟩
 ·intro i H' Q' hi g k
  have nL:=g _ _ Y8
  have fF:=g _ _ QP
  obtain rfl|rfl|rfl:=RW hi
  ·exact⟨_,rfl,_,rfl,cl,_,_,_,rfl,rfl,aF.of nL,rfl,_,rfl,_,rfl,vH,_,_,_,rfl,rfl,aM.of fF,rfl,_,_,rfl,rfl,bV QM Ka,_,rfl,_,rfl,vH,_,_,_,rfl,rfl,aM.of fF,rfl,_,rfl,_,rfl,vH,_,_,_,rfl,rfl,aM.of fF,rfl,_,_,rfl,rfl,bV Kb Kc,_,_,rfl,rfl,⟨UX,lg ((Kb.mul Kc).mono (by omega))⟩,by
    show Q' (V.int ((c1*d1).fdiv (d2*d3))) H'
    rw[uI UX e1]
    exact k _ (av.refl _)⟩
  ·exact⟨_,rfl,_,rfl,cl,_,_,_,rfl,rfl,aF.of nL,rfl,_,rfl,_,rfl,vH,_,_,_,rfl,rfl,aM.of fF,rfl,_,_,rfl,rfl,bV QN Kb,_,rfl,_,rfl,vH,_,_,_,rfl,rfl,aM.of fF,rfl,_,rfl,_,rfl,vH,_,_,_,rfl,rfl,aM.of fF,rfl,_,_,rfl,rfl,bV Kc Ka,_,_,rfl,rfl,⟨WG,lg ((Kc.mul Ka).mono (by omega))⟩,by
    show Q' (V.int ((c2*d2).fdiv (d3*d1))) H'
    rw[uI WG e2]
    exact k _ (av.refl _)⟩
  ·exact⟨_,rfl,_,rfl,cl,_,_,_,rfl,rfl,aF.of nL,rfl,_,rfl,_,rfl,vH,_,_,_,rfl,rfl,aM.of fF,rfl,_,_,rfl,rfl,bV QO Kc,_,rfl,_,rfl,vH,_,_,_,rfl,rfl,aM.of fF,rfl,_,rfl,_,rfl,vH,_,_,_,rfl,rfl,aM.of fF,rfl,_,_,rfl,rfl,bV Ka Kb,_,_,rfl,rfl,⟨WH,lg ((Ka.mul Kb).mono (by omega))⟩,by
    show Q' (V.int ((c3*d3).fdiv (d1*d2))) H'
    rw[uI WH e3]
    exact k _ (av.refl _)⟩
 intro pl H6 g6 _ kH
 have La:H6 pl=some (.lst [.int q1,.int q2,.int q3]):=kH
 have Y9:=g6 _ _ QP
 have UZ:=g6 _ _ UY
 have QR:=FY WB
 have QS:=FY WC
 have QT:=FY WD
 -- stretches
 refine⟨t.ja,rfl,⟨_,tk _⟩,lq (xs:=[.ref t.gq,.ref t.gu,.ref t.gv]) (fun H' _=>tk H') (sC 3) RT RU RV (UE (d1*u2*u3) (d2*u3*u1) (d3*u1*u2)) (UT _) ?_ ?_⟩
 ·intro i H' Q' hi g k
  have fF:=g _ _ Y9
  have jw:=g _ _ UZ
  obtain rfl|rfl|rfl:=RW hi
  ·exact⟨_,rfl,_,rfl,vH,_,_,_,rfl,rfl,aM.of fF,rfl,_,rfl,_,rfl,rl,_,_,_,rfl,rfl,aM.of jw,rfl,_,_,rfl,rfl,bV Ka QS,_,rfl,_,rfl,rl,_,_,_,rfl,rfl,aM.of jw,rfl,_,_,rfl,rfl,bV (Ka.mul QS) QT,k _ (av.refl _)⟩
  ·exact⟨_,rfl,_,rfl,vH,_,_,_,rfl,rfl,aM.of fF,rfl,_,rfl,_,rfl,rl,_,_,_,rfl,rfl,aM.of jw,rfl,_,_,rfl,rfl,bV Kb QT,_,rfl,_,rfl,rl,_,_,_,rfl,rfl,aM.of jw,rfl,_,_,rfl,rfl,bV (Kb.mul QT) QR,k _ (av.refl _)⟩
  ·exact⟨_,rfl,_,rfl,vH,_,_,_,rfl,rfl,aM.of fF,rfl,_,rfl,_,rfl,rl,_,_,_,rfl,rfl,aM.of jw,rfl,_,_,rfl,rfl,bV Kc QR,_,rfl,_,rfl,rl,_,_,_,rfl,rfl,aM.of jw,rfl,_,_,rfl,rfl,bV (Kc.mul QR) QS,k _ (av.refl _)⟩
 intro CA H7 g7 _ oQ
 have U0:H7 CA=some (.lst [.int (d1*u2*u3),.int (d2*u3*u1),.int (d3*u1*u2)]):=oQ
 have Za:u2≠0:=fun z=>C.w2 (by rw[x2,z];simp)
 have Zb:u3≠0:=fun z=>C.w3 (by rw[x3,z];simp)
 have WI:Bd 660 (d1*u2*u3):=((Ka.mul QS).mul QT).mono (by omega)
 have WJ:Bd 660 (d2*u3*u1):=((Kb.mul QT).mul QR).mono (by omega)
 have WK:Bd 660 (d3*u1*u2):=((Kc.mul QR).mul QS).mono (by omega)
 refine⟨true,CA,_,_,_,rfl,aM.of U0,⟨jd (WI.mono (by omega)),jd (WJ.mono (by omega)),jd (WK.mono (by omega))⟩,.inl (aay (aay (by omega) Za) Zb),fun sr H8 s1 s2 s3 L g8 Zc _ _ L0 l1 l2 l3=>?_⟩
 obtain⟨_,k0,rfl,m0,WL,U1⟩:=al L0 l1 l2 l3
 have MZ:Bd 660 s1:=ib L0 (l1▸WI)
 have QU:Bd 660 s2:=ib L0 (l2▸WJ)
 have WM:Bd 660 s3:=ib L0 (l3▸WK)
 have Ja:H8 sr=some (.tup [.int s1,.int s2,.int s3]):=Zc
 have WN:=g3.trans (g4.trans (g5.trans (g6.trans (g7.trans g8))))
 have Zd:=WN _ _ R4
 have QV:=(g7.trans g8) _ _ La
 have Ze:Bd 900 q1:=aag n1 (by decide +kernel)
 -- scale
 refine⟨_,rfl,wl,_,_,_,rfl,rfl,aM.of Zd,rfl,_,rfl,sr,_,_,_,rfl,rfl,aF.of Ja,rfl,_,_,rfl,rfl,bV QL MZ,_,rfl,sr,_,_,_,rfl,rfl,aF.of Ja,rfl,_,_,rfl,rfl,bV (QL.mul MZ) MZ,_,rfl,pl,_,_,_,rfl,rfl,aM.of QV,rfl,_,_,rfl,rfl,⟨U1.a0,lg Ze⟩,?_⟩
 -- columns
 have QW:=g2.trans WN
 have QX:=QW _ _ UU
 refine⟨_,rfl,_,rfl,co,sr,_,_,rfl,aF.of QX,aF.of Ja,yP (xs:=[.ref r0,.ref r1,.ref r2]) (ys:=[.int s1,.int s2,.int s3]) (fun H' g=>aF.of (g _ _ QX)) (fun H' g=>aF.of (g _ _ Ja)) rfl (sC 3)
  (fun i vs H'=>oH H' vs ([tm s1 P1,tm s2 R,tm s3 S].take i)) (fun _ _=>.nil) (fun _ _ _ _ g h=>h.mono g) ?_ ?_⟩
 ·intro i x y vs H' acc Q' ex ey g _ ha rr hv kk
  match i,ex,ey,rr with
  | 0,ex,ey,rr=>
   obtain rfl:V.ref r0=x:=aac ex
   obtain rfl:V.int s1=y:=aac ey
   refine⟨_,rfl,_,rfl,r0,P1,s1,rfl,(h0.up QW).up g,bP.cy,MZ.mono (by omega),fun z H2 g2 hz=>kk _ _ g2 ?_⟩
   rw[FF] at hz
   exact ((rr.mono g2).app (.cons hz .nil)).put (g2 _ _ ha)
  | 1,ex,ey,rr=>
   obtain rfl:V.ref r1=x:=aac ex
   obtain rfl:V.int s2=y:=aac ey
   refine⟨_,rfl,_,rfl,r1,R,s2,rfl,(h1.up QW).up g,bR.cy,QU.mono (by omega),fun z H2 g2 hz=>kk _ _ g2 ?_⟩
   rw[FF] at hz
   exact ((rr.mono g2).app (.cons hz .nil)).put (g2 _ _ ha)
  | 2,ex,ey,rr=>
   obtain rfl:V.ref r2=x:=aac ex
   obtain rfl:V.int s3=y:=aac ey
   refine⟨_,rfl,_,rfl,r2,S,s3,rfl,(h2.up QW).up g,bS.cy,WM.mono (by omega),fun z H2 g2 hz=>kk _ _ g2 ?_⟩
   rw[FF] at hz
   exact ((rr.mono g2).app (.cons hz .nil)).put (g2 _ _ ha)
  | n+3,ex,ey,rr=>cases ex
 intro Zf H9 vs g9 _ I0 _ rr
 have IZ:oH H9 vs [tm s1 P1,tm s2 R,tm s3 S]:=rr
 cases IZ with
 | cons t0 IZ=>
  cases IZ with
  | cons t1 IZ=>
   cases IZ with
   | cons t2 IZ=>
    cases IZ
    refine⟨_,rfl,Zf,⟨tm s1 P1,tm s2 R,tm s3 S⟩,rfl,⟨_,_,_,I0,t0,t1,t2⟩,fun ta Bv Mh OO=>?_⟩
    have QY:=(g9.trans Mh) _ _ QV
    refine⟨_,rfl,_,rfl,pl,_,rfl,.inl ⟨aM.of QY,fun pr Zg=>?_⟩⟩
    have WO:=ai Zg (.tup [.int q1,.int q2,.int q3])
    refine⟨(cz 3),fun p np=>?_⟩
    have gp:=ai np (.tup [.ref ta,.int ((wo F P1*s1*s1).fdiv q1),.ref pr])
    have bt:BT 800 (tr ⟨tm s1 P1,tm s2 R,tm s3 S⟩):=Es ⟨(FE MZ bP).cy,(FE QU bR).cy,(FE WM bS).cy⟩
    have bk:Bd 1540 ((wo F P1*s1*s1).fdiv q1):=by
     have e:((wo F P1*s1*s1).fdiv q1)*q1=wo F P1*s1*s1:=by
      have:=aa2 F6.a WL
      rw[E5 C] at this
      exact this.symm
     have:Bd (220+660+660) (q1*((wo F P1*s1*s1).fdiv q1)):=by rw[aao,e];exact (QL.mul MZ).mul MZ
     exact ib U1.a0 this
    exact q p ta pr _ _ _ q1 q2 q3 (g1.trans (QW.trans (g9.trans (Mh.trans (WO.trans gp))))) ag ((OO.mono WO).mono gp) (gp _ _ ag) k0 m0 WL U1 n1 n2 n3 bt bk
theorem QZ (F:Fn K mg "_law_of" Mr)(T:Txt K mg t) :aV P w K mg base aU 1 "_law_of" ["_law_script","_law_k"] (MF K):=by
 refine F.ok Qz (fun f bh A outer s H vs Q E hr h=>?_)
 obtain⟨a,ns,k,rfl,hS,h0,h1,q⟩:=h
 refine⟨_,ah (aZ (aE jC (pv 1) (aS iO rfl T.Fu aeM (aa (pv 0) af)) (aG _)) (ar (aA (aO (gF K) (pv 0) (pv 1)))) aL)
  (ar (aA (aj bG (aj au ae (pv 1)) ae))),?_⟩
 refine⟨_,rfl,_,rfl,a,_,rfl,.inl hS,_,_,rfl,rfl,_,rfl,?_⟩
 refine bK (fun c=>?_) (fun c=>?_)
 ·exact⟨_,rfl,_,rfl,a,_,_,_,rfl,rfl,hS,cell_in h0 (cZ c),q _⟩
 ·exact⟨_,rfl,_,_,rfl,rfl,rV (by omega) (by omega),_,_,rfl,rfl,q _⟩
theorem Gk (F:Fn K mg "_law_drawn" uo)(T:Txt K mg t) :aV P w K mg base aU 1 "_law_drawn" ["_law_cell","_law_prime","_law_many"] (mj):=by
 refine F.ok xi (fun f bh A outer s H vs Q E hr h=>?_)
 obtain⟨c,p,m,rfl,p0,p1,m0,q⟩:=h
 refine⟨_,ah (bQ (i:=3) xi.nd (aj bG (aj bj (pv 0) (pv 1)) ae))
  (ar (aA (aj bj (aj bj (aj bG (aj au (aj au (pv 3) (pv 3)) (pv 3)) (aj au ae (pv 3))) ae) (pv 2)))),?_⟩
 refine⟨_,rfl,_,rfl,_,_,rfl,rfl,p0,_,_,rfl,rfl,?_⟩
 have h1:=aba c (show p≠0 by omega)
 have h2:=abJ c p0
 refine⟨_,rfl,_,rfl,_,_,rfl,rfl,rV (by omega) (by omega),_,rfl,_,_,rfl,rfl,rV (by omega) (by omega),_,rfl,_,_,rfl,rfl,rV (by omega) (by omega),_,_,rfl,rfl,_,_,rfl,rfl,(by show (0:Int)<999983;decide),_,rfl,_,_,rfl,rfl,m0,?_⟩
 exact q _ (aba _ (by omega)) (abJ _ m0)
theorem vf (F:Fn K mg "_law_row_times" jU)(T:Txt K mg t) :aV P w K mg base aU 1 "_law_row_times" ["_law_row","_law_other"] (MG):=by
 refine F.ok uS (fun f bh A outer s H vs Q E hr h=>?_)
 obtain⟨p,q',r,t',rfl,hp,hq,br,bt,q⟩:=h
 refine⟨_,ar (aA (DL rfl (ck.gen (cl:=[("_law_row",_),("_law_other",_)]) ["_law_other","_law_row"] [1,0] [(".0",.local),("_law_m",.cell),("sum",.globalImplicit),("range",.globalImplicit),("_law_other",.cell),("_law_row",.cell)] rfl) (cD rfl T.eF (aa ae af)) (fun C s0 H0 fp pins=>aS (pY rfl) rfl T.Fv Fz (aa (bX rfl (aI.gen (cl:=[("_law_row",_),("_law_other",_),("_law_m",_)]) ["_law_m","_law_other","_law_row"] [0,1,2] [(".0",.local),("_law_k",.local),("_law_m",.cell),("_law_other",.cell),("_law_row",.cell)] rfl) (cD rfl T.eF (aa ae af)) (fun C s0 H0 fp pins=>aj au (aO (gF K) (pv 3) (pv 0)) (aO (JD K) (aO (JD K) (pv 2) (pv 0)) (pv 1)))) af)))),?_⟩
 have bt':=Es bt
 refine⟨3,rfl,by decide,by decide,gN 3 (by decide) (fun m=>.int ([(rt r t').x,(rt r t').y,(rt r t').z].getD m 0)) ?_ (fun z H' g nz hz=>q z H' g nz hz)⟩
 intro m H' Q' hm g k
 have GQ:=g _ _ hp
 refine⟨3,rfl,by decide,by decide,gN 3 (by decide) (fun j=>.int ([r.x*([t'.r0.x,t'.r0.y,t'.r0.z].getD m 0),r.y*([t'.r1.x,t'.r1.y,t'.r1.z].getD m 0),r.z*([t'.r2.x,t'.r2.y,t'.r2.z].getD m 0)].getD j 0)) ?_ ?_⟩
 ·intro j H2 Q2 hj g2 tq
  have q8:=g2 _ _ GQ
  rcases hq with hq|⟨r0,r1,r2,hq,h0,h1,h2⟩
  ·obtain⟨r0,r1,r2,Jb,h0,h1,h2⟩:=(hq.mono g).mono g2
   obtain rfl|rfl|rfl:m=0\/m=1\/m=2:=by omega
   ·obtain rfl|rfl|rfl:j=0\/j=1\/j=2:=by omega
    ·exact⟨_,rfl,_,rfl,p,_,_,_,rfl,rfl,aM.of q8,rfl,_,rfl,_,rfl,.inr (.inl ⟨q',_,_,_,rfl,rfl,aF.of Jb,rfl,_,rfl,.inr (.inl ⟨r0,_,_,_,rfl,rfl,aF.of h0,rfl,_,_,rfl,rfl,bV br.x bt.r0.x,tq _ (av.refl _)⟩)⟩)⟩
    ·exact⟨_,rfl,_,rfl,p,_,_,_,rfl,rfl,aM.of q8,rfl,_,rfl,_,rfl,.inr (.inl ⟨q',_,_,_,rfl,rfl,aF.of Jb,rfl,_,rfl,.inr (.inl ⟨r1,_,_,_,rfl,rfl,aF.of h1,rfl,_,_,rfl,rfl,bV br.y bt.r1.x,tq _ (av.refl _)⟩)⟩)⟩
    ·exact⟨_,rfl,_,rfl,p,_,_,_,rfl,rfl,aM.of q8,rfl,_,rfl,_,rfl,.inr (.inl ⟨q',_,_,_,rfl,rfl,aF.of Jb,rfl,_,rfl,.inr (.inl ⟨r2,_,_,_,rfl,rfl,aF.of h2,rfl,_,_,rfl,rfl,bV br.z bt.r2.x,tq _ (av.refl _)⟩)⟩)⟩
   ·obtain rfl|rfl|rfl:j=0\/j=1\/j=2:=by omega
    ·exact⟨_,rfl,_,rfl,p,_,_,_,rfl,rfl,aM.of q8,rfl,_,rfl,_,rfl,.inr (.inl ⟨q',_,_,_,rfl,rfl,aF.of Jb,rfl,_,rfl,.inr (.inl ⟨r0,_,_,_,rfl,rfl,aF.of h0,rfl,_,_,rfl,rfl,bV br.x bt.r0.y,tq _ (av.refl _)⟩)⟩)⟩
    ·exact⟨_,rfl,_,rfl,p,_,_,_,rfl,rfl,aM.of q8,rfl,_,rfl,_,rfl,.inr (.inl ⟨q',_,_,_,rfl,rfl,aF.of Jb,rfl,_,rfl,.inr (.inl ⟨r1,_,_,_,rfl,rfl,aF.of h1,rfl,_,_,rfl,rfl,bV br.y bt.r1.y,tq _ (av.refl _)⟩)⟩)⟩
    ·exact⟨_,rfl,_,rfl,p,_,_,_,rfl,rfl,aM.of q8,rfl,_,rfl,_,rfl,.inr (.inl ⟨q',_,_,_,rfl,rfl,aF.of Jb,rfl,_,rfl,.inr (.inl ⟨r2,_,_,_,rfl,rfl,aF.of h2,rfl,_,_,rfl,rfl,bV br.z bt.r2.y,tq _ (av.refl _)⟩)⟩)⟩
   ·obtain rfl|rfl|rfl:j=0\/j=1\/j=2:=by omega
    ·exact⟨_,rfl,_,rfl,p,_,_,_,rfl,rfl,aM.of q8,rfl,_,rfl,_,rfl,.inr (.inl ⟨q',_,_,_,rfl,rfl,aF.of Jb,rfl,_,rfl,.inr (.inl ⟨r0,_,_,_,rfl,rfl,aF.of h0,rfl,_,_,rfl,rfl,bV br.x bt.r0.z,tq _ (av.refl _)⟩)⟩)⟩
    ·exact⟨_,rfl,_,rfl,p,_,_,_,rfl,rfl,aM.of q8,rfl,_,rfl,_,rfl,.inr (.inl ⟨q',_,_,_,rfl,rfl,aF.of Jb,rfl,_,rfl,.inr (.inl ⟨r1,_,_,_,rfl,rfl,aF.of h1,rfl,_,_,rfl,rfl,bV br.y bt.r1.z,tq _ (av.refl _)⟩)⟩)⟩
    ·exact⟨_,rfl,_,rfl,p,_,_,_,rfl,rfl,aM.of q8,rfl,_,rfl,_,rfl,.inr (.inl ⟨q',_,_,_,rfl,rfl,aF.of Jb,rfl,_,rfl,.inr (.inl ⟨r2,_,_,_,rfl,rfl,aF.of h2,rfl,_,_,rfl,rfl,bV br.z bt.r2.z,tq _ (av.refl _)⟩)⟩)⟩
  ·obtain rfl|rfl|rfl:m=0\/m=1\/m=2:=by omega
   ·obtain rfl|rfl|rfl:j=0\/j=1\/j=2:=by omega
    ·exact⟨_,rfl,_,rfl,p,_,_,_,rfl,rfl,aM.of q8,rfl,_,rfl,_,rfl,.inl ⟨q',_,_,_,rfl,rfl,aM.of (g2 _ _ (g _ _ hq)),rfl,_,rfl,.inl ⟨r0,_,_,_,rfl,rfl,aM.of (g2 _ _ (g _ _ h0)),rfl,_,_,rfl,rfl,bV br.x bt.r0.x,tq _ (av.refl _)⟩⟩⟩
    ·exact⟨_,rfl,_,rfl,p,_,_,_,rfl,rfl,aM.of q8,rfl,_,rfl,_,rfl,.inl ⟨q',_,_,_,rfl,rfl,aM.of (g2 _ _ (g _ _ hq)),rfl,_,rfl,.inl ⟨r1,_,_,_,rfl,rfl,aM.of (g2 _ _ (g _ _ h1)),rfl,_,_,rfl,rfl,bV br.y bt.r1.x,tq _ (av.refl _)⟩⟩⟩
    ·exact⟨_,rfl,_,rfl,p,_,_,_,rfl,rfl,aM.of q8,rfl,_,rfl,_,rfl,.inl ⟨q',_,_,_,rfl,rfl,aM.of (g2 _ _ (g _ _ hq)),rfl,_,rfl,.inl ⟨r2,_,_,_,rfl,rfl,aM.of (g2 _ _ (g _ _ h2)),rfl,_,_,rfl,rfl,bV br.z bt.r2.x,tq _ (av.refl _)⟩⟩⟩
   ·obtain rfl|rfl|rfl:j=0\/j=1\/j=2:=by omega
    ·exact⟨_,rfl,_,rfl,p,_,_,_,rfl,rfl,aM.of q8,rfl,_,rfl,_,rfl,.inl ⟨q',_,_,_,rfl,rfl,aM.of (g2 _ _ (g _ _ hq)),rfl,_,rfl,.inl ⟨r0,_,_,_,rfl,rfl,aM.of (g2 _ _ (g _ _ h0)),rfl,_,_,rfl,rfl,bV br.x bt.r0.y,tq _ (av.refl _)⟩⟩⟩
    ·exact⟨_,rfl,_,rfl,p,_,_,_,rfl,rfl,aM.of q8,rfl,_,rfl,_,rfl,.inl ⟨q',_,_,_,rfl,rfl,aM.of (g2 _ _ (g _ _ hq)),rfl,_,rfl,.inl ⟨r1,_,_,_,rfl,rfl,aM.of (g2 _ _ (g _ _ h1)),rfl,_,_,rfl,rfl,bV br.y bt.r1.y,tq _ (av.refl _)⟩⟩⟩
    ·exact⟨_,rfl,_,rfl,p,_,_,_,rfl,rfl,aM.of q8,rfl,_,rfl,_,rfl,.inl ⟨q',_,_,_,rfl,rfl,aM.of (g2 _ _ (g _ _ hq)),rfl,_,rfl,.inl ⟨r2,_,_,_,rfl,rfl,aM.of (g2 _ _ (g _ _ h2)),rfl,_,_,rfl,rfl,bV br.z bt.r2.y,tq _ (av.refl _)⟩⟩⟩
   ·obtain rfl|rfl|rfl:j=0\/j=1\/j=2:=by omega
    ·exact⟨_,rfl,_,rfl,p,_,_,_,rfl,rfl,aM.of q8,rfl,_,rfl,_,rfl,.inl ⟨q',_,_,_,rfl,rfl,aM.of (g2 _ _ (g _ _ hq)),rfl,_,rfl,.inl ⟨r0,_,_,_,rfl,rfl,aM.of (g2 _ _ (g _ _ h0)),rfl,_,_,rfl,rfl,bV br.x bt.r0.z,tq _ (av.refl _)⟩⟩⟩
    ·exact⟨_,rfl,_,rfl,p,_,_,_,rfl,rfl,aM.of q8,rfl,_,rfl,_,rfl,.inl ⟨q',_,_,_,rfl,rfl,aM.of (g2 _ _ (g _ _ hq)),rfl,_,rfl,.inl ⟨r1,_,_,_,rfl,rfl,aM.of (g2 _ _ (g _ _ h1)),rfl,_,_,rfl,rfl,bV br.y bt.r1.z,tq _ (av.refl _)⟩⟩⟩
    ·exact⟨_,rfl,_,rfl,p,_,_,_,rfl,rfl,aM.of q8,rfl,_,rfl,_,rfl,.inl ⟨q',_,_,_,rfl,rfl,aM.of (g2 _ _ (g _ _ hq)),rfl,_,rfl,.inl ⟨r2,_,_,_,rfl,rfl,aM.of (g2 _ _ (g _ _ h2)),rfl,_,_,rfl,rfl,bV br.z bt.r2.z,tq _ (av.refl _)⟩⟩⟩
 ·intro l H3 g3 _ MX
  refine⟨l,[r.x*([t'.r0.x,t'.r0.y,t'.r0.z].getD m 0),r.y*([t'.r1.x,t'.r1.y,t'.r1.z].getD m 0),r.z*([t'.r2.x,t'.r2.y,t'.r2.z].getD m 0)],rfl,MX,?_⟩
  rw[Pj]
  have z:=k _ g3
  obtain rfl|rfl|rfl:m=0\/m=1\/m=2:=by omega
  ·exact z
  ·exact z
  ·exact z
theorem zj (F:Fn K mg "_law_changed" mW)(T:Txt K mg t)(gS:aV P w K mg base aU 1 "_law_row_times" ["_law_row","_law_other"] (MG)):aV P w K mg base aU 2 "_law_changed" ["_law_form_here","_law_table"] (IQ):=by
 refine F.ok bU (fun f bh A outer s H vs Q E hr h=>?_)
 obtain⟨p,q',F,t',rfl,hp,ht,bf,bt,q⟩:=h
 unfold S6 at hp
 refine⟨_,ah (gT (pv 0) (GI K (aD (eO (i:=6) bU.nd) (aD (eO (i:=7) bU.nd) (aD (eO (i:=8) bU.nd) (aD (eO (i:=9) bU.nd) (aD (eO (i:=10) bU.nd) (aD (eO (i:=11) bU.nd) dE))))))))
  (ah (bQ (i:=2) bU.nd (cE (aa (cE (aa (aj au ae (pv 6)) (aa (pv 11) (aa (pv 10) af)))) (aa (cE (aa (pv 11) (aa (aj au ae (pv 7)) (aa (pv 9) af)))) (aa (cE (aa (pv 10) (aa (pv 9) (aa (aj au ae (pv 8)) af)))) af)))))
  (ah (wa (k:=3) bU.nd rfl (Or.inl rfl) rfl rfl (ck.gen (cl:=[("_law_table",_)]) ["_law_table"] [1] [(".0",.local),("_law_j",.cell),("range",.globalImplicit),("_law_table",.cell)] rfl) (cD rfl T.eF (aa ae af)) (fun C s0 H0 fp pins=>bX rfl (aI.gen (cl:=[("_law_table",_),("_law_j",_)]) ["_law_j","_law_table"] [0,1] [(".0",.local),("_law_k",.local),("_law_j",.cell),("_law_table",.cell)] rfl) (cD rfl T.eF (aa ae af)) (fun C s0 H0 fp pins=>aO (a8 K) (aO (a8 K) (pv 2) (pv 0)) (pv 1))) (Or.inl rfl))
  (ah (jI (k:=4) bU.nd rfl (Or.inl rfl) rfl rfl (aI.gen (cl:=[("_law_doubled",_)]) ["_law_doubled"] [2] [(".0",.local),("_law_row",.local),("_law_row_times",.globalImplicit),("_law_doubled",.cell)] rfl) (xH K (pv 3)) (fun C s0 H0 fp pins=>aq gS hr aB (aa (pv 0) (aa (pv 1) af))) (Or.inl rfl))
  (ah (jI (k:=5) bU.nd rfl (Or.inl rfl) rfl rfl (aI.gen (cl:=[("_law_table",_)]) ["_law_table"] [1] [(".0",.local),("_law_row",.local),("_law_row_times",.globalImplicit),("_law_table",.cell)] rfl) (xH K (pv 4)) (fun C s0 H0 fp pins=>aq gS hr aB (aa (pv 0) (aa (pv 1) af))) (Or.inl rfl))
  (ar (aA (aJ (aa (aj gK (aO (gF K) (aO (gF K) (pv 5) ae) ae) ae) (aa (aj gK (aO (gF K) (aO (gF K) (pv 5) ae) ae) ae) (aa (aj gK (aO (gF K) (aO (gF K) (pv 5) ae) ae) ae) (aa (aO (gF K) (aO (gF K) (pv 5) ae) ae) (aa (aO (gF K) (aO (gF K) (pv 5) ae) ae) (aa (aO (gF K) (aO (gF K) (pv 5) ae) ae) af))))))))))))),?_⟩
 refine⟨_,rfl,p,_,rfl,aF.of hp,rfl,_,_,rfl,_,_,rfl,_,_,rfl,_,_,rfl,_,_,rfl,_,_,rfl,rfl,?_⟩
 refine⟨_,rfl,_,_,rfl,rfl,Mx,_,rfl,_,rfl,(cz 3),fun d0 n0=>⟨_,rfl,_,rfl,_,_,rfl,rfl,Mx,_,rfl,(cz 3),fun d1 n1=>⟨_,rfl,_,rfl,_,rfl,_,_,rfl,rfl,Mx,(cz 3),fun d2 n2=>⟨(cz 3),fun d3 n3=>?_⟩⟩⟩⟩
 have f0:=ai n0 (l3 (sl F).r0)
 have f1:=ai n1 (l3 (sl F).r1)
 have f2:=ai n2 (l3 (sl F).r2)
 have f3:=ai n3 (.lst [.ref d0,.ref d1,.ref d2])
 have gd:=f0.trans (f1.trans (f2.trans f3))
 have hd:=OT.mono (av.refl _) (.inr ⟨d0,d1,d2,ag,(f1.trans (f2.trans f3)) d0 _ ag,(f2.trans f3) d1 _ ag,f3 d2 _ ag⟩:OT _ d3 (sl F))
 have U2:=ht.mono gd
 generalize (upd _ d3 _:Hp)=H1 at gd hd U2 ⊢
 have WQ:=Es bt
 refine⟨3,rfl,by decide,by decide,eT 3 (by decide) (Laid fun j=>l3 (rowOf (tr t') j)) (fun _ _=>Laid.zero) ?_ ?_⟩
 ·intro i vs H' acc Q' hi g h0 ha r hl k
  refine⟨3,rfl,by decide,by decide,gN 3 (by decide) (fun m=>.int (cmp (rowOf (tr t') i) m)) ?_ ?_⟩
  ·intro m H2 Q2 hm g2 tq
   obtain⟨r0,r1,r2,hq,QA,QB,QC⟩:=(U2.mono g).mono g2
   obtain⟨z,ez,UQ⟩:=YL (r0:=r0) (r1:=r1) (r2:=r2) hm
   have hz:=MH (S:=fun r P=>S3 H2 r P) QA QB QC UQ
   refine⟨_,rfl,_,rfl,q',_,_,_,rfl,rfl,aF.of hq,ez,_,rfl,z,_,_,_,rfl,rfl,aF.of hz,YJ hi,?_⟩
   have e:=MI t' hi hm
   have kk:=tq H2 (av.refl _)
   rw[e] at kk
   exact kk
  ·intro l H3 g3 nl MX
   exact k _ _ g3 (r.next g3 ha nl MX fun j=>Laid.ne r _)
 intro fl H2 vs g2 _ jF _ r
 obtain⟨s0,s1,s2,rfl,e0,e1,e2⟩:=r.three
 clear r
 have QG:=Ax bf
 refine⟨_,rfl,fl,rfl,⟨_,aM.of jF⟩,iU (xs:=[.ref s0,.ref s1,.ref s2]) (sC 3) (fun H' g=>aM.of (g _ _ jF)) (Laid fun j=>l3 (rt (rowOf (tr t') j) (sl F))) (fun _ _=>Laid.zero) ?_ ?_⟩
 ·intro i x vs H' acc Q' ex g h0 ha r hl k
  obtain⟨z,rfl,hz⟩:=AY (S:=fun r P=>H' r=some (l3 P)) (t:=tr t') (g _ _ e0) (g _ _ e1) (g _ _ e2) ex
  exact⟨_,rfl,_,rfl,z,d3,_,_,rfl,hz,(hd.mono g2).mono g,(FP WQ i).mono (by decide),BT.mono QG (by decide),fun y H3 g3 ny hy=>k _ _ g3 (r.next g3 ha ny hy fun j=>Laid.ne r _)⟩
 intro Nu H3 vs g3 _ WR _ r
 obtain⟨u0,u1,u2,rfl,i0,i1,i2⟩:=r.three
 clear r
 have Zh:∀ j,BP 2000 (rt (rowOf (tr t') j) (sl F)):=fun j=>(Qm (FP WQ j) QG).mono (by decide)
 refine⟨_,rfl,Nu,rfl,⟨_,aM.of WR⟩,iU (xs:=[.ref u0,.ref u1,.ref u2]) (sC 3) (fun H' g=>aM.of (g _ _ WR)) (Laid fun j=>l3 (rt (rt (rowOf (tr t') j) (sl F)) t')) (fun _ _=>Laid.zero) ?_ ?_⟩
 ·intro i x vs H' acc Q' ex g h0 ha r hl k
  obtain⟨z,rfl,hz⟩:=AY (S:=fun r P=>H' r=some (l3 P)) (t:=⟨rt (rowOf (tr t') 0) (sl F),rt (rowOf (tr t') 1) (sl F),rt (rowOf (tr t') 2) (sl F)⟩) (g _ _ i0) (g _ _ i1) (g _ _ i2) ex
  have ei:rowOf (⟨rt (rowOf (tr t') 0) (sl F),rt (rowOf (tr t') 1) (sl F),rt (rowOf (tr t') 2) (sl F)⟩:T3) i=rt (rowOf (tr t') i) (sl F):=match i with
   | 0=>rfl
   | 1=>rfl
   | n+2=>rfl
  rw[ei] at hz
  exact⟨_,rfl,_,rfl,z,q',_,t',rfl,hz,.inl (((U2.mono g2).mono g3).mono g),Zh i,BT.mono bt (by decide),fun y H3 g3 ny hy=>k _ _ g3 (r.next g3 ha ny hy fun j=>Laid.ne r _)⟩
 intro wh H4 vs g4 _ NF _ r
 obtain⟨w0,w1,w2,rfl,j0,j1,j2⟩:=r.three
 refine⟨_,rfl,wh,_,_,_,rfl,rfl,aM.of NF,rfl,w0,_,_,_,rfl,rfl,aM.of j0,rfl,_,_,rfl,rfl,⟨by decide,by decide⟩,_,rfl,wh,_,_,_,rfl,rfl,aM.of NF,rfl,w1,_,_,_,rfl,rfl,aM.of j1,rfl,_,_,rfl,rfl,⟨by decide,by decide⟩,_,rfl,wh,_,_,_,rfl,rfl,aM.of NF,rfl,w2,_,_,_,rfl,rfl,aM.of j2,rfl,_,_,rfl,rfl,⟨by decide,by decide⟩,_,rfl,wh,_,_,_,rfl,rfl,aM.of NF,rfl,w1,_,_,_,rfl,rfl,aM.of j1,rfl,_,rfl,wh,_,_,_,rfl,rfl,aM.of NF,rfl,w0,_,_,_,rfl,rfl,aM.of j0,rfl,_,rfl,wh,_,_,_,rfl,rfl,aM.of NF,rfl,w0,_,_,_,rfl,rfl,aM.of j0,rfl,(cz 6),fun z nz=>q z _ (gd.trans (g2.trans (g3.trans (g4.trans (ai nz _))))) ?_⟩
 unfold S6
 rw[<- Qn]
 exact ag
theorem Gm (F:Fn K mg "_law_worth" ur)(T:Txt K mg t) :aV P w K mg base aU 1 "_law_worth" ["_law_form_here","_law_point"] (Mz):=by
 refine F.ok dt (fun f bh A outer s H vs Q E hr h=>?_)
 obtain⟨p,q',F,P',rfl,hp,hq,bf,bp,q⟩:=h
 unfold S3 at hq
 unfold S6 at hp
 refine⟨_,ah (gT (pv 0) (GI K (aD (eO (i:=3) dt.nd) (aD (eO (i:=4) dt.nd) (aD (eO (i:=5) dt.nd) (aD (eO (i:=6) dt.nd) (aD (eO (i:=7) dt.nd) (aD (eO (i:=8) dt.nd) dE))))))))
  (ah (gT (pv 1) (GI K (aD (eO (i:=9) dt.nd) (aD (eO (i:=10) dt.nd) (aD (eO (i:=11) dt.nd) dE)))))
  (ah (bQ (i:=2) dt.nd (aj bG (aj bG (aj au (aj au (pv 3) (pv 9)) (pv 9)) (aj au (aj au (pv 4) (pv 10)) (pv 10))) (aj au (aj au (pv 5) (pv 11)) (pv 11))))
  (ar (aA (aj bG (aj bG (aj bG (pv 2) (aj au (aj au (pv 6) (pv 10)) (pv 11))) (aj au (aj au (pv 7) (pv 9)) (pv 11))) (aj au (aj au (pv 8) (pv 9)) (pv 10))))))),?_⟩
 refine⟨_,rfl,p,_,rfl,aF.of hp,rfl,_,_,rfl,_,_,rfl,_,_,rfl,_,_,rfl,_,_,rfl,_,_,rfl,rfl,?_⟩
 refine⟨_,rfl,q',_,rfl,aF.of hq,rfl,_,_,rfl,_,_,rfl,_,_,rfl,rfl,?_⟩
 refine⟨_,rfl,_,rfl,_,_,rfl,rfl,bV bf.a bp.x,_,rfl,_,_,rfl,rfl,bV (bf.a.mul bp.x) bp.x,_,rfl,_,rfl,_,_,rfl,rfl,bV bf.b bp.y,_,rfl,_,_,rfl,rfl,bV (bf.b.mul bp.y) bp.y,_,_,rfl,rfl,_,rfl,_,rfl,_,_,rfl,rfl,bV bf.c bp.z,_,rfl,_,_,rfl,rfl,bV (bf.c.mul bp.z) bp.z,_,_,rfl,rfl,?_⟩
 exact⟨_,rfl,_,rfl,_,rfl,_,_,rfl,rfl,bV bf.d bp.y,_,rfl,_,_,rfl,rfl,bV (bf.d.mul bp.y) bp.z,_,_,rfl,rfl,_,rfl,_,rfl,_,_,rfl,rfl,bV bf.e bp.x,_,rfl,_,_,rfl,rfl,bV (bf.e.mul bp.x) bp.z,_,_,rfl,rfl,_,rfl,_,rfl,_,_,rfl,rfl,bV bf.f bp.x,_,rfl,_,_,rfl,rfl,bV (bf.f.mul bp.x) bp.y,_,_,rfl,rfl,q⟩
theorem Cg (F:Fn K mg "_law_shared" qB)(T:Txt K mg t) :oB P w K mg base 1 "_law_shared" ["_law_numbers"] (qK):=by
 refine F.Np iJ (fun f bh A outer s H fz vs Q E hr h=>?_)
 obtain⟨p,b,ns,rfl,hp,q⟩:=h
 refine⟨_,ah (bQ (i:=1) iJ.nd ae)
  (ah (fU aaZ rfl (tX (pv 0)) (eO (i:=2) iJ.nd) (ah (bQ (i:=3) iJ.nd (aS lN rfl T.AS AV (aa (pv 2) af)))
  (ar (dZ aaZ (aE kG (pv 3) ae (aG _)) (ar (KA (i:=1) (j:=3) rfl iJ.nd rfl rfl (by decide) rfl rfl (aa (pv 3) (aa (aj bj (pv 1) (pv 3)) af)) rfl))))))
  (ar (aA (pv 1)))),?_⟩
 refine⟨_,rfl,p,b,ns.map V.int,rfl,Sq.of hp,Ah (xs:=ns.map V.int) (fun i σ H'=>∃ (g:Int) (nh ot:Option V),σ=[some (.ref p),some (.int g),nh,ot]/\H=H'/\0<=g/\Gen ns g/\∀ n∈ns.take i,g∣n) ⟨0,none,none,rfl,rfl,by decide,.zero,fun n hn=>by cases hn⟩ ?_ ?_ ?_⟩
 ·rintro i σ H' hi ⟨g,nh,ot,rfl,rfl,_⟩
  exact Sq.of hp
 ·rintro i v σ H' hv ⟨g,nh,ot,rfl,rfl,g0,gc,hd⟩
  obtain⟨n,rfl,hn,nm⟩:=Uz hv
  refine⟨_,rfl,n,rfl,?_⟩
  refine⟨fun m σ H'=>∃ (f o:Int),σ=[some (.ref p),some (.int f),some (.int n),some (.int o)]/\H=H'/\0<=f/\0<=o/\Gen ns f/\Gen ns o/\(∀ d:Int,d∣f->d∣o->d∣g/\d∣n)/\m=o.toNat,⟨_,g,_,rfl,rfl,g0,?_,gc,?_,fun d d1 d2=>⟨d1,?_⟩,rfl⟩,?_⟩
  ·show 0<=(if n<0 then -n else n)
   split<;>omega
  ·show Gen ns (if n<0 then -n else n)
   split
   ·exact (Gen.mem nm).neg
   ·exact .mem nm
  ·have U3:d∣(if n<0 then -n else n):=d2
   split at U3
   ·exact abu.mp U3
   ·exact U3
  rintro m σ H1 ⟨f,o',rfl,rfl,f0,o0,fc,oc,hd2,rfl⟩
  refine⟨_,rfl,rfl,_,rfl,bK (fun c=>?_) (fun c=>?_)⟩
  ·have on:o'≠0:=fun zz=>neT c (aa2 V.int zz)
   have op:0<o':=by omega
   have r0:=aba f on
   have r1:=abJ f op
   refine⟨fun σ' H2=>σ'=[some (.ref p),some (.int o'),some (.int n),some (.int (f%o'))]/\H=H2,?_,?_⟩
   ·rintro σ' H2 ⟨rfl,rfl⟩
    exact⟨(f%o').toNat,by omega,o',f%o',rfl,rfl,o0,r0,oc,fc.rest oc,fun d d1 d2=>(fun z=>hd2 d z.1 z.2) (FG d1 d2),rfl⟩
   ·exact⟨_,rfl,_,rfl,_,rfl,_,_,rfl,rfl,op,_,_,rfl,rfl,rfl⟩
  ·have on:o'=0:=aP (RP c)
   subst on
   obtain⟨w1,w2⟩:=hd2 f (acx f) (Int.dvd_zero f)
   refine⟨f,_,_,rfl,rfl,f0,fc,fun w hw=>?_⟩
   rw[aca,hn] at hw
   rcases aa9.mp hw with z|z
   ·exact aah w1 (hd w z)
   ·have:w=n:=by simpa using z
    rw[this]
    exact w2
 ·rintro σ H' ⟨g,nh,ot,rfl,rfl,g0,gc,hd⟩
  rw[aas,abz] at hd
  exact⟨_,rfl,q g g0 hd gc⟩
theorem Ci (F:Fn K mg "_law_wholes" qA)(T:Txt K mg t)(kq:oB P w K mg base 1 "_law_whole" ["_law_found"] (oR)):oB P w K mg base 2 "_law_wholes" ["_law_found","_law_many"] (uK):=by
 refine F.Np Ce (fun f bh A outer s H fz vs Q E hr h=>?_)
 obtain⟨p,x,y,z,rfl,hp,q⟩:=h
 unfold RQ at hp
 refine⟨_,ah (aZ (PW.pt (zE (kQ (eN (aS jE rfl T.eD wZ (aa (pv 0) (aa (oP (v:=.ty "tuple") rfl T.jb jc rfl) af))) (fun _=>rfl))) (tF (aE kG (aS iO rfl T.Fu aeM (aa (pv 0) af)) (pv 1) (aG _))))) (ar (aA kF)) aL)
  (ar (aA (aS (lW rfl) rfl T.AR AU (aa (bX rfl (aI.gen (cl:=[]) [] [] [(".0",.local),("_law_one",.local),("_law_whole",.globalImplicit)] rfl) (Bs K (pv 0)) (fun C s0 H0 fp pins=>iC kq hr (aa (pv 0) af))) af)))),?_⟩
 refine⟨_,rfl,_,_,_,_,rfl,.inr ⟨_,rfl⟩,.of (.tup hp),rfl,_,rfl,gU ?_⟩
 refine⟨_,rfl,p,_,rfl,.inr (aF.of hp),_,rfl,rfl,_,rfl,Jz rfl ?_⟩
 refine⟨_,rfl,p,rfl,⟨_,aF.of hp⟩,mH (xs:=[.int x,.int y,.int z]) (aF.of hp) (sC 3) (fun _=>.bl true) (fun H' g=>aF.of (g _ _ hp)) ?_ ?_⟩
 ·intro i v H' Q' hv g k
  obtain⟨n,rfl,_⟩:=get3 hv
  exact⟨_,rfl,n,rfl,k _ (av.refl _)⟩
 ·intro l H' g h0 hl
  exact⟨l,[true,true,true],rfl,hl,q _ g⟩
theorem vg (F:Fn K mg "_law_is_lowest" jV)(T:Txt K mg t)(rg:oB P w K mg base 2 "_law_wholes" ["_law_found","_law_many"] (uK))(rh:oB P w K mg base 1 "_law_shared" ["_law_numbers"] (qK)):oB P w K mg base 3 "_law_is_lowest" ["_law_point"] (uJ):=by
 refine F.Np uT (fun f bh A outer s H fz vs Q E hr h=>?_)
 obtain⟨p,x,y,z,rfl,hp,o,ps,q⟩:=h
 refine⟨_,ah (aZ (PW.pt (zE (kQ (eN (iC rg hr (aa (pv 0) (aa ae af))) (fun _=>rfl))) (tF (aE kG (iC rh hr (aa (pv 0) af)) ae (aG _))))) (ar (aA kF)) aL)
  (ar (aA (dF pK (aO (gF K) (eS rfl (aI.gen (cl:=[]) [] [] [(".0",.local),("_law_number",.local)] rfl) (Bs K (pv 0)) (fun C s0 H0 fp pins=>aE kG (pv 0) ae (aG _)) (fun C s0 H0 fp pins=>pv 0)) ae) ae (aG _)))),?_⟩
 refine⟨_,rfl,p,x,y,z,rfl,hp,fun H1 g1=>⟨_,rfl,gU ?_⟩⟩
 have GQ:=g1 _ _ hp
 refine⟨_,rfl,p,false,[x,y,z],rfl,GQ,fun g9 Zi U4 _=>?_⟩
 obtain rfl:=MJ o Zi (U4 x (by simp)) (U4 y (by simp)) (U4 z (by simp))
 refine⟨rfl,_,rfl,Jz rfl ?_⟩
 refine⟨_,rfl,p,rfl,⟨_,aF.of GQ⟩,nQ (xs:=[.int x,.int y,.int z]) (sC 3) nz id (fun H' g=>aF.of (g _ _ GQ)) ?_ ?_ ?_⟩
 ·intro i v H' Q' hv g k
  obtain⟨n,rfl,_⟩:=get3 hv
  exact⟨_,rfl,rfl,_,rfl,k _ (av.refl _)⟩
 ·intro i v H' Q' hv e g k
  exact⟨_,rfl,k _ (av.refl _)⟩
 ·intro l H' g h0 hl
  refine⟨l,_,_,_,rfl,rfl,aM.of hl,FK (MB ps),_,_,rfl,rfl,?_⟩
  have d:Q (.bl (decide (0<lh x y z))) H':=by
   rw[abr (IL ps)]
   exact q _ (g1.trans g)
  exact d
theorem Jd (F:Fn K mg "_law_size" yQ)(T:Txt K mg t) :aV P w K mg base aU 1 "_law_size" ["_law_form_here"] (uL):=by
 refine F.ok gR (fun f bh A outer s H vs Q E hr h=>?_)
 obtain⟨p,F,rfl,hp,bf,q⟩:=h
 unfold S6 at hp
 refine⟨_,ah (gT (pv 0) (GI K (aD (eO (i:=2) gR.nd) (aD (eO (i:=3) gR.nd) (aD (eO (i:=4) gR.nd) (aD (eO (i:=5) gR.nd) (aD (eO (i:=6) gR.nd) (aD (eO (i:=7) gR.nd) dE))))))))
  (ah (bQ (i:=1) gR.nd (aj bG (aj au (aj au (aj au ae (pv 2)) (pv 3)) (pv 4)) (aj au (aj au (pv 5) (pv 6)) (pv 7))))
  (ar (aA (aj bM (aj bM (aj bM (pv 1) (aj au (aj au (pv 2) (pv 5)) (pv 5))) (aj au (aj au (pv 3) (pv 6)) (pv 6))) (aj au (aj au (pv 4) (pv 7)) (pv 7)))))),?_⟩
 refine⟨_,rfl,p,_,rfl,aF.of hp,rfl,_,_,rfl,_,_,rfl,_,_,rfl,_,_,rfl,_,_,rfl,_,_,rfl,rfl,?_⟩
 refine⟨_,rfl,_,_,rfl,rfl,bV b4 bf.a,_,rfl,_,_,rfl,rfl,bV (b4.mul bf.a) bf.b,_,rfl,_,_,rfl,rfl,bV ((b4.mul bf.a).mul bf.b) bf.c,_,rfl,_,rfl,_,_,rfl,rfl,bV bf.d bf.e,_,rfl,_,_,rfl,rfl,bV (bf.d.mul bf.e) bf.f,_,_,rfl,rfl,?_⟩
 exact⟨_,rfl,_,rfl,_,rfl,_,_,rfl,rfl,bV bf.a bf.d,_,rfl,_,_,rfl,rfl,bV (bf.a.mul bf.d) bf.d,_,_,rfl,rfl,_,rfl,_,rfl,_,_,rfl,rfl,bV bf.b bf.e,_,rfl,_,_,rfl,rfl,bV (bf.b.mul bf.e) bf.e,_,_,rfl,rfl,_,rfl,_,rfl,_,_,rfl,rfl,bV bf.c bf.f,_,rfl,_,_,rfl,rfl,bV (bf.c.mul bf.f) bf.f,_,_,rfl,rfl,q⟩
theorem Je (F:Fn K mg "_law_form" yR)(T:Txt K mg t)(dI:aV P w K mg base aU 1 "_law_drawn" ["_law_cell","_law_prime","_law_many"] (mj))(r4:aV P w K mg base aU 1 "_law_of" ["_law_script","_law_k"] (MF K))(vh:aV P w K mg base aU 1 "_law_worth" ["_law_form_here","_law_point"] (Mz))(ij:aV P w K mg base aU 2 "_law_plain_drawn" ["_law_cell","_law_most"] (MT))(nE:aV P w K mg base aU 3 "_law_sheared" ["_law_form_here","_law_cell"] (FZ)):aV P w K mg base aU 4 "_law_form" ["_law_script"] (zb K):=by
 refine F.ok cb (fun f bh A outer s H vs Q E hr h=>?_)
 obtain⟨a,ns,rfl,hS,q⟩:=h
 refine⟨_,ah (bQ (i:=1) cb.nd (aq dI hr aB (aa (aq r4 hr aB (aa (pv 0) (aa ae af))) (aa ae (aa ae af)))))
  (ah (jI (k:=2) cb.nd rfl (Or.inl rfl) rfl rfl (aI.gen (cl:=[("_law_script",_)]) ["_law_script"] [0] [(".0",.local),("_law_k",.local),("_law_drawn",.globalImplicit),("_law_of",.globalImplicit),("_law_script",.cell)] rfl) (cD rfl T.eF (aa ae af)) (fun C s0 H0 fp pins=>aj bM (aq dI hr aB (aa (aq r4 hr aB (aa (pv 1) (aa (aj bG ae (pv 0)) af))) (aa ae (aa ae af)))) ae) (Or.inl rfl))
  (dO (aZ (PW.pt (kP (aE bB (pv 1) ae (aG _)) (iN (aE bB (aj bj (aq r4 hr aB (aa (pv 0) (aa ae af))) ae) ae (aG _))))) (ar (aA (cT cU rfl T.jb jc (aa (bX rfl (aI.gen (cl:=[("_law_script",_)]) ["_law_script"] [0] [(".0",.local),("_law_k",.local),("_law_drawn",.globalImplicit),("_law_of",.globalImplicit),("_law_script",.cell)] rfl) (cD rfl T.eF (aa ae af)) (fun C s0 H0 fp pins=>aj bM (aq dI hr aB (aa (aq r4 hr aB (aa (pv 1) (aa (aj bG ae (pv 0)) af))) (aa ae (aa ae af)))) ae)) af)))) aL)
  (dO (aZ (PW.pt (kP (aE bB (pv 1) ae (aG _)) (iN (aE bB (aj bj (aq r4 hr aB (aa (pv 0) (aa ae af))) ae) ae (aG _))))) (ah (gT (bX rfl (aI.gen (cl:=[]) [] [] [(".0",.local),("_law_number",.local)] rfl) (xH K (pv 2)) (fun C s0 H0 fp pins=>aj gK (pv 0) ae)) (LJ rfl (aD (eO (i:=10) cb.nd) (aD (eO (i:=11) cb.nd) (aD (eO (i:=12) cb.nd) (aD (eO (i:=13) cb.nd) (aD (eO (i:=14) cb.nd) (aD (eO (i:=15) cb.nd) dE))))))))
  (ah (bQ (i:=4) cb.nd (aJ (aa (aj bG (aj au (pv 11) (pv 15)) (aj au (pv 12) (pv 14))) (aa (aj bG (aj au (pv 10) (pv 15)) (aj au (pv 12) (pv 13))) (aa (aj bG (aj au (pv 10) (pv 14)) (aj au (pv 11) (pv 13))) af)))))
  (ar (aA (aj (OG K) (aJ (aa (aj au (pv 10) (pv 13)) (aa (aj au (pv 11) (pv 14)) (aa (aj au (pv 12) (pv 15)) af)))) (pv 4)))))) aL)
  (ah (aZ (aE bB (pv 1) ae (aG _)) (ar (aA (cT cU rfl T.jb jc (aa (pv 2) af)))) aL)
  (ah (aZ (aE bB (pv 1) ae (aG _)) (ah (bQ (i:=5) cb.nd (aj bM (aq dI hr aB (aa (aq r4 hr aB (aa (pv 0) (aa ae af))) (aa ae (aa ae af)))) ae))
  (ah (bQ (i:=3) cb.nd (aJ (aa (aO (gF K) (pv 2) ae) (aa (aO (gF K) (pv 2) ae) (aa ae (aa (aO (gF K) (pv 2) ae) (aa (aO (gF K) (pv 2) ae) (aa (pv 5) af))))))))
  (ah (bQ (i:=6) cb.nd (aq vh hr aB (aa (pv 3) (aa (aJ (aa (aj bM (aj bj (aO (gF K) (pv 2) ae) ae) ae) (aa (aj bM (aj bj (aO (gF K) (pv 2) ae) ae) ae) (aa ae af)))) af))))
  (ar (aA (aj (OG K) (aj (OG K) (vN (VX K) (pv 3) zQ (zR ae)) (aJ (aa (aj bM ae (pv 6)) af))) (vN (VX K) (pv 3) (zR ae) zQ))))))) aL)
  (ah (gT (aq ij hr aB (aa (aq r4 hr aB (aa (pv 0) (aa ae af))) (aa ae af))) (GI K (aD (eO (i:=7) cb.nd) (aD (eO (i:=8) cb.nd) (aD (eO (i:=9) cb.nd) dE)))))
  (ah (bQ (i:=3) cb.nd (aJ (aa (pv 7) (aa (pv 8) (aa (pv 9) (aa ae (aa ae (aa ae af))))))))
  (ah (aZ (aE bB (pv 1) ae (aG _)) (ar (aA (pv 3))) aL)
  (ar (aA (aq nE hr aB (aa (pv 3) (aa (aq r4 hr aB (aa (pv 0) (aa ae af))) af))))))))))))),?_⟩
 refine⟨_,rfl,a,ns,_,rfl,hS,by decide,by decide,fun n0=>⟨_,_,_,rfl,by decide,by decide,by decide,fun kd k0 k1=>?_⟩⟩
 refine⟨6,rfl,by decide,by decide,eT 6 (by decide) (fun i vs _=>F0 9 i vs) (fun _ _=>F0.zero) ?_ ?_⟩
 ·intro i vs H' acc Q' hi g _ _ r _ k
  exact⟨_,rfl,_,rfl,_,_,rfl,rfl,a,ns,_,rfl,g.seq hS,by omega,by omega,fun x=>⟨_,_,_,rfl,by decide,by decide,by decide,fun n a0 a1=>⟨_,_,rfl,rfl,k _ _ (av.refl _) (r.next (by omega))⟩⟩⟩
 intro l H1 vs g1 _ hl _ r
 obtain⟨s0,s1,s2,s3,s4,s5,rfl,b0,b1,b2,b3,b4,b5⟩:=r.six
 have CC:=g1.seq hS
 -- kind 0,great
 refine⟨fun σ' H'=>σ'=[some (.ref a),some (.int kd),some (.ref l),none,none,none,none,none,none,none,none,none,none,none,none,none]/\H1=H',?_,?_⟩
 ·refine⟨_,rfl,rfl,_,rfl,bK (fun c1=>?_) (fun c1=>?_)⟩
  ·refine⟨_,rfl,a,ns,_,rfl,CC,by decide,by decide,fun x=>⟨_,_,rfl,rfl,(by show (0:Int)<8;decide),rfl,_,rfl,bK (fun c2=>?_) (fun c2=>?_)⟩⟩
   ·refine⟨6,rfl,by decide,by decide,eT 6 (by decide) (fun i vs _=>F0 100 i vs) (fun _ _=>F0.zero) ?_ ?_⟩
    ·intro i vs H' acc Q' hi g _ _ r _ k
     exact⟨_,rfl,_,rfl,_,_,rfl,rfl,a,ns,_,rfl,g.seq CC,by omega,by omega,fun x=>⟨_,_,_,rfl,by decide,by decide,by decide,fun n a0 a1=>⟨_,_,rfl,rfl,k _ _ (av.refl _) (r.next (by omega))⟩⟩⟩
    ·intro l2 H2 vs g2 _ rM _ r
     obtain⟨t0,t1,t2,Zj,t4,t5,rfl,c0,Zk,Ud,c3,c4,c5⟩:=r.six
     exact⟨l2,_,rfl,.inl ⟨aM.of rM,fun z nz=>q z _ ⟨t0,t1,t2,Zj,t4,t5⟩ (g1.trans (g2.trans (ai nz _))) ag ⟨c0,Zk,Ud,c3,c4,c5⟩⟩⟩
   ·exact⟨rfl,rfl⟩
  ·exact⟨rfl,rfl⟩
 rintro _ _ ⟨rfl,rfl⟩
 -- kind 0,a product
 refine⟨fun σ' H'=>σ'=[some (.ref a),some (.int kd),some (.ref l),none,none,none,none,none,none,none,none,none,none,none,none,none]/\H1=H',?_,?_⟩
 ·refine⟨_,rfl,rfl,_,rfl,bK (fun c1=>?_) (fun c1=>?_)⟩
  ·refine⟨_,rfl,a,ns,_,rfl,CC,by decide,by decide,fun x=>⟨_,_,rfl,rfl,(by show (0:Int)<8;decide),rfl,_,rfl,bK (fun c2=>?_) (fun c2=>?_)⟩⟩
   ·refine⟨_,rfl,l,rfl,⟨_,aM.of hl⟩,kX (xs:=[.int s0,.int s1,.int s2,.int s3,.int s4,.int s5]) (aM.of hl) (sC 6) YQ (fun H' g=>aM.of (g _ _ hl)) ?_ ?_⟩
    ·intro i x H' Q' ex g k
     have hm:=aaV ex
     simp only[aaf,aaF,abN] at hm
     obtain⟨n,rfl⟩:∃ n:Int,x=.int n:=by
      rcases hm with rfl|rfl|rfl|rfl|rfl|rfl<;>exact⟨_,rfl⟩
     exact⟨_,rfl,_,_,rfl,rfl,⟨by decide,by decide⟩,k _ (av.refl _)⟩
    ·intro l2 H2 g2 _ rM
     have U5:H2 l2=some (.lst [.int (s0 / 3),.int (s1 / 3),.int (s2 / 3),.int (s3 / 3),.int (s4 / 3),.int (s5 / 3)]):=rM
     have d0:(s0 / 3).natAbs<=3:=by omega
     have d1:(s1 / 3).natAbs<=3:=by omega
     have d2:(s2 / 3).natAbs<=3:=by omega
     have d3:(s3 / 3).natAbs<=3:=by omega
     have d4:(s4 / 3).natAbs<=3:=by omega
     have d5:(s5 / 3).natAbs<=3:=by omega
     generalize s0 / 3=p0 at *
     generalize s1 / 3=p1 at *
     generalize s2 / 3=p2 at *
     generalize s3 / 3=p3 at *
     generalize s4 / 3=p4 at *
     generalize s5 / 3=p5 at *
     refine⟨l2,_,rfl,aM.of U5,rfl,_,_,rfl,_,_,rfl,_,_,rfl,_,_,rfl,_,_,rfl,_,_,rfl,rfl,?_⟩
     refine⟨_,rfl,_,rfl,_,_,rfl,rfl,IV (by omega),_,rfl,_,rfl,_,_,rfl,rfl,IV (by omega),_,_,rfl,rfl,_,rfl,_,rfl,_,_,rfl,rfl,IV (by omega),_,rfl,_,rfl,_,_,rfl,rfl,IV (by omega),_,_,rfl,rfl,_,rfl,_,rfl,_,_,rfl,rfl,IV (by omega),_,rfl,_,rfl,_,_,rfl,rfl,IV (by omega),_,_,rfl,rfl,(cz 3),fun pc Zl=>?_⟩
     refine⟨_,rfl,_,rfl,_,_,rfl,rfl,IV (by omega),_,rfl,_,rfl,_,_,rfl,rfl,IV (by omega),_,rfl,_,rfl,_,_,rfl,rfl,IV (by omega),(cz 3),fun pa R5=>?_⟩
     refine⟨_,rfl,pa,pc,_,_,rfl,rfl,aF.of ag,aF.of (ai R5 _ _ _ ag),by simp,(cz 6),(fun z=>by cases z),fun _ z nz=>?_⟩
     have m03:=uM d0 d3
     have m14:=uM d1 d4
     have m25:=uM d2 d5
     have m15:=uM d1 d5
     have m24:=uM d2 d4
     have m05:=uM d0 d5
     have UX:=uM d2 d3
     have m04:=uM d0 d4
     have m13:=uM d1 d3
     exact q z _ ⟨p0*p3,p1*p4,p2*p5,p1*p5+p2*p4,p0*p5+p2*p3,p0*p4+p1*p3⟩ (g1.trans (g2.trans ((ai Zl _).trans ((ai R5 _).trans (ai nz _))))) ag ⟨by show (p0*p3).natAbs<=100;omega,by show (p1*p4).natAbs<=100;omega,by show (p2*p5).natAbs<=100;omega,by show (p1*p5+p2*p4).natAbs<=100;omega,by show (p0*p5+p2*p3).natAbs<=100;omega,by show (p0*p4+p1*p3).natAbs<=100;omega⟩
   ·exact⟨rfl,rfl⟩
  ·exact⟨rfl,rfl⟩
 rintro _ _ ⟨rfl,rfl⟩
 refine⟨_,rfl,rfl,_,rfl,bK (fun c1=>?_) (fun c1=>?_)⟩
 ·exact⟨_,rfl,l,_,rfl,.inl ⟨aM.of hl,fun z nz=>q z _ ⟨s0,s1,s2,s3,s4,s5⟩ (g1.trans (ai nz _)) ag ⟨by show s0.natAbs<=100;omega,by show s1.natAbs<=100;omega,by show s2.natAbs<=100;omega,by show s3.natAbs<=100;omega,by show s4.natAbs<=100;omega,by show s5.natAbs<=100;omega⟩⟩⟩
 refine⟨_,rfl,rfl,_,rfl,bK (fun c2=>?_) (fun c2=>?_)⟩
 ·refine⟨_,rfl,a,ns,_,rfl,CC,by decide,by decide,fun x=>⟨_,_,_,rfl,by decide,by decide,by decide,fun n a0 a1=>⟨_,_,rfl,rfl,?_⟩⟩⟩
  have b6:(n-9).natAbs<=9:=by omega
  refine⟨_,rfl,l,_,_,_,rfl,rfl,aM.of hl,rfl,_,rfl,l,_,_,_,rfl,rfl,aM.of hl,rfl,_,rfl,l,_,_,_,rfl,rfl,aM.of hl,rfl,_,rfl,l,_,_,_,rfl,rfl,aM.of hl,rfl,_,rfl,(cz 6),fun pf M0=>?_⟩
  have f1:=ai M0 (.tup [.int s0,.int s1,.int 0,.int s3,.int s4,.int (n-9)])
  have vG:=f1 _ _ hl
  refine⟨_,rfl,_,rfl,l,_,_,_,rfl,rfl,aM.of vG,rfl,_,_,rfl,rfl,(by show (0:Int)<3;decide),_,_,rfl,rfl,_,rfl,l,_,_,_,rfl,rfl,aM.of vG,rfl,_,_,rfl,rfl,(by show (0:Int)<3;decide),_,_,rfl,rfl,(cz 3),fun pp Zm=>?_⟩
  have e2:(s2%3-1).natAbs<=1:=by omega
  have e5:(s5%3-1).natAbs<=1:=by omega
  have f2:=ai Zm (.tup [.int (s2%3-1),.int (s5%3-1),.int 1])
  have WT:∀ {y:Int},y.natAbs<=1->Bd 601 y:=fun h=>(qP h).mono (by decide)
  refine⟨pf,pp,⟨s0,s1,0,s3,s4,n-9⟩,⟨s2%3-1,s5%3-1,1⟩,rfl,f2 _ _ ag,ag,⟨qQ b0,qQ b1,pj,qQ b3,qQ b4,qQ b6⟩,⟨WT e2,WT e5,B1⟩,?_⟩
  have lw9:=F1 b0 b1 b3 b4 b6 e2 e5
  generalize lw ⟨s0,s1,0,s3,s4,n-9⟩ ⟨s2%3-1,s5%3-1,1⟩=wh at *
  have WU:=f2 _ _ (show (upd H1 pf (.tup [.int s0,.int s1,.int 0,.int s3,.int s4,.int (n-9)])) pf=some (.tup [.int s0,.int s1,.int 0,.int s3,.int s4,.int (n-9)]) from ag)
  have MY:=g1.trans (f1.trans f2)
  generalize (upd (upd H1 pf _) pp _:Hp)=H3 at *
  refine⟨_,rfl,_,rfl,pf,_,rfl,aF.of WU,(by simp[HT.iB]),fun pa R5=>?_⟩
  have f3:=ai R5 (.tup [.int s0,.int s1])
  refine⟨_,rfl,_,_,rfl,rfl,(cz 1),fun pb Zn=>?_⟩
  have f4:=ai Zn (.tup [.int (0-wh)])
  refine⟨pa,pb,_,_,rfl,rfl,aF.of (f4 _ _ ag),aF.of ag,(by intro z;cases z),(cz 3),(fun z=>by cases z),fun _ pd Zo=>?_⟩
  have f5:=ai Zo (.tup [.int s0,.int s1,.int (0-wh)])
  refine⟨_,rfl,_,rfl,pf,_,rfl,aF.of ((f3.trans (f4.trans f5)) _ _ WU),(by simp[HT.iB]),fun pe Zp=>?_⟩
  have f6:=ai Zp (.tup [.int s3,.int s4,.int (n-9)])
  refine⟨pd,pe,_,_,rfl,rfl,aF.of (f6 _ _ ag),aF.of ag,(by intro z;cases z),(cz 6),(fun z=>by cases z),fun _ z nz=>?_⟩
  exact q z _ ⟨s0,s1,0-wh,s3,s4,n-9⟩ (MY.trans (f3.trans (f4.trans (f5.trans (f6.trans (ai nz _)))))) ag ⟨by show s0.natAbs<=100;omega,by show s1.natAbs<=100;omega,by show (0-wh).natAbs<=100;omega,by show s3.natAbs<=100;omega,by show s4.natAbs<=100;omega,by show (n-9).natAbs<=100;omega⟩
 refine⟨_,rfl,a,ns,_,rfl,CC,by decide,by decide,fun x=>⟨x,21,rfl,by decide,by decide,fun r' H2 u v w g2 wg bu bv bw=>?_⟩⟩
 have Zq:u.natAbs<=21:=bu
 have Zr:v.natAbs<=21:=bv
 have Zs:w.natAbs<=21:=bw
 refine⟨r',_,rfl,aF.of wg,rfl,_,_,rfl,_,_,rfl,_,_,rfl,rfl,?_⟩
 refine⟨_,rfl,_,rfl,_,rfl,(cz 6),fun pf M0=>?_⟩
 have f1:=ai M0 (.tup [.int u,.int v,.int w,.int 0,.int 0,.int 0])
 refine⟨_,rfl,rfl,_,rfl,bK (fun c3=>?_) (fun c3=>?_)⟩
 ·exact⟨_,rfl,q pf _ ⟨u,v,w,0,0,0⟩ (g1.trans (g2.trans f1)) ag ⟨by show u.natAbs<=100;omega,by show v.natAbs<=100;omega,by show w.natAbs<=100;omega,by show (0:Int).natAbs<=100;decide,by show (0:Int).natAbs<=100;decide,by show (0:Int).natAbs<=100;decide⟩⟩
 ·exact⟨_,rfl,_,rfl,a,ns,_,rfl,(g2.trans f1).seq CC,by decide,by decide,fun x=>⟨pf,u,v,w,x,rfl,ag,Zq,Zr,Zs,fun z H3 F g3 h3 i3=>q z H3 F (g1.trans (g2.trans (f1.trans g3))) h3 i3⟩⟩
theorem rj (F:Fn K mg "_law_plain_drawn" hZ)(T:Txt K mg t)(dI:aV P w K mg base aU 1 "_law_drawn" ["_law_cell","_law_prime","_law_many"] (mj)):aV P w K mg base aU 2 "_law_plain_drawn" ["_law_cell","_law_most"] (MT):=by
 refine F.ok cG (fun f bh A outer s H vs Q E hr h=>?_)
 obtain⟨c,m,rfl,m1,m2,q⟩:=h
 refine⟨_,ah (bQ (i:=2) cG.nd (cE (aa ae (aa ae (aa ae af)))))
  (ah (fU aaZ rfl (xH K (cE (aa (aJ (aa ae (aa ae af))) (aa (aJ (aa ae (aa ae af))) (aa (aJ (aa ae (aa ae af))) (aa (aJ (aa ae (aa ae af))) af)))))) (GI K (aD (eO (i:=4) cG.nd) (aD (eO (i:=5) cG.nd) dE))) (ah (bQ (i:=6) cG.nd (aq dI hr aB (aa (pv 0) (aa (pv 5) (aa ae af)))))
  (ar (aZ (PW.pt (kP (aE jC (pv 6) ae (aG _)) (iN (aE zJ (aj au (aO (gF K) (pv 2) (pv 6)) (pv 4)) (pv 1) (aG _))))) (ar (gT (aj au (aO (gF K) (pv 2) (pv 6)) (pv 4)) (Kx (pv 2) (pv 6) set_list))) aL))))
  (ah (bQ (i:=3) cG.nd (aq dI hr aB (aa (pv 0) (aa ae (aa ae af)))))
  (ar (aA (cT cU rfl T.jb jc (aa (bX rfl (aI.gen (cl:=[("_law_signs",_),("_law_found",_)]) ["_law_found","_law_signs"] [2,3] [(".0",.local),("_law_k",.local),("_law_found",.cell),("_law_signs",.cell)] rfl) (cD rfl T.eF (aa ae af)) (fun C s0 H0 fp pins=>aj au (aO (gF K) (pv 1) (pv 0)) (aj bM ae (aj au ae (aj KN (aj KL (pv 2) (pv 0)) ae))))) af)))))),?_⟩
 refine⟨(cz 3),fun fl WV=>?_⟩
 have f0:=ai WV (.lst [.int 1,.int 1,.int 1])
 refine⟨(cz 2),fun p1 n1=>⟨(cz 2),fun p2 n2=>⟨(cz 2),fun p3 n3=>⟨(cz 2),fun p4 n4=>⟨(cz 4),fun pl FN=>?_⟩⟩⟩⟩⟩
 have f1:=ai n1 (.tup [.int 2,.int 7937])
 have f2:=ai n2 (.tup [.int 3,.int 7949])
 have f3:=ai n3 (.tup [.int 5,.int 7951])
 have f4:=ai n4 (.tup [.int 7,.int 7963])
 have f5:=ai FN (.lst [.ref p1,.ref p2,.ref p3,.ref p4])
 have h1:=(f2.trans (f3.trans (f4.trans f5))) p1 _ ag
 have h2:=(f3.trans (f4.trans f5)) p2 _ ag
 have h3:=(f4.trans f5) p3 _ ag
 have h4:=f5 p4 _ ag
 have jF:=(f1.trans (f2.trans (f3.trans (f4.trans f5)))) fl _ ag
 have gA:=f0.trans (f1.trans (f2.trans (f3.trans (f4.trans f5))))
 have kH:(upd (upd (upd (upd (upd (upd H fl (.lst [.int 1,.int 1,.int 1])) p1 (.tup [.int 2,.int 7937])) p2 (.tup [.int 3,.int 7949])) p3 (.tup [.int 5,.int 7951])) p4 (.tup [.int 7,.int 7963])) pl (.lst [.ref p1,.ref p2,.ref p3,.ref p4])) pl=some (.lst [.ref p1,.ref p2,.ref p3,.ref p4]):=ag
 generalize (upd (upd (upd (upd (upd (upd H fl _) p1 _) p2 _) p3 _) p4 _) pl _:Hp)=H1 at *
 have M0:pl≠fl:=fun z=>by
  rw[z,jF] at kH
  cases kH
 have row:∀ (i:Nat) (x:V),([.ref p1,.ref p2,.ref p3,.ref p4]:List V)[i]?=some x->∃ (r:Addr) (pr wC:Int),x=.ref r/\H1 r=some (.tup [.int pr,.int wC])/\2<=pr/\pr<=7/\0<wC/\wC<100000:=fun i x ex=>by
  match i,ex with
  | 0,ex=>exact⟨p1,2,7937,(aac ex).symm,h1,by omega,by omega,by omega,by omega⟩
  | 1,ex=>exact⟨p2,3,7949,(aac ex).symm,h2,by omega,by omega,by omega,by omega⟩
  | 2,ex=>exact⟨p3,5,7951,(aac ex).symm,h3,by omega,by omega,by omega,by omega⟩
  | 3,ex=>exact⟨p4,7,7963,(aac ex).symm,h4,by omega,by omega,by omega,by omega⟩
  | n+4,ex=>cases ex
 refine⟨pl,rfl,⟨_,aM.of kH⟩,iA (xs:=[.ref p1,.ref p2,.ref p3,.ref p4]) (fun i σ H'=>∃ (o4 o5 o6:Option V) (x y z:Int),σ=[some (.int c),some (.int m),some (.ref fl),none,o4,o5,o6]/\(∀ b o,b≠fl->H1 b=some o->H' b=some o)/\H' fl=some (.lst [.int x,.int y,.int z])/\UH m x/\UH m y/\UH m z)
  ⟨none,none,none,1,1,1,rfl,fun _ _ _ h=>h,jF,⟨by omega,m1⟩,⟨by omega,m1⟩,⟨by omega,m1⟩⟩ ?_ ?_ ?_⟩
 ·rintro i σ H' hi ⟨o4,o5,o6,x,y,z,rfl,k,_⟩
  exact aM.of (k _ _ M0 kH)
 ·rintro i v σ H' ev ⟨o4,o5,o6,x,y,z,rfl,k,hf,ix,iy,iz⟩
  obtain⟨r,pr,wC,rfl,hr,a1,a2,a3,a4⟩:=row i v ev
  have Zt:r≠fl:=fun w=>by
   rw[w,jF] at hr
   cases hr
  have jw:=k _ _ Zt hr
  obtain⟨NG,NH⟩:=ix
  obtain⟨NI,NJ⟩:=iy
  obtain⟨NK,NL⟩:=iz
  have kp:∀ (o:HO) b u,b≠fl->H1 b=some u->upd H' fl o b=some u:=fun o b u nb e=>by
   rw[aH nb]
   exact k b u nb e
  refine⟨r,_,rfl,aF.of jw,rfl,_,_,rfl,_,_,rfl,rfl,?_⟩
  refine⟨_,rfl,_,rfl,c,wC,5,rfl,a3,a4,by decide,fun n n0 n1=>?_⟩
  refine⟨_,rfl,_,_,rfl,rfl,_,rfl,bK (fun c1=>?_) (fun c1=>?_)⟩
  ·have lt:n<3:=cZ c1
   obtain rfl|rfl|rfl:n=0\/n=1\/n=2:=by omega
   ·refine⟨_,rfl,_,rfl,fl,_,_,_,rfl,rfl,aM.of hf,rfl,_,rfl,_,_,rfl,rfl,kK (by omega) (by omega),_,rfl,_,_,rfl,rfl,_,rfl,bK (fun c2=>?_) (fun c2=>?_)⟩
    ·refine⟨_,rfl,_,rfl,fl,_,_,_,rfl,rfl,aM.of hf,rfl,_,rfl,_,_,rfl,rfl,kK (by omega) (by omega),_,rfl,_,rfl,fl,_,_,0,rfl,rfl,hf,rfl,?_⟩
     refine⟨_,_,_,x*pr,y,z,rfl,kp _,ag,⟨?_,cZ c2⟩,⟨NI,NJ⟩,⟨NK,NL⟩⟩
     have:=aaK (show (1:Int)<=pr by omega) (show 0<=x by omega)
     omega
    ·exact⟨_,_,_,x,y,z,rfl,k,hf,⟨NG,NH⟩,⟨NI,NJ⟩,⟨NK,NL⟩⟩
   ·refine⟨_,rfl,_,rfl,fl,_,_,_,rfl,rfl,aM.of hf,rfl,_,rfl,_,_,rfl,rfl,kK (by omega) (by omega),_,rfl,_,_,rfl,rfl,_,rfl,bK (fun c2=>?_) (fun c2=>?_)⟩
    ·refine⟨_,rfl,_,rfl,fl,_,_,_,rfl,rfl,aM.of hf,rfl,_,rfl,_,_,rfl,rfl,kK (by omega) (by omega),_,rfl,_,rfl,fl,_,_,1,rfl,rfl,hf,rfl,?_⟩
     refine⟨_,_,_,x,y*pr,z,rfl,kp _,ag,⟨NG,NH⟩,⟨?_,cZ c2⟩,⟨NK,NL⟩⟩
     have:=aaK (show (1:Int)<=pr by omega) (show 0<=y by omega)
     omega
    ·exact⟨_,_,_,x,y,z,rfl,k,hf,⟨NG,NH⟩,⟨NI,NJ⟩,⟨NK,NL⟩⟩
   ·refine⟨_,rfl,_,rfl,fl,_,_,_,rfl,rfl,aM.of hf,rfl,_,rfl,_,_,rfl,rfl,kK (by omega) (by omega),_,rfl,_,_,rfl,rfl,_,rfl,bK (fun c2=>?_) (fun c2=>?_)⟩
    ·refine⟨_,rfl,_,rfl,fl,_,_,_,rfl,rfl,aM.of hf,rfl,_,rfl,_,_,rfl,rfl,kK (by omega) (by omega),_,rfl,_,rfl,fl,_,_,2,rfl,rfl,hf,rfl,?_⟩
     refine⟨_,_,_,x,y,z*pr,rfl,kp _,ag,⟨NG,NH⟩,⟨NI,NJ⟩,⟨?_,cZ c2⟩⟩
     have:=aaK (show (1:Int)<=pr by omega) (show 0<=z by omega)
     omega
    ·exact⟨_,_,_,x,y,z,rfl,k,hf,⟨NG,NH⟩,⟨NI,NJ⟩,⟨NK,NL⟩⟩
  ·exact⟨_,_,_,x,y,z,rfl,k,hf,⟨NG,NH⟩,⟨NI,NJ⟩,⟨NK,NL⟩⟩
 ·rintro σ H' ⟨o4,o5,o6,x,y,z,rfl,k,hf,ix,iy,iz⟩
  have gE:av H H':=fun b o e=>k b o (aN e WV) (gA b o e)
  refine⟨_,rfl,c,8009,8,rfl,by decide,by decide,by decide,fun sg s0 s1=>?_⟩
  refine⟨3,rfl,by decide,by decide,eT 3 (by decide) (fun i vs _=>∃ ms:List Int,vs=ms.map V.int/\ms.length=i/\∀ w∈ms,w.natAbs<=m.natAbs) (fun _ _=>⟨[],rfl,rfl,fun _ h=>by cases h⟩) ?_ ?_⟩
  ·intro i vs H2 acc Q' hi g h0 ha r hl kk
   have Uh:=g _ _ hf
   obtain⟨ms,rfl,ml,mb⟩:=r
   obtain⟨w,ew,w1,w2⟩:∃ w:Int,xG [V.int x,.int y,.int z] (0+(i:Int))=some (.int w)/\1<=w/\w<=m:=by
    obtain rfl|rfl|rfl:=RW hi
    ·exact⟨x,rfl,ix⟩
    ·exact⟨y,rfl,iy⟩
    ·exact⟨z,rfl,iz⟩
   refine⟨_,rfl,_,rfl,fl,_,_,_,rfl,rfl,aM.of Uh,ew,_,rfl,_,rfl,_,_,rfl,rfl,(by show (0:Int)<=0+(i:Int);omega),_,_,rfl,rfl,_,_,rfl,rfl,Mx,_,_,rfl,rfl,_,_,rfl,rfl,?_,?_⟩
   ·exact kK (by omega) (by omega)
   ·refine kk _ _ (av.refl _) ⟨ms++[_],by rw[aaS];rfl,by simp[ml],fun u hu=>?_⟩
    rcases aa9.mp hu with hu|hu
    ·exact mb u hu
    ·rw[aaY.mp hu]
     rcases Qu (sg / 2^(0+(i:Int)).toNat) with e|e<;>rw[e]<;>omega
  ·intro l H2 vs g nl hl _ r
   obtain⟨ms,rfl,ml,mb⟩:=r
   match ms,ml,mb with
   | [u,v,w],_,mb=>
    exact⟨l,_,rfl,.inl ⟨aM.of hl,fun zz nz=>q zz _ u v w (gE.trans (g.trans (ai nz _))) ag (mb u (by simp)) (mb v (by simp)) (mb w (by simp))⟩⟩
theorem zk (F:Fn K mg "_law_sheared" mX)(T:Txt K mg t)(dI:aV P w K mg base aU 1 "_law_drawn" ["_law_cell","_law_prime","_law_many"] (mj))(fQ:aV P w K mg base aU 2 "_law_changed" ["_law_form_here","_law_table"] (IQ)):aV P w K mg base aU 3 "_law_sheared" ["_law_form_here","_law_cell"] (FZ):=by
 refine F.ok jh (fun f bh A outer s H vs Q E hr h=>?_)
 obtain⟨p,a,b,c,k,rfl,hp,ha,hb,hc,q⟩:=h
 refine⟨_,ah (jI (k:=2) jh.nd rfl (Or.inl rfl) rfl rfl (aI.gen (cl:=[("_law_cell",_)]) ["_law_cell"] [1] [(".0",.local),("_law_prime",.local),("_law_drawn",.globalImplicit),("_law_cell",.cell)] rfl) (xH K (cE (aa ae (aa ae (aa ae af))))) (fun C s0 H0 fp pins=>aj bM (aq dI hr aB (aa (pv 1) (aa (pv 0) (aa ae af)))) ae) (Or.inl rfl))
  (ah (bQ (i:=3) jh.nd (aJ (aa (aJ (aa ae (aa (aO (gF K) (pv 2) ae) (aa ae af)))) (aa (aJ (aa ae (aa ae (aa ae af)))) (aa (aJ (aa (aO (gF K) (pv 2) ae) (aa ae (aa ae af)))) af)))))
  (dO (aZ (aE bB (aO (gF K) (pv 2) ae) ae (aG _)) (ar (bQ (i:=3) jh.nd (aJ (aa (aJ (aa ae (aa ae (aa ae af)))) (aa (aJ (aa (aO (gF K) (pv 2) ae) (aa ae (aa (aO (gF K) (pv 2) ae) af)))) (aa (aJ (aa ae (aa ae (aa ae af)))) af)))))) aL)
  (ar (aA (aq fQ hr aB (aa (pv 0) (aa (pv 3) af))))))),?_⟩
 have bF:BF 600 (⟨a,b,c,0,0,0⟩:F6):=⟨mn ha,mn hb,mn hc,pj,pj,pj⟩
 refine⟨(cz 3),fun pl FN=>?_⟩
 have g0:=ai FN (.lst [.int 7951,.int 7963,.int 7993])
 refine⟨pl,rfl,⟨_,aM.of ag⟩,iU (xs:=[.int 7951,.int 7963,.int 7993]) (sC 3) (fun H' g=>aM.of (g _ _ ag)) (fun i vs _=>MQ i vs) (fun _ _=>⟨[],rfl,rfl,fun _ h=>by cases h⟩) ?_ ?_⟩
 ·intro i x vs H' acc Q' ex g _ Nu rr hv kk
  obtain⟨n,rfl,en⟩:=get3 ex
  have hn:0<n/\n<100000:=by
   match i,ex with
   | 0,ex=>cases ex;omega
   | 1,ex=>cases ex;omega
   | 2,ex=>cases ex;omega
   | j+3,ex=>cases ex
  exact⟨_,rfl,_,rfl,k,n,3,rfl,hn.1,hn.2,by decide,fun m m0 m1=>⟨_,_,rfl,rfl,kk _ _ (av.refl _) (rr.next (by omega))⟩⟩
 intro st H1 vs g1 _ oQ _ rr
 obtain⟨x,y,z,rfl,hx,hy,hz⟩:=MQ.three rr
 have GQ:=(g0.trans g1) _ _ hp
 refine⟨_,rfl,st,_,_,_,rfl,rfl,aM.of oQ,rfl,(cz 3),fun p1 n1=>⟨(cz 3),fun p2 n2=>⟨_,rfl,st,_,_,_,rfl,rfl,aM.of (ai n2 _ _ _ (ai n1 _ _ _ oQ)),rfl,(cz 3),fun p3 n3=>⟨(cz 3),fun p4 n4=>?_⟩⟩⟩⟩
 have f1:=ai n1 (.tup [.int 1,.int x,.int 0])
 have f2:=ai n2 (.tup [.int 0,.int 1,.int 0])
 have f3:=ai n3 (.tup [.int y,.int 0,.int 1])
 have f4:=ai n4 (.tup [.ref p1,.ref p2,.ref p3])
 have gt:=f1.trans (f2.trans (f3.trans f4))
 have hT:ST (upd (upd (upd (upd H1 p1 (.tup [.int 1,.int x,.int 0])) p2 (.tup [.int 0,.int 1,.int 0])) p3 (.tup [.int y,.int 0,.int 1])) p4 (.tup [.ref p1,.ref p2,.ref p3])) p4 ⟨⟨1,x,0⟩,⟨0,1,0⟩,⟨y,0,1⟩⟩:=
  ⟨p1,p2,p3,ag,(f2.trans (f3.trans f4)) p1 _ ag,(f3.trans f4) p2 _ ag,f4 p3 _ ag⟩
 have M1:=gt _ _ oQ
 have q8:=gt _ _ GQ
 have gA:=g0.trans (g1.trans gt)
 generalize (upd (upd (upd (upd H1 p1 _) p2 _) p3 _) p4 _:Hp)=H2 at *
 refine⟨fun σ' H'=>∃ (tp:Addr) (t':T3),σ'=[some (.ref p),some (.int k),some (.ref st),some (.ref tp)]/\av H2 H'/\ST H' tp t'/\BT 600 t'/\fE (ch ⟨a,b,c,0,0,0⟩ t'),?_,?_⟩
 ·refine⟨_,rfl,st,_,_,_,rfl,rfl,aM.of M1,rfl,rfl,_,rfl,bK (fun _=>?_) (fun _=>?_)⟩
  ·refine⟨(cz 3),fun p5 n5=>⟨_,rfl,st,_,_,_,rfl,rfl,aM.of (ai n5 _ _ _ M1),rfl,_,rfl,st,_,_,_,rfl,rfl,aM.of (ai n5 _ _ _ M1),rfl,(cz 3),fun p6 n6=>⟨(cz 3),fun p7 n7=>⟨(cz 3),fun p8 n8=>?_⟩⟩⟩⟩
   have f5:=ai n5 (.tup [.int 1,.int 0,.int 0])
   have f6:=ai n6 (.tup [.int x,.int 1,.int y])
   have f7:=ai n7 (.tup [.int 0,.int 0,.int 1])
   have f8:=ai n8 (.tup [.ref p5,.ref p6,.ref p7])
   exact⟨p8,⟨⟨1,0,0⟩,⟨x,1,y⟩,⟨0,0,1⟩⟩,rfl,f5.trans (f6.trans (f7.trans f8)),⟨p5,p6,p7,ag,(f6.trans (f7.trans f8)) p5 _ ag,(f7.trans f8) p6 _ ag,f8 p7 _ ag⟩,⟨⟨B1,pj,pj⟩,⟨qP hx,B1,qP hy⟩,⟨pj,pj,B1⟩⟩,MS ha hb hc hx hy⟩
  ·exact⟨p4,_,rfl,av.refl _,hT,⟨⟨B1,qP hx,pj⟩,⟨pj,B1,pj⟩,⟨qP hy,pj,B1⟩⟩,MR ha hb hc hx hy⟩
 rintro _ H3 ⟨tp,t',rfl,g3,Zu,bt,Zv⟩
 exact⟨_,rfl,_,rfl,p,tp,_,t',rfl,g3 _ _ q8,Zu,bF,bt.mono,fun r H4 g4 h4=>q r H4 _ (gA.trans (g3.trans g4)) h4 Zv⟩
theorem ju (F:Fn K mg "is_without_squares" dh)(T:Txt K mg t)(dW:aV P w K mg base aU 3 "core_of" ["number"] (pC)):aV P w K mg base aU 4 "is_without_squares" ["number"] (y4):=by
 refine F.ok jt (fun f bh A outer s H vs Q E hr h=>?_)
 obtain⟨n,rfl,n0,n6,sq,q⟩:=h
 refine⟨_,ar (aA (pH (dF kG (pv 0) ae (aG _)) (my (dF bB (aO (a8 K) (aq dW hr aB (aa (pv 0) af)) ae) ae (aG _))))),?_⟩
 unfold qM at n6
 refine⟨_,rfl,rfl,_,rfl,Ux (by rw[aa5 (fun z=>n0 (aP z))];rfl) ?_⟩
 refine⟨_,rfl,n,rfl,n0,by omega,by omega,fun p xs H1 g1 told hp=>⟨p,_,_,_,rfl,rfl,aF.of hp,rfl,rfl,?_⟩⟩
 have r1:Pr.bI xs=1:=Ei told fun p hp z=>sq p hp (abs_dvd.mp z)
 have fin:Q (.bl (decide (V.int (Pr.bI xs)=V.int 1))) H1:=by
  rw[abr (aa2 V.int r1)]
  exact q _ g1
 exact fin
theorem rk (F:Fn K mg "sign_of_two" gX)(T:Txt K mg t) :aV P w K mg base aU 1 "sign_of_two" ["odd"] (ux):=by
 refine F.ok qU (fun f bh A outer s H vs Q E hr h=>?_)
 obtain⟨x,rfl,q⟩:=h
 refine⟨_,ar (aA (jA (aE su (aj bj (pv 0) ae) (aJ (aa ae (aa ae af))) (by with_unfolding_all rfl)) (jq fi ae) ae)),?_⟩
 refine⟨_,rfl,_,_,rfl,rfl,(by show (0:Int)<8;decide),(cz 2),fun p hp=>?_⟩
 have g:=ai hp (.tup [.int 3,.int 5])
 refine⟨_,_,rfl,.inr (aF.of ag),rfl,rfl,Jy (.int (x%8)) [.int 3,.int 5],rfl,?_⟩
 rw[UA]
 refine bK (fun c=>?_) (fun c=>?_)
 ·have e:Jc.cF x=-1:=by unfold Jc.cF;rw[aaz (cZ c)]
  have q':=q _ g
  rw[e] at q'
  exact⟨_,rfl,q'⟩
 ·have e:Jc.cF x=1:=by unfold Jc.cF;rw[aar (dX c)]
  have q':=q _ g
  rw[e] at q'
  exact q'
theorem oN (F:Fn K mg "sign_of_turn" gh)(T:Txt K mg t) :aV P w K mg base aU 1 "sign_of_turn" ["one","other"] (pB):=by
 refine F.ok oJ (fun f bh A outer s H vs Q E hr h=>?_)
 obtain⟨a,b,rfl,q⟩:=h
 refine⟨_,ar (aA (jA (PW.pt (kP (aE bB (aj bj (pv 0) ae) ae (aG _)) (iN (aE bB (aj bj (pv 1) ae) ae (aG _))))) (jq fi ae) ae)),?_⟩
 unfold Jc.bH at q
 refine⟨_,rfl,_,_,rfl,rfl,(by show (0:Int)<4;decide),rfl,_,rfl,?_⟩
 refine bK (fun c=>?_) (fun c=>?_)
 ·have c1:a%4=3:=aP (cZ c)
  refine⟨_,rfl,_,_,rfl,rfl,(by show (0:Int)<4;decide),rfl,_,rfl,?_⟩
  refine bK (fun c=>?_) (fun c=>?_)
  ·have c2:b%4=3:=aP (cZ c)
   rw[aaz ⟨c1,c2⟩] at q
   exact⟨_,rfl,q⟩
  ·rw[aar fun z=>dX c (aa2 V.int z.2)] at q
   exact q
 ·rw[aar fun z=>dX c (aa2 V.int z.1)] at q
  exact gU q
theorem zm (F:Fn K mg "sign_by" mS)(T:Txt K mg t)(bO:aV P w K mg base aU 1 "taken_out" ["number","prime"] (mh))(cw:aV P w K mg base aU 1 "sign_of_two" ["odd"] (ux))(cH:aV P w K mg base aU 1 "sign_of_turn" ["one","other"] (pB)):aV P w K mg base aU 2 "sign_by" ["number","n"] (yZ):=by
 refine F.ok cq (fun f bh A outer s H vs Q E hr h=>?_)
 obtain⟨x,n,rfl,n0,no,nb,q⟩:=h
 refine⟨_,ah (aZ (PW.pt (zE (aE jC (pv 1) ae (aG _)) (tF (aE bB (aj bj (pv 1) ae) ae (aG _))))) fN aL)
  (ah (bQ (i:=2) cq.nd ae)
  (ah (bQ (i:=3) cq.nd (aj bj (pv 0) (pv 1)))
  (ah (bQ (i:=4) cq.nd (pv 1))
  (ah (dZ aaZ (aE kG (pv 3) ae (aG _)) (ah (bQ (i:=5) cq.nd (aq bO hr aB (aa (pv 3) (aa ae af))))
  (ah (bQ (i:=6) cq.nd (aO (a8 K) (pv 5) ae))
  (dO (aZ (aE bB (aj bj (aO (a8 K) (pv 5) ae) ae) ae (aG _)) (ar (bQ (i:=2) cq.nd (aj au (pv 2) (aq cw hr aB (aa (pv 4) af))))) aL)
  (ah (bQ (i:=2) cq.nd (aj au (pv 2) (aq cH hr aB (aa (pv 6) (aa (pv 4) af)))))
  (ah (bQ (i:=3) cq.nd (aj bj (pv 4) (pv 6)))
  (ar (bQ (i:=4) cq.nd (pv 6)))))))))
  (ar (aA (jA (aE bB (pv 4) ae (aG _)) (pv 2) ae))))))),?_⟩
 refine⟨_,rfl,_,_,rfl,rfl,_,rfl,l9 (show ¬ n<1 by omega) ⟨_,rfl,_,_,rfl,rfl,(by show (0:Int)<2;decide),rfl,_,rfl,l9 (fun z=>by have:=aP z;omega) ?_⟩⟩
 refine⟨_,rfl,_,rfl,_,_,rfl,rfl,n0,?_⟩
 refine⟨_,rfl,?_⟩
 have t0:=aba x (show n≠0 by omega)
 have t1:=abJ x n0
 refine⟨WS x n H,⟨_,1,x%n,n,none,none,rfl,av.refl H,t0,n0,no,nb,by omega,.inl rfl,by rw[aaN];exact Jc.Ao (aeT x n),rfl⟩,?_⟩
 rintro m σ H1 ⟨sg,top,bot,tw,od,rfl,g1,tp,bp,bo,bb,tb,Zw,e,rfl⟩
 refine⟨_,rfl,rfl,_,rfl,?_⟩
 refine bK (fun c=>?_) (fun c=>?_)
 ·have tn:top≠0:=fun z=>neT c (aa2 V.int z)
  refine⟨fun σ' H2=>∃ m',m'<top.toNat/\WS x n H m' σ' H2,fun _ _ h=>h,?_⟩
  refine⟨_,rfl,top,2,rfl,tn,by decide,by decide,fun r H2 o l g2 wg IY o0 zl l0 lx sp sn=>?_⟩
  have lp:=sp (by omega)
  have lo:l%2=1:=by
   have z:l.fmod 2=l%2:=Int.fmod_eq_emod_of_nonneg l (by decide)
   rw[z] at zl
   omega
  refine⟨_,rfl,r,_,_,_,rfl,rfl,aF.of wg,rfl,?_⟩
  refine⟨fun σ' H3=>σ'=[some (.int x),some (.int n),some (.int (sg*(if o%2=1 then Jc.cF bot else 1))),some (.int top),some (.int bot),some (.ref r),some (.int l)]/\av H2 H3,?_,?_⟩
  ·refine⟨_,rfl,r,_,_,_,rfl,rfl,aF.of wg,rfl,_,_,rfl,rfl,(by show (0:Int)<2;decide),rfl,_,rfl,?_⟩
   refine bK (fun c=>?_) (fun c=>?_)
   ·rw[aaz (aP (cZ c))]
    refine⟨_,rfl,_,rfl,bot,rfl,fun H3 g3=>⟨_,_,rfl,rfl,rV ?_ ?_,rfl,g3⟩⟩
    all_goals rcases pA bot with h|h<;>rw[h]<;>decide
   ·rw[aar fun z=>dX c (aa2 V.int z),abl]
    exact⟨rfl,av.refl _⟩
  rintro _ H3 ⟨rfl,g3⟩
  refine⟨_,rfl,_,rfl,_,rfl,l,bot,rfl,_,_,rfl,rfl,rV ?_ ?_,?_⟩
  ·rcases qL l bot with h|h<;>rw[h]<;>decide
  ·rcases qL l bot with h|h<;>rw[h]<;>decide
  refine⟨_,rfl,_,rfl,_,_,rfl,rfl,lp,?_⟩
  have r0:=aba bot (show l≠0 by omega)
  have r1:=abJ bot lp
  refine⟨_,rfl,(bot%l).toNat,by omega,_,bot%l,l,_,_,rfl,(g1.trans g2).trans g3,r0,lp,lo,by omega,by omega,?_,?_,rfl⟩
  ·rcases Zw with h|h<;>rcases qL l bot with h2|h2<;>rw[h,h2]<;>split<;>first|(rcases pA bot with h3|h3<;>rw[h3]<;>decide)|decide
  ·rw[<- e]
   have st:=Jc.LW bp bo lp lo o0
   rw[<- IY.eq] at st
   rw[st,aaq sg,aaq sg]
 ·have tz:top=0:=aP (RP c)
  subst tz
  refine⟨_,rfl,rfl,_,rfl,?_⟩
  refine bK (fun c=>?_) (fun c=>?_)
  ·have b1:bot=1:=aP (cZ c)
   subst b1
   rw[Jc.O2,abl] at e
   subst e
   exact⟨_,rfl,q _ g1⟩
  ·have b1:bot≠1:=fun z=>dX c (aa2 V.int z)
   rw[Jc.LS bp b1,aaI] at e
   have q':=q _ g1
   rw[<- e] at q'
   exact q'
theorem xp (F:Fn K mg "is_plain" lA)(T:Txt K mg t)(dA:aV P w K mg base aU 4 "is_without_squares" ["number"] (y4))(a5:aV P w K mg base aU 2 "shares_of" ["one","other"] (iG)):aV P w K mg base aU 5 "is_plain" ["a","b","c"] (uB):=by
 refine F.ok xh (fun f bh A outer s H vs Q E hr h=>?_)
 obtain⟨a,b,c,rfl,P,a6,b6,c6,q⟩:=h
 refine⟨_,ah (aZ (kQ (eN (aS (lW rfl) rfl T.AR AU (aa (bX rfl (aI.gen (cl:=[]) [] [] [(".0",.local),("number",.local),("is_without_squares",.globalImplicit)] rfl) (Bs K (aJ (aa (pv 0) (aa (pv 1) (aa (pv 2) af))))) (fun C s0 H0 fp pins=>aq dA hr aB (aa (pv 0) af))) af)) (fun _=>rfl))) (ar (aA kF)) aL)
  (ar (aA (aS (lW rfl) rfl T.AR AU (aa (jK rfl (bD.gen (cl:=[]) [] [] [(".0",.local),("one",.local),("other",.local),("shares_of",.globalImplicit)] rfl) (Bs K (aJ (aa (aJ (aa (pv 0) (aa (pv 1) af))) (aa (aJ (aa (pv 1) (aa (pv 2) af))) (aa (aJ (aa (pv 2) (aa (pv 0) af))) af))))) (fun C s0 H0 fp pins=>dF bB (aO (a8 K) (aq a5 hr aB (aa (pv 0) (aa (pv 1) af))) ae) ae (aG _))) af)))),?_⟩
 refine⟨_,rfl,_,rfl,_,rfl,(cz 3),fun p0 n0=>?_⟩
 have f0:=ai n0 (.tup [.int a,.int b,.int c])
 refine⟨p0,rfl,⟨_,aF.of ag⟩,mH (xs:=[.int a,.int b,.int c]) (aF.of ag) (sC 3) (fun _=>.bl true) (fun H' g=>aF.of (g _ _ ag)) ?_ ?_⟩
 ·intro i x H' Q' ex g k
  obtain⟨n,rfl,h1,h2,h3⟩:∃ n:Int,x=.int n/\n≠0/\qM n/\(∀ p,Pr.aR p->¬ p*p∣n):=by
   match i,ex with
   | 0,e=>exact⟨a,(aac e).symm,P.a0,a6,P.sa⟩
   | 1,e=>exact⟨b,(aac e).symm,P.b0,b6,P.sb⟩
   | 2,e=>exact⟨c,(aac e).symm,P.c0,c6,P.sc⟩
   | n+3,e=>cases e
  exact⟨_,rfl,n,rfl,h1,h2,h3,fun H2 g2=>k _ g2⟩
 intro l1 H1 g1 _ vG
 refine⟨l1,[true,true,true],rfl,vG,_,rfl,gU ?_⟩
 refine⟨_,rfl,_,rfl,(cz 2),fun m0 k0=>⟨_,rfl,_,rfl,(cz 2),fun m1 k1=>⟨_,rfl,_,rfl,(cz 2),fun m2 k2=>⟨(cz 3),fun m3 k3=>?_⟩⟩⟩⟩
 have e0:=ai k0 (.tup [.int a,.int b])
 have e1:=ai k1 (.tup [.int b,.int c])
 have e2:=ai k2 (.tup [.int c,.int a])
 have e3:=ai k3 (.tup [.ref m0,.ref m1,.ref m2])
 have w0:=(e1.trans (e2.trans e3)) m0 _ ag
 have w1:=(e2.trans e3) m1 _ ag
 have w2:=e3 m2 _ ag
 have big:∀ {n:Int},qM n->n.natAbs<=Lm:=fun h=>aag h (by rw[md];decide +kernel)
 refine⟨m3,rfl,⟨_,aF.of ag⟩,ym (xs:=[.ref m0,.ref m1,.ref m2]) (fun H' g=>aF.of (g _ _ ag)) (sC 3) (fun i=>.int ([a,b,c].getD i 0)) (fun i=>.int ([b,c,a].getD i 0)) (fun _=>.bl true) ?_ ?_ ?_⟩
 ·intro i x e
  match i,e with
  | 0,e=>exact⟨m0,(aac e).symm,w0⟩
  | 1,e=>exact⟨m1,(aac e).symm,w1⟩
  | 2,e=>exact⟨m2,(aac e).symm,w2⟩
  | n+3,e=>cases e
 ·intro i H' Q' hi g k
  obtain⟨x,y,ex,ey,hx,hy,GL,x0⟩:∃ x y:Int,[a,b,c].getD i 0=x/\[b,c,a].getD i 0=y/\qM x/\qM y/\(∀ p,Pr.aR p->p∣x->¬ p∣y)/\x≠0:=by
   have Zx:i<3:=hi
   obtain rfl|rfl|rfl:i=0\/i=1\/i=2:=by omega
   ·exact⟨a,b,rfl,rfl,a6,b6,P.ab,P.a0⟩
   ·exact⟨b,c,rfl,rfl,b6,c6,P.bc,P.b0⟩
   ·exact⟨c,a,rfl,rfl,c6,a6,P.ca,P.c0⟩
  rw[ex,ey]
  refine⟨_,rfl,_,rfl,x,y,rfl,big hx,big hy,fun z H2 gg s' t' g2 hz g0 eg ⟨u1,v1⟩ ⟨u2,v2⟩ _ _=>⟨z,_,_,_,rfl,rfl,aF.of hz,rfl,rfl,?_⟩⟩
  have one:gg=1:=gcd_one GL x0 g0 ⟨u1,by rw[aao];exact v1⟩ ⟨u2,by rw[aao];exact v2⟩
  have kk:=k H2 g2
  have fin:Q' (.bl (decide (V.int gg=V.int 1))) H2:=by
   rw[abr (aa2 V.int one)]
   exact kk
  exact fin
 ·intro l2 H2 g2 _ rM
  exact⟨l2,[true,true,true],rfl,rM,q _ (f0.trans (g1.trans (e0.trans (e1.trans (e2.trans (e3.trans g2))))))⟩
theorem rm (F:Fn K mg "sign_at_two" gZ)(T:Txt K mg t)(cw:aV P w K mg base aU 1 "sign_of_two" ["odd"] (ux))(cH:aV P w K mg base aU 1 "sign_of_turn" ["one","other"] (pB)):aV P w K mg base aU 2 "sign_at_two" ["one","other"] (uz):=by
 refine F.ok eH (fun f bh A outer s H vs Q E hr h=>?_)
 obtain⟨r1,r2,o1,l1,o2,l2,rfl,h1,h2,q⟩:=h
 refine⟨_,ah (bQ (i:=2) eH.nd (aq cH hr aB (aa (aO (a8 K) (pv 0) ae) (aa (aO (a8 K) (pv 1) ae) af))))
  (dO (aZ (aE bB (aj bj (aO (a8 K) (pv 0) ae) ae) ae (aG _)) (ar (bQ (i:=2) eH.nd (aj au (pv 2) (aq cw hr aB (aa (aO (a8 K) (pv 1) ae) af))))) aL)
  (dO (aZ (aE bB (aj bj (aO (a8 K) (pv 1) ae) ae) ae (aG _)) (ar (bQ (i:=2) eH.nd (aj au (pv 2) (aq cw hr aB (aa (aO (a8 K) (pv 0) ae) af))))) aL)
  (ar (aA (pv 2))))),?_⟩
 unfold Jc.iE at q
 refine⟨_,rfl,r1,_,_,_,rfl,rfl,aF.of h1,rfl,_,rfl,r2,_,_,_,rfl,rfl,aF.of h2,rfl,l1,l2,rfl,?_⟩
 refine⟨fun σ' H'=>σ'=[some (.ref r1),some (.ref r2),some (.int (Jc.bH l1 l2*(if o1%2=1 then Jc.cF l2 else 1)))]/\av H H',?_,?_⟩
 ·refine⟨_,rfl,r1,_,_,_,rfl,rfl,aF.of h1,rfl,_,_,rfl,rfl,(by show (0:Int)<2;decide),rfl,_,rfl,?_⟩
  refine bK (fun c=>?_) (fun c=>?_)
  ·rw[aaz (aP (cZ c))]
   refine⟨_,rfl,_,rfl,r2,_,_,_,rfl,rfl,aF.of h2,rfl,l2,rfl,fun H1 g1=>⟨_,_,rfl,rfl,rV ?_ ?_,rfl,g1⟩⟩
   all_goals rcases pA l2 with h|h<;>rw[h]<;>decide
  ·rw[aar fun z=>dX c (aa2 V.int z),abl]
   exact⟨rfl,av.refl H⟩
 rintro _ H1 ⟨rfl,g1⟩
 refine⟨fun σ' H'=>σ'=[some (.ref r1),some (.ref r2),some (.int (Jc.bH l1 l2*(if o1%2=1 then Jc.cF l2 else 1)*(if o2%2=1 then Jc.cF l1 else 1)))]/\av H H',?_,?_⟩
 ·refine⟨_,rfl,r2,_,_,_,rfl,rfl,aF.of (g1 _ _ h2),rfl,_,_,rfl,rfl,(by show (0:Int)<2;decide),rfl,_,rfl,?_⟩
  refine bK (fun c=>?_) (fun c=>?_)
  ·rw[aaz (aP (cZ c))]
   refine⟨_,rfl,_,rfl,r1,_,_,_,rfl,rfl,aF.of (g1 _ _ h1),rfl,l1,rfl,fun H2 g2=>⟨_,_,rfl,rfl,rV ?_ ?_,rfl,g1.trans g2⟩⟩
   all_goals rcases pA l1 with h|h<;>rw[h]<;>decide
  ·rw[aar fun z=>dX c (aa2 V.int z),abl]
   exact⟨rfl,g1⟩
 rintro _ H2 ⟨rfl,g2⟩
 exact⟨_,rfl,q _ g2⟩
theorem rn (F:Fn K mg "sign_at_odd" gY)(T:Txt K mg t)(iK:aV P w K mg base aU 2 "sign_by" ["number","n"] (yZ)):aV P w K mg base aU 3 "sign_at_odd" ["one","other","prime"] (uA):=by
 refine F.ok gx (fun f bh A outer s H vs Q E hr h=>?_)
 obtain⟨r1,r2,o1,l1,o2,l2,p,rfl,h1,h2,p0,po,pb,lb,q⟩:=h
 refine⟨_,ah (bQ (i:=3) gx.nd (dF bB (aj bj (aO (a8 K) (pv 0) ae) ae) ae (aG _)))
  (ah (bQ (i:=4) gx.nd (dF bB (aj bj (aO (a8 K) (pv 1) ae) ae) ae (aG _)))
  (ah (aZ (PW.pt (kP (eN (pv 3) (fun _=>rfl)) (iN (eN (pv 4) (fun _=>rfl))))) (ar (aA (aq iK hr aB (aa (aj au (jq fi (aO (a8 K) (pv 0) ae)) (aO (a8 K) (pv 1) ae)) (aa (pv 2) af))))) aL)
  (ah (aZ (eN (pv 3) (fun _=>rfl)) (ar (aA (aq iK hr aB (aa (aO (a8 K) (pv 1) ae) (aa (pv 2) af))))) aL)
  (ah (aZ (eN (pv 4) (fun _=>rfl)) (ar (aA (aq iK hr aB (aa (aO (a8 K) (pv 0) ae) (aa (pv 2) af))))) aL)
  (ar (aA ae)))))),?_⟩
 unfold Jc.gG at q
 refine⟨_,rfl,r1,_,_,_,rfl,rfl,aF.of h1,rfl,_,_,rfl,rfl,(by show (0:Int)<2;decide),rfl,?_⟩
 refine⟨_,rfl,r2,_,_,_,rfl,rfl,aF.of h2,rfl,_,_,rfl,rfl,(by show (0:Int)<2;decide),rfl,?_⟩
 by_cases c1:o1%2=1
 ·have e1:decide (V.int (o1%2)=V.int 1)=true:=abr (aa2 V.int c1)
  by_cases c2:o2%2=1
  ·have e2:decide (V.int (o2%2)=V.int 1)=true:=abr (aa2 V.int c2)
   rw[aaz c1,aaz c2] at q
   rw[e1,e2]
   refine⟨_,rfl,_,rfl,lP ⟨_,rfl,_,rfl,lP ?_⟩⟩
   exact⟨_,rfl,r1,_,_,_,rfl,rfl,aF.of h1,rfl,_,rfl,_,rfl,r2,_,_,_,rfl,rfl,aF.of h2,rfl,_,_,rfl,rfl,bV (Qw lb.1) lb.2,_,rfl,-l1*l2,p,rfl,p0,po,pb,fun H' g=>q _ g⟩
  ·have e2:decide (V.int (o2%2)=V.int 1)=false:=aa5 fun z=>c2 (aP z)
   rw[aaz c1,aar c2] at q
   rw[e1,e2]
   refine⟨_,rfl,_,rfl,lP ⟨_,rfl,_,rfl,gU ?_⟩⟩
   refine⟨_,rfl,_,rfl,lP ?_⟩
   exact⟨_,rfl,r2,_,_,_,rfl,rfl,aF.of h2,rfl,_,rfl,l2,p,rfl,p0,po,pb,fun H' g=>q _ g⟩
 ·have e1:decide (V.int (o1%2)=V.int 1)=false:=aa5 fun z=>c1 (aP z)
  by_cases c2:o2%2=1
  ·have e2:decide (V.int (o2%2)=V.int 1)=true:=abr (aa2 V.int c2)
   rw[aar c1,aaz c2] at q
   rw[e1,e2]
   refine⟨_,rfl,_,rfl,gU (gU ?_)⟩
   refine⟨_,rfl,_,rfl,gU ?_⟩
   refine⟨_,rfl,_,rfl,lP ?_⟩
   exact⟨_,rfl,r1,_,_,_,rfl,rfl,aF.of h1,rfl,_,rfl,l1,p,rfl,p0,po,pb,fun H' g=>q _ g⟩
  ·have e2:decide (V.int (o2%2)=V.int 1)=false:=aa5 fun z=>c2 (aP z)
   rw[aar c1,aar c2] at q
   rw[e1,e2]
   refine⟨_,rfl,_,rfl,gU (gU ?_)⟩
   refine⟨_,rfl,_,rfl,gU ?_⟩
   refine⟨_,rfl,_,rfl,gU ?_⟩
   exact q _ (av.refl H)
theorem zo (F:Fn K mg "sign_at" mU)(T:Txt K mg t)(bO:aV P w K mg base aU 1 "taken_out" ["number","prime"] (mh))(ik:aV P w K mg base aU 2 "sign_at_two" ["one","other"] (uz))(il:aV P w K mg base aU 3 "sign_at_odd" ["one","other","prime"] (uA)):aV P w K mg base aU 4 "sign_at" ["a","b","place"] (ME):=by
 refine F.ok lG (fun f bh A outer s H vs Q E hr h=>?_)
 obtain⟨a,b,p,v,rfl,a0,b0,bb,hv,q⟩:=h
 refine⟨_,ah (aZ (aE bB (pv 2) ae (aG _)) (ar (aA (jA (PW.pt (kP (aE jC (pv 0) ae (aG _)) (iN (aE jC (pv 1) ae (aG _))))) (jq fi ae) ae))) aL)
  (ah (bQ (i:=3) lG.nd (aq bO hr aB (aa (pv 0) (aa (pv 2) af))))
  (ah (bQ (i:=4) lG.nd (aq bO hr aB (aa (pv 1) (aa (pv 2) af))))
  (ah (aZ (aE bB (pv 2) ae (aG _)) (ar (aA (aq ik hr aB (aa (pv 3) (aa (pv 4) af))))) aL)
  (ar (aA (aq il hr aB (aa (pv 3) (aa (pv 4) (aa (pv 2) af))))))))),?_⟩
 rcases hv with ⟨rfl,hv⟩|⟨hp,pb,o1,l1,o2,l2,d1,d2,hv⟩
 ·refine⟨_,rfl,rfl,_,rfl,lP ?_⟩
  refine⟨_,rfl,_,_,rfl,rfl,_,rfl,?_⟩
  subst hv
  have q:=q H (av.refl H)
  refine bK (fun c=>?_) (fun c=>?_)
  ·have c1:a<0:=cZ c
   refine⟨_,rfl,_,_,rfl,rfl,_,rfl,?_⟩
   refine bK (fun c=>?_) (fun c=>?_)
   ·rw[aaz ⟨c1,cZ c⟩] at q
    exact⟨_,rfl,q⟩
   ·rw[aar fun z=>dX c z.2] at q
    exact q
  ·rw[aar fun z=>dX c z.1] at q
   exact gU q
 ·have p2:=hp.two
  refine⟨_,rfl,rfl,_,rfl,l9 (fun z=>by have:=aP z;omega) ?_⟩
  have Q0:p.natAbs.log2<9000:=aak (log2_lt_of (k:=64) (by omega) (by decide)) (by decide)
  refine⟨_,rfl,_,rfl,a,p,rfl,a0,p2,Q0,fun r1 H1 o l g1 h1 IY o0 zl l0 lx sp sn=>?_⟩
  obtain⟨rfl,rfl⟩:=(Jc.Dec.Ea IY o0 zl).unique (by omega) d1
  refine⟨_,rfl,_,rfl,b,p,rfl,b0,p2,Q0,fun r2 H2 o l g2 h2 U6 Zy Zz l02 ZA sp2 sn2=>?_⟩
  obtain⟨rfl,rfl⟩:=(Jc.Dec.Ea U6 Zy Zz).unique (by omega) d2
  subst hv
  unfold Jc.hs at q
  refine⟨_,rfl,rfl,_,rfl,?_⟩
  refine bK (fun c=>?_) (fun c=>?_)
  ·have e2:p=2:=aP (cZ c)
   rw[aaz e2] at q
   exact⟨_,rfl,_,rfl,r1,r2,_,_,_,_,rfl,g2 _ _ h1,h2,fun H3 g3=>q _ ((g1.trans g2).trans g3)⟩
  ·have e2:p≠2:=fun z=>dX c (aa2 V.int z)
   rw[aar e2] at q
   exact⟨_,rfl,_,rfl,_,rfl,r1,r2,_,_,_,_,p,rfl,g2 _ _ h1,h2,by omega,b9 hp e2,by omega,⟨aag lx bb.1,aag ZA bb.2⟩,fun H3 g3=>q _ ((g1.trans g2).trans g3)⟩
theorem jv (F:Fn K mg "places_in_question" di)(T:Txt K mg t)(cV:aV P w K mg base aU 2 "prime_parts" ["number"] (mi)):aV P w K mg base aU 3 "places_in_question" ["a","b","c"] (uC):=by
 refine F.ok cW (fun f bh A outer s H vs Q E hr h=>?_)
 obtain⟨a,b,c,rfl,P,a6,b6,c6,q⟩:=h
 refine⟨_,ah (bQ (i:=3) cW.nd (cE af))
  (ah (fU aaZ rfl (Bs K (aJ (aa (pv 0) (aa (pv 1) (aa (pv 2) af))))) (eO (i:=4) cW.nd) (ar (fH (pO abI adD adC mD (pv 3) (aa (rP rfl (bD.gen (cl:=[]) [] [] [(".0",.local),("prime",.local),("often",.local)] rfl) (xH K (aq cV hr aB (aa (aS lN rfl T.AS AV (aa (pv 4) af)) af))) (fun C s0 H0 fp pins=>aE pK (pv 0) ae (aG _)) (fun C s0 H0 fp pins=>pv 0)) af)))))
  (ar (aA (aj pP (cE (aa ae (aa ae af))) (aS (l8 rfl) rfl T.wX w9 (aa (cT (sV rfl) rfl T.JX JZ (aa (pv 3) af)) af)))))),?_⟩
 refine⟨(cz 0),fun od WW=>?_⟩
 refine⟨_,rfl,_,rfl,_,rfl,(cz 3),fun p0 n0=>?_⟩
 have g0:=ai WW (.lst [])
 have g1:=ai n0 (.tup [.int a,.int b,.int c])
 refine⟨p0,rfl,⟨_,aF.of ag⟩,tI (xs:=[.int a,.int b,.int c]) (fun i σ H'=>∃ (nu:Option V) (os:List Int),σ=[some (.int a),some (.int b),some (.int c),some (.ref od),nu]/\av H H'/\H' p0=some (.tup [.int a,.int b,.int c])/\H' od=some (.lst (os.map V.int))/\os.Nodup/\os.length<=20*i/\(∀ p,p∈os↔Pr.aR p/\p≠2/\∃ (j:Nat) (n:Int),j<i/\[a,b,c][j]?=some n/\p∣n)) ⟨none,[],rfl,g0.trans g1,ag,g1 _ _ ag,.nil,by decide,fun p=>⟨(fun z=>by cases z),(fun ⟨_,_,j,n,h,_⟩=>by omega)⟩⟩ ?_ ?_ ?_⟩
 ·rintro i σ H' hi ⟨nu,os,rfl,g,h0,_⟩
  exact aF.of h0
 ·rintro i x σ H' hx ⟨nu,os,rfl,g,h0,NM,nd,le,mem⟩
  obtain⟨n,rfl,hn,n0',n6⟩:∃ n:Int,x=.int n/\[a,b,c][i]?=some n/\n≠0/\qM n:=by
   match i,hx with
   | 0,e=>exact⟨a,(aac e).symm,rfl,P.a0,a6⟩
   | 1,e=>exact⟨b,(aac e).symm,rfl,P.b0,b6⟩
   | 2,e=>exact⟨c,(aac e).symm,rfl,P.c0,c6⟩
   | n+3,e=>cases e
  have a1:1<=gw n/\gw n<=10000000000:=by
   unfold gw qM at *
   split<;>omega
  refine⟨_,rfl,.inl ⟨rfl,_,aM.of NM⟩,_,rfl,n,rfl,gw n,rfl,a1.1,a1.2,fun pl rs xs H1 g1 np hl tl told=>?_⟩
  have ln:=FO told n6
  refine⟨pl,rfl,⟨_,aM.of hl⟩,wc (rs:=rs) (xs:=xs) (aak ln (by decide)) tl.len (fun H' g=>aM.of (g _ _ hl)) ?_ (fun p=>decide (2<p)) ?_ ?_ ?_⟩
  ·intro j r y e1 e2
   obtain⟨y',e3,e4⟩:=tl.get e1
   rw[e2] at e3
   cases e3
   exact e4
  ·intro y H2 Q2 g2 k
   exact⟨_,rfl,_,_,rfl,rfl,_,rfl,k⟩
  ·intro y H2 Q2 g2 k
   exact⟨_,rfl,k⟩
  ·intro l H2 g2 nl rM
   obtain⟨WX,M3⟩:=B6 told
   have ol:((xs.map (·.1)).filter fun p=>decide (2<p)).length<=20:=IP told n6
   generalize (xs.map (·.1)).filter (fun p=>decide (2<p))=ns at WX M3 ol rM
   have U7:=g2 _ _ (g1 _ _ NM)
   have apart:∀ p∈os,p∉ns:=by
    intro p h1 h2
    obtain⟨pp,p2,j,m,hj,hm,hd⟩:=(mem p).mp h1
    have hd2:=((M3 p).mp h2).2.2
    match i,j,hn,hm,hj with
    | 1,0,e1,e2,_=>cases e1;cases e2;exact P.ab p pp hd hd2
    | 2,0,e1,e2,_=>cases e1;cases e2;exact P.ca p pp hd2 hd
    | 2,1,e1,e2,_=>cases e1;cases e2;exact P.bc p pp hd hd2
    | 0,j,_,_,hj=>omega
    | 1,j+1,_,_,hj=>omega
    | 2,j+2,_,_,hj=>omega
    | i+3,j,e1,_,_=>cases e1
   refine⟨od,l,_,_,rfl,rfl,U7,rM,?_,?_⟩
   ·rw[aas,aas]
    have Zx:i<3:=by
     match i,hn with
     | 0,_=>decide
     | 1,_=>decide
     | 2,_=>decide
     | i+3,e=>cases e
    exact aag (by omega:os.length+ns.length<=100) (by decide)
   have ne:od≠p0:=fun z=>by
    subst z
    rw[h0] at NM
    cases NM
   refine⟨some (.int n),os++ns,rfl,fun b o e=>?_,?_,?_,?_,?_,fun p=>?_⟩
   ·rw[aH (aN e WW)]
    exact g2 _ _ (g1 _ _ (g b o e))
   ·rw[aH (Ne.symm ne)]
    exact g2 _ _ (g1 _ _ h0)
   ·rw[ag,aaS]
   ·exact List.nodup_append.mpr ⟨nd,WX,fun x hx y hy e=>apart x hx (e▸hy)⟩
   ·rw[aaT]
    omega
   ·rw[aa9,mem,M3]
    constructor
    ·rintro (⟨a1,a2,j,m,hj,hm,hd⟩|⟨a1,a2,hd⟩)
     ·exact⟨a1,a2,j,m,by omega,hm,hd⟩
     ·exact⟨a1,a2,i,n,by omega,hn,hd⟩
    ·rintro⟨a1,a2,j,m,hj,hm,hd⟩
     by_cases e:j=i
     ·subst e
      rw[hn] at hm
      cases hm
      exact .inr ⟨a1,a2,hd⟩
     ·exact .inl ⟨a1,a2,j,m,by omega,hm,hd⟩
 ·rintro σ H' ⟨nu,os,rfl,g,h0,NM,nd,le,mem⟩
  have U8:os.length<=60:=le
  refine⟨(cz 2),fun z nz=>⟨_,rfl,od,os,rfl,aM.of (ai nz _ _ _ NM),(by omega),fun pS nS=>⟨pS,os,rfl,ag,(by omega),fun sr ks U9 strict Gn=>?_⟩⟩⟩
  have f1:=ai nz (.lst [.int 0,.int 2])
  have fS:=fun o=>ai nS o
  have f2:=ai U9 (.lst (ks.map V.int))
  have lk:ks.length<=60:=aag (acf (strict.imp fun h=>ae5 h) fun k hk=>(Gn k).mp hk) U8
  refine⟨z,sr,_,_,rfl,rfl,f2 _ _ (fS _ _ _ ag),ag,?_,fun r nr=>?_⟩
  ·rw[aas]
   exact aag (by show 2+ks.length<=100;omega) (by decide)
  have Jf:∀ x,x∈ks↔Pr.aR x/\x≠2/\(x∣a\/x∣b\/x∣c):=by
   intro x
   rw[Gn,mem]
   constructor
   ·rintro⟨a1,a2,j,m,hj,hm,hd⟩
    refine⟨a1,a2,?_⟩
    match j,hm with
    | 0,e=>cases e;exact .inl hd
    | 1,e=>cases e;exact .inr (.inl hd)
    | 2,e=>cases e;exact .inr (.inr hd)
    | j+3,e=>cases e
   ·rintro⟨a1,a2,hd|hd|hd⟩
    ·exact⟨a1,a2,0,a,(by show 0<3;decide),rfl,hd⟩
    ·exact⟨a1,a2,1,b,(by show 1<3;decide),rfl,hd⟩
    ·exact⟨a1,a2,2,c,(by show 2<3;decide),rfl,hd⟩
  refine q r ks _ (g.trans (f1.trans ((fS _).trans (f2.trans (ai nr _))))) ?_ ag ?_ ?_ Jf
  ·exact g.free (f1.free ((fS _).free (f2.free nr)))
  ·refine abT.mpr ⟨fun x m=>?_,abT.mpr ⟨fun x m=>?_,strict⟩⟩
   ·rcases aaf.mp m with rfl|m
    ·decide
    ·have:=((Jf x).mp m).1.two
     omega
   ·have h1:=((Jf x).mp m).1.two
    have h2:=((Jf x).mp m).2.1
    omega
  ·show ks.length+1+1<100
   omega
theorem iL (F:Fn K mg "places_without_point" cM)(T:Txt K mg t)(dB:aV P w K mg base aU 3 "places_in_question" ["a","b","c"] (uC))(nF:aV P w K mg base aU 4 "sign_at" ["a","b","place"] (ME)):aV P w K mg base aU 5 "places_without_point" ["a","b","c"] (qR):=by
 refine F.ok iH (fun f bh A outer s H vs Q E hr h=>?_)
 obtain⟨a,b,c,rfl,P,a6,b6,c6,q⟩:=h
 refine⟨_,ar (aA (eS rfl (aI.gen (cl:=[("c",_),("b",_),("a",_)]) ["a","b","c"] [0,1,2] [(".0",.local),("place",.local),("sign_at",.globalImplicit),("a",.cell),("b",.cell),("c",.cell)] rfl) (xH K (aq dB hr aB (aa (pv 0) (aa (pv 1) (aa (pv 2) af))))) (fun C s0 H0 fp pins=>aE bB (aq nF hr aB (aa (aj au (jq fi (pv 1)) (pv 3)) (aa (aj au (jq fi (pv 2)) (pv 3)) (aa (pv 0) af)))) (jq fi ae) (aG _)) (fun C s0 H0 fp pins=>pv 0))),?_⟩
 refine⟨_,rfl,_,rfl,_,rfl,a,b,c,rfl,P,a6,b6,c6,fun p ks H2 g2 np hp st ln mem=>?_⟩
 have six:∀ {n:Int},qM n->n.natAbs<=10000000000:=fun h=>h
 have ma:IntMulOk (-a) c:=adi (ac7 (by have:=six c6;omega) (by have:=six c6;omega))
 have mb:IntMulOk (-b) c:=adi (ac7 (by have:=six c6;omega) (by have:=six c6;omega))
 have nz:∀ {x:Int},x≠0->-x*c≠0:=fun h z=>by
  rcases ab5.mp z with w|w
  ·omega
  ·exact P.c0 w
 have bs:Bd 100 (-a*c)/\Bd 100 (-b*c):=⟨J3 (six a6) (six c6),J3 (six b6) (six c6)⟩
 have small:∀ {x n:Int},qM n->n≠0->x∣n->x<20000000000:=fun {x n} h6 n0 hd=>by
  have h1:=ab9 (by omega) (aa6.mpr hd)
  have h2:=six h6
  omega
 have sign:∀ x:Int,x∈(0::2::ks)->At (-a*c) (-b*c) x (Jc.rE (-a*c) (-b*c) x):=by
  intro x hx
  have prime:∀ {y:Int},Pr.aR y->y<20000000000->At (-a*c) (-b*c) y (Jc.rE (-a*c) (-b*c) y):=fun {y} hy hb=>by
   obtain⟨l1,o1,d1⟩:=Jc.oE hy (nz P.a0)
   obtain⟨l2,o2,d2⟩:=Jc.oE hy (nz P.b0)
   refine .inr ⟨hy,hb,o1,l1,o2,l2,d1,d2,?_⟩
   unfold Jc.rE
   rw[aar (by have:=hy.two;omega)]
   exact Jc.gf hy d1 d2
  rcases aaf.mp hx with rfl|hx
  ·refine .inl ⟨rfl,?_⟩
   unfold Jc.rE
   rw[aaz rfl]
   rfl
  rcases aaf.mp hx with rfl|hx
  ·exact prime Jc.cI (by decide)
  ·obtain⟨GH,n2,hd⟩:=(mem x).mp hx
   exact prime GH (hd.elim (small a6 P.a0) fun h=>h.elim (small b6 P.b0) (small c6 P.c0))
 refine⟨p,rfl,⟨_,aM.of hp⟩,fJ (xs:=(0::2::ks).map V.int) (by rw[aas];exact aak ln (by decide)) (fun w=>match w with
   | .int x=>decide (Jc.rE (-a*c) (-b*c) x=-1)
   | _=>false) id (fun H' g=>aM.of (g _ _ hp)) ?_ ?_ ?_⟩
 ·intro i x H' Q' hx g k
  obtain⟨n,hn,rfl⟩:=abb.mp (aaV hx)
  have h1:=sign n hn
  refine⟨_,rfl,_,rfl,_,rfl,_,_,rfl,rfl,ma,_,rfl,_,rfl,_,rfl,_,_,rfl,rfl,mb,_,rfl,-a*c,-b*c,n,_,rfl,nz P.a0,nz P.b0,bs,h1,fun H3 g3=>⟨_,rfl,rfl,_,rfl,?_⟩⟩
  have kk:=k H3 g3
  have e:decide (V.int (Jc.rE (-a*c) (-b*c) n)=V.int (-1))=decide (Jc.rE (-a*c) (-b*c) n=-1):=by simp
  rw[e]
  exact kk
 ·intro i x H' Q' hx e g k
  exact⟨_,rfl,k _ (av.refl _)⟩
 ·intro l H' g nl hl
  have e:(((0::2::ks).map V.int).filter fun w=>match w with
   | .int x=>decide (Jc.rE (-a*c) (-b*c) x=-1)
   | _=>false).map id=(Cb a b c ks).map V.int:=by
   rw[List.map_id,List.filter_map]
   rfl
  rw[e] at hl
  exact q l ks H' (g2.trans g) (g2.free nl) ⟨mem,st⟩ (by simp only[aa8] at ln;omega) hl
theorem r6 (F:Fn K mg "bad_places" i4)(T:Txt K mg t)(lK:aV P w K mg base aU 5 "is_plain" ["a","b","c"] (uB))(cQ:aV P w K mg base aU 5 "places_without_point" ["a","b","c"] (qR)):aV P w K mg base aU 6 "bad_places" ["a","b","c"] (qR):=by
 refine F.ok rW (fun f bh A outer s H vs Q E hr h=>?_)
 obtain⟨a,b,c,rfl,P,a6,b6,c6,q⟩:=h
 refine⟨_,ah (aZ (kQ (eN (aq lK hr aB (aa (pv 0) (aa (pv 1) (aa (pv 2) af)))) (fun _=>rfl))) fN aL)
  (ar (aA (aq cQ hr aB (aa (pv 0) (aa (pv 1) (aa (pv 2) af)))))),?_⟩
 refine⟨_,rfl,_,rfl,_,rfl,a,b,c,rfl,P,a6,b6,c6,fun H1 g1=>⟨_,rfl,gU ?_⟩⟩
 exact⟨_,rfl,_,rfl,_,rfl,a,b,c,rfl,P,a6,b6,c6,fun p ks H2 g2 np hq lk hp=>q p ks H2 (g1.trans g2) (g1.free np) hq lk hp⟩
theorem Cj (F:Fn K mg "bad_of" qw)(T:Txt K mg t)(eY:aV P w K mg base (XD P w) 6 "plain_of" ["Q"] (uN t.c8))(jn:aV P w K mg base aU 6 "bad_places" ["a","b","c"] (qR)):aV P w K mg base (XD P w) 7 "bad_of" ["Q"] (A4 t.c8):=by
 refine F.K9 tj (fun f bh A outer s H vs Q E hr h=>?_)
 obtain⟨p,F,rfl,hp,in1,q,qe⟩:=h
 refine⟨_,ah (bQ (i:=1) tj.nd (aO (a8 K) (aq eY hr JB (aa (pv 0) af)) ae))
  (ar (PS.tG (aA (aq jn hr aB (aa (aO (a8 K) (pv 1) ae) (aa (aO (a8 K) (pv 1) ae) (aa (aO (a8 K) (pv 1) ae) af))))))),?_⟩
 refine⟨_,rfl,p,F,rfl,hp,in1,fun ns r ta pr H2 t' k q1 q2 q3 g2 jw ht Q1 k0 m0 ec pl b1 b2 b3 bt bk=>?_,qe⟩
 refine⟨r,_,_,_,rfl,rfl,aF.of jw,rfl,?_⟩
 refine⟨_,rfl,pr,_,_,_,rfl,rfl,aF.of Q1,rfl,_,rfl,pr,_,_,_,rfl,rfl,aF.of Q1,rfl,_,rfl,pr,_,_,_,rfl,rfl,aF.of Q1,rfl,q1,q2,q3,rfl,pl,b1,b2,b3,fun l ks H3 g3 nl hq lk hl=>?_⟩
 refine q ns l H3 _ (g2.trans g3) (g2.free nl) hl (IW hq) ?_ (Cd pl hq) fun x=>(F5 pl hq x).trans (AG m0 k0 pl ec x)
 exact abv (ad3 _ _) (by simp only[aa8];omega)
theorem vi (F:Fn K mg "_law_no_square" jW)(T:Txt K mg t) :aV P w K mg base aU 1 "_law_no_square" ["_law_number","_law_prime"] (F7):=by
 refine F.ok cN (fun f bh A outer s H vs Q E hr h=>?_)
 obtain⟨x,n,rfl,hp,n2,nb,nd,q⟩:=h
 have n0:2<n:=by have:=hp.two;omega
 have mo:∀ {a b:Int},0<=b->b<n->IntMulOk a b:=fun h0 h1=>adi (ac7 (by omega) (by omega))
 refine⟨_,ah (bQ (i:=2) cN.nd ae)
  (ah (bQ (i:=3) cN.nd (aj bj (pv 0) (pv 1)))
  (ah (bQ (i:=4) cN.nd (aj gK (pv 1) ae))
  (ah (dZ aaZ (aE pK (pv 4) ae (aG _)) (dO (aZ (aE bB (aj bj (pv 4) ae) ae (aG _)) (ar (bQ (i:=2) cN.nd (aj bj (aj au (pv 2) (pv 3)) (pv 1)))) aL)
  (ah (bQ (i:=3) cN.nd (aj bj (aj au (pv 3) (pv 3)) (pv 1)))
  (ar (bQ (i:=4) cN.nd (aj gK (pv 4) ae))))))
  (ar (aA (dF bB (pv 2) (aj bM (pv 1) ae) (aG _))))))),?_⟩
 refine⟨_,rfl,_,rfl,_,_,rfl,rfl,(show (0:Int)<n by omega),_,rfl,_,_,rfl,rfl,⟨by decide,by decide⟩,?_⟩
 refine⟨fun m σ H'=>∃ (p f l:Int),σ=[some (.int x),some (.int n),some (.int p),some (.int f),some (.int l)]/\H=H'/\0<=p/\p<n/\0<=f/\f<n/\0<=l/\p*f^l.toNat%n=Pw.PM x (n / 2).toNat n/\m=l.toNat,
  ⟨_,1,x%n,n / 2,rfl,rfl,by decide,by omega,aba _ (by omega),abJ _ (by omega),by omega,MU (n / 2).toNat (by omega),rfl⟩,?_⟩
 rintro m σ H1 ⟨p,f,l,rfl,rfl,p0,p1,f0,f1,l0,e,rfl⟩
 refine⟨_,rfl,_,_,rfl,rfl,_,rfl,?_⟩
 refine bK (fun c=>?_) (fun c=>?_)
 ·have lp:0<l:=cZ c
  refine⟨fun σ' H2=>∃ (p f' l':Int),σ'=[some (.int x),some (.int n),some (.int p),some (.int f'),some (.int l')]/\H=H2/\0<=p/\p<n/\f'=f*f%n/\l'=l / 2/\p*(f*f%n)^(l.toNat / 2)%n=Pw.PM x (n / 2).toNat n,?_,?_⟩
  ·rintro σ' H2 ⟨p,f',l',rfl,rfl,p0,p1,rfl,rfl,e⟩
   refine⟨(l / 2).toNat,by omega,p,_,_,rfl,rfl,p0,p1,aba _ (by omega),abJ _ (by omega),by omega,?_,rfl⟩
   rw[Qv l l0]
   exact e
  refine⟨fun σ' H2=>∃ (p:Int),σ'=[some (.int x),some (.int n),some (.int p),some (.int f),some (.int l)]/\H=H2/\0<=p/\p<n/\p*(f*f%n)^(l.toNat / 2)%n=Pw.PM x (n / 2).toNat n,?_,?_⟩
  ·refine⟨_,rfl,_,_,rfl,rfl,(by show (0:Int)<2;decide),rfl,_,rfl,?_⟩
   refine bK (fun c=>?_) (fun c=>?_)
   ·have o:l%2=1:=aP (cZ c)
    exact⟨_,rfl,_,rfl,_,_,rfl,rfl,mo f0 f1,_,rfl,_,_,rfl,rfl,(show (0:Int)<n by omega),_,rfl,rfl,aba _ (by omega),abJ _ (by omega),Pw.Eg e (by omega)⟩
   ·have o:¬ l%2=1:=fun z=>dX c (aa2 V.int z)
    exact⟨p,rfl,rfl,p0,p1,Pw.BI e (by omega)⟩
  ·rintro _ _ ⟨p,rfl,rfl,p0,p1,e⟩
   refine⟨_,rfl,_,rfl,_,_,rfl,rfl,mo f0 f1,_,rfl,_,_,rfl,rfl,(show (0:Int)<n by omega),?_⟩
   exact⟨_,rfl,_,_,rfl,rfl,⟨by decide,by decide⟩,p,_,_,rfl,rfl,p0,p1,rfl,rfl,e⟩
 ·have lz:¬ 0<l:=dX c
  have ZC:l=0:=by omega
  subst ZC
  have e2:p=Pw.PM x (n / 2).toNat n:=Pw.done e p0 p1
  refine⟨_,rfl,_,rfl,_,_,rfl,rfl,rfl,q _ ?_⟩
  rw[aej,e2]
  exact⟨fun z=>(J4 hp n2 nd).mp (aP z),fun z=>aa2 V.int ((J4 hp n2 nd).mpr z)⟩
theorem vj (F:Fn K mg "_law_none_by_8" jX)(T:Txt K mg t) :aV P w K mg base aU 1 "_law_none_by_8" ["_law_triple"] (MV):=by
 refine F.ok cO (fun f bh A outer s H vs Q E hr h=>?_)
 obtain⟨p,a,b,c,rfl,hp,ha,hb,hc,q⟩:=h
 have mo:∀ {n y:Int},n.natAbs<=10000000000->IntMulOk n y:=fun h=>kK (by omega) (by omega)
 refine⟨_,ah (gT (pv 0) (GI K (aD (eO (i:=2) cO.nd) (aD (eO (i:=3) cO.nd) (aD (eO (i:=4) cO.nd) dE)))))
  (ah (fU aaZ rfl (xH K (cE (aa ae (aa ae (aa ae af))))) (eO (i:=1) cO.nd) (ar (fU aaZ rfl (xH K (cE (aa ae (aa ae (aa ae af))))) (eO (i:=5) cO.nd) (ar (fU aaZ rfl (xH K (cE (aa ae (aa ae (aa ae af))))) (eO (i:=6) cO.nd) (ar (aZ (PW.pt (kP (aE su ae (cE (aa (pv 1) (aa (pv 5) (aa (pv 6) af)))) (by with_unfolding_all rfl)) (iN (aE bB (aj bj (aj bG (aj bG (aj au (pv 2) (pv 1)) (aj au (pv 3) (pv 5))) (aj au (pv 4) (pv 6))) ae) ae (aG _))))) (ar (aA kF)) aL)))))))
  (ar (aA kF))),?_⟩
 refine⟨_,rfl,p,_,rfl,aF.of hp,rfl,_,_,rfl,_,_,rfl,_,_,rfl,rfl,?_⟩
 refine⟨(cz 3),fun l1 n1=>?_⟩
 have f1:=ai n1 (.lst [.int 0,.int 1,.int 4])
 refine⟨l1,rfl,⟨_,aM.of ag⟩,iA (xs:=[.int 0,.int 1,.int 4]) (fun i σ H'=>∃ o1 o5 o6:Option V,σ=[some (.ref p),o1,some (.int a),some (.int b),some (.int c),o5,o6]/\av (upd H l1 (.lst [.int 0,.int 1,.int 4])) H'/\∀ x y z,MW i x->q3 y->q3 z->¬ NB a b c x y z) ⟨none,none,none,rfl,av.refl _,fun x y z ⟨j,hj,_⟩=>by omega⟩ ?_ ?_ ?_⟩
 ·rintro i σ H' hi ⟨_,_,_,rfl,g,_⟩
  exact aM.of (g _ _ ag)
 ·rintro i v σ H1 hv ⟨o1,o5,o6,rfl,g1,Nx⟩
  obtain⟨x,rfl,qx,ex⟩:=zc hv
  refine⟨(cz 3),fun l2 n2=>?_⟩
  have f2:=ai n2 (.lst [.int 0,.int 1,.int 4])
  refine⟨l2,rfl,⟨_,aM.of ag⟩,iA (xs:=[.int 0,.int 1,.int 4]) (fun i σ H'=>∃ o5 o6:Option V,σ=[some (.ref p),some (.int x),some (.int a),some (.int b),some (.int c),o5,o6]/\av (upd H1 l2 (.lst [.int 0,.int 1,.int 4])) H'/\∀ y z,MW i y->q3 z->¬ NB a b c x y z) ⟨_,_,rfl,av.refl _,fun y z ⟨j,hj,_⟩=>by omega⟩ ?_ ?_ ?_⟩
  ·rintro i σ H' hi ⟨_,_,rfl,g,_⟩
   exact aM.of (g _ _ ag)
  ·rintro j v σ H2 hv ⟨o5,o6,rfl,g2,ZD⟩
   obtain⟨y,rfl,qy,ey⟩:=zc hv
   refine⟨(cz 3),fun l3 n3=>?_⟩
   have f3:=ai n3 (.lst [.int 0,.int 1,.int 4])
   refine⟨l3,rfl,⟨_,aM.of ag⟩,iA (xs:=[.int 0,.int 1,.int 4]) (fun i σ H'=>∃ o6:Option V,σ=[some (.ref p),some (.int x),some (.int a),some (.int b),some (.int c),some (.int y),o6]/\av (upd H2 l3 (.lst [.int 0,.int 1,.int 4])) H'/\∀ z,MW i z->¬ NB a b c x y z) ⟨_,rfl,av.refl _,fun z ⟨j,hj,_⟩=>by omega⟩ ?_ ?_ ?_⟩
   ·rintro i σ H' hi ⟨_,rfl,g,_⟩
    exact aM.of (g _ _ ag)
   ·rintro k v σ H3 hv ⟨o6,rfl,g3,ZE⟩
    obtain⟨z,rfl,qz,ez⟩:=zc hv
    refine⟨_,rfl,_,rfl,_,rfl,(cz 3),fun l4 n4=>?_⟩
    have f4:=ai n4 (.lst [.int x,.int y,.int z])
    have gA:=g3.trans f4
    refine⟨l4,_,rfl,.inl (aM.of ag),rfl,rfl,_,rfl,?_⟩
    have step:∀ {H':Hp},av H3 H'->¬ NB a b c x y z->∃ o6:Option V,[some (V.ref p),some (.int x),some (.int a),some (.int b),some (.int c),some (.int y),some (.int z)]=[some (.ref p),some (.int x),some (.int a),some (.int b),some (.int c),some (.int y),o6]/\av (upd H2 l3 (.lst [.int 0,.int 1,.int 4])) H'/\∀ z,MW (k+1) z->¬ NB a b c x y z:=fun g nh=>⟨_,rfl,g3.trans g,fun w hw=>by
     rcases qT ez hw with h|rfl
     ·exact ZE w h
     ·exact nh⟩
    refine bK (fun c1=>?_) (fun c1=>?_)
    ·refine⟨_,rfl,_,rfl,_,_,rfl,rfl,mo ha,_,rfl,_,rfl,_,_,rfl,rfl,mo hb,_,_,rfl,rfl,_,rfl,_,rfl,_,_,rfl,rfl,mo hc,_,_,rfl,rfl,_,_,rfl,rfl,(by show (0:Int)<8;decide),rfl,_,rfl,bK (fun c2=>?_) (fun c2=>?_)⟩
     ·refine q false _ (f1.trans (g1.trans (f2.trans (g2.trans (f3.trans gA))))) ⟨fun z=>(by cases z),fun z=>absurd (A5.mpr ⟨x,y,_,qx,qy,qz,UJ c1,aP (cZ c2)⟩) z⟩
     ·exact step f4 fun hh=>dX c2 (aa2 V.int hh.2)
    ·exact step f4 fun hh=>Qy c1 hh.1
   ·rintro σ H' ⟨_,rfl,g,no⟩
    exact⟨_,_,rfl,g2.trans (f3.trans g),fun u w hu hw=>by
     rcases qT ey hu with h|rfl
     ·exact ZD u w h hw
     ·exact no w (F9 hw)⟩
  ·rintro σ H' ⟨_,_,rfl,g,no⟩
   exact⟨_,_,_,rfl,g1.trans (f2.trans g),fun u u2 w hu WY hw=>by
    rcases qT ex hu with h|rfl
    ·exact Nx u u2 w h WY hw
    ·exact no u2 w (F9 WY) hw⟩
 ·rintro σ H' ⟨_,_,_,rfl,g,no⟩
  refine q true _ (f1.trans g) ⟨fun _ hf=>?_,fun _=>rfl⟩
  obtain⟨x,y,z,hx,hy,hz,hh⟩:=A5.mp hf
  exact no x y z (F9 hx) hy hz hh
theorem M4 (F:Fn K mg "_law_bad" Fq)(T:Txt K mg t)(j8:aV P w K mg base aU 1 "_law_none_by_8" ["_law_triple"] (MV))(j9:aV P w K mg base aU 1 "_law_no_square" ["_law_number","_law_prime"] (F7)):aV P w K mg base aU 2 "_law_bad" ["_law_triple","_law_place"] (zd):=by
 refine F.ok Gh (fun f bh A outer s H vs Q E hr h=>?_)
 obtain⟨p,a,b,c,x,rfl,hp,P,ha,hb,hc,hx,q⟩:=h
 refine⟨_,ah (aZ (aE bB (pv 1) ae (aG _)) (ar (aA (N1 (dF pK (aS (BA rfl) rfl T.Qf Qi (aa (pv 0) af)) ae (aG _)) (my (dF jC (aS (Bz rfl) rfl T.Qe Qh (aa (pv 0) af)) ae (aG _)))))) aL)
  (ah (aZ (aE bB (pv 1) ae (aG _)) (ar (aA (aq j8 hr aB (aa (pv 0) af)))) aL)
  (ah (fU aaZ rfl (cD rfl T.eF (aa ae af)) (eO (i:=2) Gh.nd) (ar (aZ (aE bB (aj bj (aO (a8 K) (pv 0) (pv 2)) (pv 1)) ae (aG _)) (ar (aA (aq j9 hr aB (aa (aj bM ae (aj au (aO (a8 K) (pv 0) (aj bM (pv 2) ae)) (aO (a8 K) (pv 0) (aj bM (pv 2) ae)))) (aa (pv 1) af))))) aL)))
  (ar (aA kF)))),?_⟩
 have q0:=fun r k=>q r H (av.refl H) k
 rcases hx with rfl|rfl|⟨px,x2,xb⟩
 ·refine⟨_,rfl,rfl,_,rfl,lP ?_⟩
  refine⟨_,rfl,p,[a,b,c],rfl,aF.of hp,by simp,fun m hm m1=>⟨_,_,rfl,rfl,_,rfl,?_⟩⟩
  have l1:=m1 a (by simp)
  have l2:=m1 b (by simp)
  have l3:=m1 c (by simp)
  simp only[aaf,aaF,abN] at hm
  refine bK (fun c1=>?_) (fun c1=>?_)
  ·have:0<m:=cZ c1
   exact q0 true ⟨fun _=>Qx.mpr (.inr (by omega)),fun _=>rfl⟩
  ·have m0:¬ 0<m:=dX c1
   refine⟨_,rfl,p,[a,b,c],rfl,aF.of hp,by simp,fun k hk k1=>⟨_,_,rfl,rfl,q0 _ ?_⟩⟩
   have k2:=k1 a (by simp)
   have k3:=k1 b (by simp)
   have k4:=k1 c (by simp)
   simp only[aaf,aaF,abN] at hk
   rw[aej,Qx]
   omega
 ·refine⟨_,rfl,rfl,_,rfl,l9 (fun z=>by cases z) ?_⟩
  refine⟨_,rfl,rfl,_,rfl,lP ?_⟩
  exact⟨_,rfl,p,a,b,c,rfl,hp,ha,hb,hc,fun r H' g k=>q r H' g (k.trans UI.symm)⟩
 have xz:=px.two
 refine⟨_,rfl,rfl,_,rfl,l9 (fun z=>by have:=aP z;omega) ?_⟩
 refine⟨_,rfl,rfl,_,rfl,l9 (fun z=>x2 (aP z)) ?_⟩
 have mo:∀ {n y:Int},n.natAbs<=10000000000->IntMulOk n y:=fun h=>kK (by omega) (by omega)
 have Va:∀ {u v:Int},¬ x∣u->¬ x∣v->¬ x∣0-u*v:=fun h1 h2 h=>by
  rw[Int.zero_sub,abu] at h
  exact (Pr.euclid px h).elim h1 h2
 refine⟨3,rfl,by decide,by decide,se (fun i σ H'=>∃ o:Option V,σ=[some (.ref p),some (.int x),o]/\H=H'/\(1<=i->¬ x∣a)/\(2<=i->¬ x∣b)/\(3<=i->¬ x∣c)) ⟨none,rfl,rfl,by omega,by omega,by omega⟩ ?_ ?_⟩
 ·rintro i σ H' hi ⟨o,rfl,rfl,i1,i2,i3⟩
  obtain rfl|rfl|rfl:i=0\/i=1\/i=2:=by have:i<3:=hi;omega
  ·refine⟨_,rfl,_,rfl,p,_,_,_,rfl,rfl,aF.of hp,rfl,_,rfl,_,_,rfl,rfl,(show (0:Int)<x by omega),rfl,_,rfl,bK (fun c1=>?_) (fun c1=>?_)⟩
   ·have d:x∣a:=aaH (aP (cZ c1))
    have nb:=P.ab x px d
    have nc:¬ x∣c:=fun z=>P.ca x px z d
    refine⟨_,rfl,_,rfl,_,_,rfl,rfl,p,_,_,_,rfl,rfl,aF.of hp,rfl,_,rfl,_,rfl,_,_,rfl,rfl,p,_,_,_,rfl,rfl,aF.of hp,rfl,_,_,rfl,rfl,mo hc,_,_,rfl,rfl,_,rfl,0-c*b,x,rfl,px,x2,xb,Va nc nb,fun r k=>q0 r ?_⟩
    rw[k,IX px x2,show 0-c*b=-(b*c) by rw[aao c b];omega]
    exact⟨fun e=>.inl ⟨d,e⟩,fun h=>h.elim (·.2) fun h=>h.elim (fun h=>absurd h.1 nb) fun h=>absurd h.1 nc⟩
   ·exact⟨_,rfl,rfl,fun _ z=>dX c1 (aa2 V.int (abg z)),by omega,by omega⟩
  ·have na:=i1 (by decide)
   refine⟨_,rfl,_,rfl,p,_,_,_,rfl,rfl,aF.of hp,rfl,_,rfl,_,_,rfl,rfl,(show (0:Int)<x by omega),rfl,_,rfl,bK (fun c1=>?_) (fun c1=>?_)⟩
   ·have d:x∣b:=aaH (aP (cZ c1))
    have nc:=P.bc x px d
    refine⟨_,rfl,_,rfl,_,_,rfl,rfl,p,_,_,_,rfl,rfl,aF.of hp,rfl,_,rfl,_,rfl,_,_,rfl,rfl,p,_,_,_,rfl,rfl,aF.of hp,rfl,_,_,rfl,rfl,mo ha,_,_,rfl,rfl,_,rfl,0-a*c,x,rfl,px,x2,xb,Va na nc,fun r k=>q0 r ?_⟩
    rw[k,IX px x2,show 0-a*c=-(c*a) by rw[aao c a];omega]
    exact⟨fun e=>.inr (.inl ⟨d,e⟩),fun h=>h.elim (fun h=>absurd h.1 na) fun h=>h.elim (·.2) fun h=>absurd h.1 nc⟩
   ·exact⟨_,rfl,rfl,fun _=>na,fun _ z=>dX c1 (aa2 V.int (abg z)),by omega⟩
  ·have na:=i1 (by decide)
   have nb:=i2 (by decide)
   refine⟨_,rfl,_,rfl,p,_,_,_,rfl,rfl,aF.of hp,rfl,_,rfl,_,_,rfl,rfl,(show (0:Int)<x by omega),rfl,_,rfl,bK (fun c1=>?_) (fun c1=>?_)⟩
   ·have d:x∣c:=aaH (aP (cZ c1))
    refine⟨_,rfl,_,rfl,_,_,rfl,rfl,p,_,_,_,rfl,rfl,aF.of hp,rfl,_,rfl,_,rfl,_,_,rfl,rfl,p,_,_,_,rfl,rfl,aF.of hp,rfl,_,_,rfl,rfl,mo hb,_,_,rfl,rfl,_,rfl,0-b*a,x,rfl,px,x2,xb,Va nb na,fun r k=>q0 r ?_⟩
    rw[k,IX px x2,show 0-b*a=-(a*b) by rw[aao a b];omega]
    exact⟨fun e=>.inr (.inr ⟨d,e⟩),fun h=>h.elim (fun h=>absurd h.1 na) fun h=>h.elim (fun h=>absurd h.1 nb) (·.2)⟩
   ·exact⟨_,rfl,rfl,fun _=>na,fun _=>nb,fun _ z=>dX c1 (aa2 V.int (abg z))⟩
 ·rintro σ H' ⟨o,rfl,rfl,i1,i2,i3⟩
  have na:=i1 (by decide)
  have nb:=i2 (by decide)
  have nc:=i3 (by decide)
  refine q0 false ⟨fun z=>(by cases z),fun h=>?_⟩
  rw[IX px x2] at h
  exact absurd h fun h=>h.elim (fun h=>na h.1) fun h=>h.elim (fun h=>nb h.1) fun h=>nc h.1
theorem Ck (F:Fn K mg "_law_primes" qC)(T:Txt K mg t) :aV P w K mg base aU 1 "_law_primes" ["_law_number"] (Ga):=by
 refine F.ok fP (fun f bh A outer s H vs Q E hr h=>?_)
 obtain⟨n,rfl,n0,n6,q⟩:=h
 refine⟨_,ah (bQ (i:=1) fP.nd (cE af))
  (ah (bQ (i:=2) fP.nd (aS lN rfl T.AS AV (aa (pv 0) af)))
  (ah (bQ (i:=3) fP.nd ae)
  (ah (dZ aaZ (aE zJ (aj au (pv 3) (pv 3)) (pv 2) (aG _)) (ar (aZ (aE bB (aj bj (pv 2) (pv 3)) ae (aG _)) (ah (fH (pO abI acU acT dQ (pv 1) (aa (pv 3) af)))
  (ar (bQ (i:=2) fP.nd (aj cR (pv 2) (pv 3))))) (ar (bQ (i:=3) fP.nd (aj bG (pv 3) ae))))))
  (ar (aA (aj pP (pv 1) (aj K6 (cE (aa (pv 2) af)) (cT A9 rfl T.JW JY (aa (dF pK (pv 2) ae (aG _)) af))))))))),?_⟩
 refine⟨(cz 0),fun f hf=>?_⟩
 refine⟨_,rfl,n,rfl,?_⟩
 have en:(if n<0 then -n else n)=(n.natAbs:Int):=by split<;>omega
 refine⟨fun u σ H'=>∃ (r k:Int) (fs:List Int),σ=[some (.int n),some (.ref f),some (.int r),some (.int k)]/\av H H'/\H' f=some (.lst (fs.map V.int))/\xc n fs r k/\k<=2829/\u=(r+6000-k).toNat,
  ⟨_,_,2,[],rfl,ai hf _,ag,⟨fun f m=>(by cases m),by rw[en];simp,by rw[en];omega,by decide,fun d d2 dk=>by omega⟩,by decide,rfl⟩,?_⟩
 rintro u σ H1 ⟨r,k,fs,rfl,g,hl,S,kb,rfl⟩
 obtain⟨rb,ln⟩:=S.le n6
 have r1:=S.r1
 have k2:=S.k2
 refine⟨_,rfl,_,rfl,_,_,rfl,rfl,adi (ac7 (by omega) (by omega)),_,rfl,_,_,rfl,rfl,_,rfl,?_⟩
 refine bK (fun c=>?_) (fun c=>?_)
 ·have c':k*k<=r:=cZ c
  have WZ:=S.kb n6 c'
  refine⟨fun σ' H'=>∃ (r' k':Int) (Nc:List Int),σ'=[some (.int n),some (.ref f),some (.int r'),some (.int k')]/\av H H'/\H' f=some (.lst (Nc.map V.int))/\xc n Nc r' k'/\k'<=2829/\(r'+6000-k').toNat<(r+6000-k).toNat,?_,?_⟩
  ·rintro _ _ ⟨r',k',Nc,rfl,g',ZF,S',ZG,lt⟩
   exact⟨_,lt,r',k',Nc,rfl,g',ZF,S',ZG,rfl⟩
  refine⟨_,rfl,_,rfl,_,_,rfl,rfl,(by omega),rfl,_,rfl,?_⟩
  refine bK (fun e=>?_) (fun e=>?_)
  ·have e0:r%k=0:=aP (cZ e)
   obtain⟨t,rfl⟩:=aaH e0
   have ft:(k*t).fdiv k=t:=abD t (by omega)
   have t1:1<=t:=by
    by_cases z:1<=t
    ·exact z
    ·have:=aaK (show t<=0 by omega) (show 0<=k by omega)
     rw[aaI] at this
     omega
   have lt:t<k*t:=by
    have:=abj (show (2:Int)<=k by omega) (show 0<=t by omega)
    omega
   refine⟨_,rfl,.inl ⟨rfl,_,aM.of hl⟩,_,rfl,f,_,_,rfl,rfl,hl,(by rw[aas];exact aak ln (by decide)),?_⟩
   refine⟨_,rfl,_,rfl,_,_,rfl,rfl,⟨by omega,aak (log2_lt_of (k:=64) (by omega) (by decide)) (by decide)⟩,t,k,fs++[k],?_,fun b o z=>?_,?_,S.take t1,kb,by omega⟩
   ·show ([some (V.int n),some (V.ref f),some (V.int (k*t)),some (V.int k)].set 2 (some (V.int ((k*t).fdiv k))))=_
    rw[ft]
    rfl
   ·rw[aH (aN z hf)]
    exact g b o z
   ·rw[ag,aaS]
    rfl
  ·have e0:¬ k∣r:=fun d=>dX e (aa2 V.int (abg d))
   exact⟨_,rfl,_,_,rfl,rfl,r,k+1,fs,rfl,g,hl,S.next e0,by omega,by omega⟩
 ·have c':¬ k*k<=r:=dX c
  refine⟨_,rfl,_,rfl,(cz 1),fun l1 n1=>⟨_,rfl,_,_,rfl,rfl,.inr ⟨_,rfl,?_⟩⟩⟩
  have f1:=ai n1 (.lst [.int r])
  have fin:∀ (l2:Addr) (ns:List Int),(upd H1 l1 (.lst [.int r])) l2=none->ns.length<=1->(∀ x,x∈fs++ns↔Pr.aR x/\x∣n)->K5 (.ref f) (.ref l2) (upd (upd H1 l1 (.lst [.int r])) l2 (.lst (ns.map V.int))) Q:=fun l2 ns n2 nl mem=>by
   have f2:=ai n2 (.lst (ns.map V.int))
   refine⟨f,l2,_,_,rfl,rfl,f2 _ _ (f1 _ _ hl),ag,?_,fun z nz=>?_⟩
   ·rw[aas,aas]
    exact aag (by omega:fs.length+ns.length<=100) (by decide)
   ·rw[<- aaS]
    exact q z (fs++ns) _ (g.trans (f1.trans (f2.trans (ai nz _)))) (g.free (f1.free (f2.free nz))) ag (by rw[aaT];omega) mem
  by_cases c2:r > 1
  ·rw[abr c2]
   refine⟨l1,1,[.int r],rfl,rfl,ag,by decide,by decide,(by show 1*1<=sizeLine;decide),fun l2 n2=>?_⟩
   exact fin l2 [r] n2 (aai 1) fun x=>(S.last c' (by omega)).mem
  ·rw[aa5 c2]
   refine⟨l1,0,[.int r],rfl,rfl,ag,by decide,by decide,(by show 1*0<=sizeLine;decide),fun l2 n2=>?_⟩
   have ZH:r=1:=by omega
   subst ZH
   exact fin l2 [] n2 (by decide) fun x=>by rw[abi];exact S.mem
theorem rq (F:Fn K mg "_law_bad_places" ia)(T:Txt K mg t)(rz:aV P w K mg base aU 1 "_law_primes" ["_law_number"] (Ga))(Gp:aV P w K mg base aU 2 "_law_bad" ["_law_triple","_law_place"] (zd)):aV P w K mg base aU 3 "_law_bad_places" ["_law_triple","_law_number"] (Gb):=by
 refine F.ok jZ (fun f bh A outer s H vs Q E hr h=>?_)
 obtain⟨p,a,b,c,n,rfl,hp,P,ha,hb,hc,n0,n6,q⟩:=h
 refine⟨_,ah (bQ (i:=2) jZ.nd (aS (l8 rfl) rfl T.wX w9 (aa (cT (sV rfl) rfl T.JX JZ (aa (aj pP (cE (aa ae (aa ae af))) (aq rz hr aB (aa (pv 1) af))) af)) af)))
  (ar (aA (eS rfl (aI.gen (cl:=[("_law_triple",_)]) ["_law_triple"] [0] [(".0",.local),("_law_place",.local),("_law_bad",.globalImplicit),("_law_triple",.cell)] rfl) (xH K (pv 2)) (fun C s0 H0 fp pins=>eN (aq Gp hr aB (aa (pv 1) (aa (pv 0) af))) (fun _=>rfl)) (fun C s0 H0 fp pins=>pv 0)))),?_⟩
 refine⟨(cz 2),fun l1 n1=>⟨_,rfl,n,rfl,n0,n6,fun l2 fs H2 g2 n2 rM lf mf=>?_⟩⟩
 have f1:=ai n1 (.lst [.int 0,.int 2])
 refine⟨l1,l2,_,_,rfl,rfl,g2 _ _ ag,rM,?_,fun l3 n3=>?_⟩
 ·rw[aas]
  exact aag (by show 2+fs.length<=100;omega) (by decide)
 have f3:=ai n3 (.lst ([.int 0,.int 2]++fs.map V.int))
 have e3:([.int 0,.int 2]++fs.map V.int)=(0::2::fs).map V.int:=rfl
 refine⟨l3,0::2::fs,rfl,aM.of (by rw[<- e3];exact ag),(by simp only[aa8];omega),fun pS nS=>⟨pS,_,rfl,ag,(by simp only[aa8];omega),fun sr ks U9 strict Gn=>?_⟩⟩
 have fS:=fun o=>ai nS o
 have f4:=ai U9 (.lst (ks.map V.int))
 have gA:av H _:=f1.trans (g2.trans (f3.trans ((fS _).trans f4)))
 have lk:ks.length<50:=abv (acf (strict.imp fun h=>ae5 h) fun k hk=>(Gn k).mp hk) (by simp only[aa8];omega)
 have mk:∀ x,x∈ks↔(x=0\/x=2\/(Pr.aR x/\x∣n)):=fun x=>by rw[Gn,aaf,aaf,mf]
 refine⟨_,rfl,sr,rfl,⟨_,aM.of ag⟩,fJ (xs:=ks.map V.int) (by rw[aas];exact aak lk (by decide)) (fun w=>match w with
   | .int x=>@decide (Jc.mK a b c x) (Classical.propDecidable _)
   | _=>false) id (fun H' g=>aM.of (g _ _ ag)) ?_ ?_ ?_⟩
 ·intro i x H' Q' hx g k
  obtain⟨m,hm,rfl⟩:=abb.mp (aaV hx)
  have UG:m=0\/m=2\/(Pr.aR m/\m≠2/\m<20000000000):=by
   by_cases m2:m=2
   ·exact .inr (.inl m2)
   ·rcases (mk m).mp hm with h|h|⟨h1,h2⟩
    ·exact .inl h
    ·exact .inr (.inl h)
    ·have h3:=ab9 (by omega) (aa6.mpr h2)
     exact .inr (.inr ⟨h1,m2,by omega⟩)
  refine⟨_,rfl,_,rfl,p,a,b,c,m,rfl,g _ _ (gA _ _ hp),P,ha,hb,hc,UG,fun r H3 g3 hr=>⟨_,rfl,?_⟩⟩
  have e:r=@decide (Jc.mK a b c m) (Classical.propDecidable _):=by
   cases r
   ·exact (@decide_eq_false _ (Classical.propDecidable _) fun z=>by cases hr.mpr z).symm
   ·exact (@decide_eq_true _ (Classical.propDecidable _) (hr.mp rfl)).symm
  rw[e]
  exact k H3 g3
 ·intro i x H' Q' hx e g k
  exact⟨_,rfl,k _ (av.refl _)⟩
 ·intro l H' g nl hl
  rw[List.map_id,List.filter_map] at hl
  refine q l _ H' (gA.trans g) (gA.free nl) hl (strict.filter _) fun x=>?_
  rw[abQ,mk]
  exact and_congr_right fun _=>@decide_eq_true_iff _ (Classical.propDecidable _)
theorem Cm (F:Fn K mg "_law_slopes" qD)(T:Txt K mg t) :aV P w K mg base aU 1 "_law_slopes" ["_law_form_here"] (Gd):=by
 refine F.ok eU (fun f bh A outer s H vs Q E hr h=>?_)
 obtain⟨p,F,rfl,hp,bf,q⟩:=h
 have GH:H p=some (.tup [.int F.a,.int F.b,.int F.c,.int F.d,.int F.e,.int F.f]):=hp
 have b2:Bd 2 2:=by unfold Bd;decide
 refine⟨_,ah (gT (pv 0) (GI K (aD (eO (i:=1) eU.nd) (aD (eO (i:=2) eU.nd) (aD (eO (i:=3) eU.nd) (aD (eO (i:=4) eU.nd) (aD (eO (i:=5) eU.nd) (aD (eO (i:=6) eU.nd) dE))))))))
  (ar (aA (cE (aa (aJ (aa (aj au ae (pv 1)) (aa (pv 6) (aa (pv 5) af)))) (aa (aJ (aa (pv 6) (aa (aj au ae (pv 2)) (aa (pv 4) af)))) (aa (aJ (aa (pv 5) (aa (pv 4) (aa (aj au ae (pv 3)) af)))) af)))))),?_⟩
 refine⟨_,rfl,p,_,rfl,aF.of GH,rfl,_,_,rfl,_,_,rfl,_,_,rfl,_,_,rfl,_,_,rfl,_,_,rfl,rfl,?_⟩
 refine⟨_,rfl,_,_,rfl,rfl,bV b2 bf.a,_,rfl,_,rfl,(cz 3),fun p1 n1=>⟨_,rfl,_,rfl,_,_,rfl,rfl,bV b2 bf.b,_,rfl,(cz 3),fun p2 n2=>⟨_,rfl,_,rfl,_,rfl,_,_,rfl,rfl,bV b2 bf.c,(cz 3),fun p3 n3=>⟨(cz 3),fun pl FN=>?_⟩⟩⟩⟩
 have f1:=ai n1 (.tup [.int (2*F.a),.int F.f,.int F.e])
 have f2:=ai n2 (.tup [.int F.f,.int (2*F.b),.int F.d])
 have f3:=ai n3 (.tup [.int F.e,.int F.d,.int (2*F.c)])
 have f4:=ai FN (.lst [.ref p1,.ref p2,.ref p3])
 exact q pl p1 p2 p3 _ (f1.trans (f2.trans (f3.trans f4))) ag ((f2.trans (f3.trans f4)) p1 _ ag) ((f3.trans f4) p2 _ ag) (f4 p3 _ ag)
theorem zp (F:Fn K mg "_law_refused" mY)(T:Txt K mg t)(rA:aV P w K mg base aU 1 "_law_slopes" ["_law_form_here"] (Gd))(gy:aV P w K mg base (XD P w) 7 "bad_of" ["Q"] (A4 t.c8))(ke:oB P w K mg base 3 "_law_is_lowest" ["_law_point"] (uJ)):aV P w K mg base aU 8 "_law_refused" ["_law_form_here"] (uO):=by
 obtain⟨Q3,Q4,Gq,Gs,Gu,Gv⟩:=id gy
 refine F.ok du (fun f bh A outer s H vs Q E hr h=>?_)
 obtain⟨p,F,rfl,hp,in1,z0,q⟩:=h
 have Cn:=hr.mono (show 7<=7 by decide)
 have Gw:=uw hr
 refine⟨_,ah (bQ (i:=1) du.nd (aq rA hr aB (aa (pv 0) af)))
  (ah (bQ (i:=2) du.nd kF)
  (ah (Hh (i:=3) (C:=t.c8) Gq Cn rfl Gv Gu Gs (aa (pv 0) af) T.Ft rfl (Dr T.yT) du.nd rfl rfl (fun ea o u=>ah (bQ (i:=4) du.nd (Dt K (pv 3))) (ah (bQ (i:=2) du.nd (pH (iC ke (hr.q.mark _) (aa (pv 4) af)) (my (CM (aS (Br (K:=K) rfl) rfl T.eD wZ (aa (pv 3) (aa (fG (v:=.ref t.c7) rfl T.yS rfl) af))))))) (ah (wa (k:=5) du.nd rfl (Or.inl rfl) rfl rfl (ck.gen (cl:=[("_law_point",_)]) ["_law_point"] [4] [(".0",.local),("_law_row",.cell),("sum",.globalImplicit),("range",.globalImplicit),("_law_point",.cell)] rfl) (xH K (pv 1)) (fun C s0 H0 fp pins=>aS (pY rfl) rfl T.Fv Fz (aa (bX rfl (aI.gen (cl:=[("_law_row",_),("_law_point",_)]) ["_law_point","_law_row"] [1,0] [(".0",.local),("_law_k",.local),("_law_point",.cell),("_law_row",.cell)] rfl) (cD rfl T.eF (aa ae af)) (fun C s0 H0 fp pins=>aj au (aO (a8 K) (pv 2) (pv 0)) (aO (a8 K) (pv 1) (pv 0)))) af)) (Or.inl rfl)) (ar (bQ (i:=2) du.nd (pH (pv 2) (my (dF (DI Gw) (pv 5) (cE (aa ae (aa ae (aa ae af)))) (aG _))))))))))
  (ar (aA (pv 2))))),?_⟩
 have bf:BF 400 F:=in1.bf.mono
 refine⟨_,rfl,p,F,rfl,hp,bf,fun pl p1 p2 p3 H1 g1 kH h1 h2 h3=>?_⟩
 refine⟨_,rfl,p,F,rfl,g1 _ _ hp,in1,fun ns=>absurd z0 ns,fun _ dx r H2 R g2 z7 R1 l3 bR kR=>⟨dx,rfl,rfl,fun e o he=>?_⟩⟩
 have g3:=ai he (.mw o (.ext (iS t.c8 e dx)))
 have rd:Rd (upd H2 e (.mw o (.ext (iS t.c8 e dx)))) e (.ext (iS t.c8 e dx)):=.inr ⟨o,ag⟩
 have ZI:∀ {W2:Hp},av (upd H2 e (.mw o (.ext (iS t.c8 e dx)))) W2->Rd W2 e (.ext (iS t.c8 e dx)):=fun g=>.inr ⟨o,g _ _ ag⟩
 refine⟨_,rfl,e,t.c8,dx,_,_,rfl,rd,g3 _ _ z7,T.wY,rfl,?_⟩
 refine⟨_,rfl,r,R.x,R.y,R.z,rfl,g3 _ _ R1,l3.1,l3.2,fun H4 g4=>?_⟩
 refine⟨_,rfl,lP ?_⟩
 refine⟨_,rfl,_,_,_,_,rfl,.inl ⟨_,rfl⟩,.exc T.exc (ZI g4),T.YG,_,rfl,?_⟩
 have gA:=g2.trans (g3.trans g4)
 have M5:=gA _ _ kH
 have UR:H4 r=some (.tup [.int R.x,.int R.y,.int R.z]):=(g3.trans g4) _ _ R1
 simp only[tb,sl,P3.mk.injEq] at kR
 obtain⟨k1,k2,k3⟩:=kR
 have b2:Bd 2 2:=by unfold Bd;decide
 have B2:∀ {x:Int},Bd 400 x->Bd 402 (2*x):=fun {x} h=>b2.mul h
 have B0:∀ {x:Int},Bd 400 x->Bd 402 x:=fun {x} h=>h.mono (by decide)
 refine⟨_,rfl,pl,rfl,⟨_,aM.of M5⟩,kX (xs:=[.ref p1,.ref p2,.ref p3]) (aM.of M5) (sC 3) (fun _=>.int 0) (fun H' g=>aM.of (g _ _ M5)) ?_ ?_⟩
 ·intro i v H' Q' hv g kk
  have gB:=gA.trans g
  obtain⟨z,P',rfl,hz,e0,bP⟩:∃ (z:Addr) (P':P3),v=.ref z/\H' z=some (.tup [.int P'.x,.int P'.y,.int P'.z])/\rp P' R=0/\BP 402 P':=by
   match i,hv with
   | 0,hv=>exact⟨p1,⟨2*F.a,F.f,F.e⟩,(aac hv).symm,gB _ _ h1,k1,⟨B2 bf.a,B0 bf.f,B0 bf.e⟩⟩
   | 1,hv=>exact⟨p2,⟨F.f,2*F.b,F.d⟩,(aac hv).symm,gB _ _ h2,k2,⟨B0 bf.f,B2 bf.b,B0 bf.d⟩⟩
   | 2,hv=>exact⟨p3,⟨F.e,F.d,2*F.c⟩,(aac hv).symm,gB _ _ h3,k3,⟨B0 bf.e,B0 bf.d,B2 bf.c⟩⟩
   | n+3,hv=>cases hv
  have ZJ:=g _ _ UR
  refine⟨3,rfl,by decide,by decide,gN 3 (by decide) (fun j=>.int ([P'.x*R.x,P'.y*R.y,P'.z*R.z].getD j 0)) ?_ ?_⟩
  ·intro j H5 Q5 hj g5 k5
   have Hs:=g5 _ _ hz
   have Vb:=g5 _ _ ZJ
   obtain rfl|rfl|rfl:j=0\/j=1\/j=2:=by omega
   ·exact⟨_,rfl,_,rfl,z,_,_,_,rfl,rfl,aF.of Hs,rfl,_,rfl,_,rfl,r,_,_,_,rfl,rfl,aF.of Vb,rfl,_,_,rfl,rfl,bV bP.x bR.x,k5 _ (av.refl _)⟩
   ·exact⟨_,rfl,_,rfl,z,_,_,_,rfl,rfl,aF.of Hs,rfl,_,rfl,_,rfl,r,_,_,_,rfl,rfl,aF.of Vb,rfl,_,_,rfl,rfl,bV bP.y bR.y,k5 _ (av.refl _)⟩
   ·exact⟨_,rfl,_,rfl,z,_,_,_,rfl,rfl,aF.of Hs,rfl,_,rfl,_,rfl,r,_,_,_,rfl,rfl,aF.of Vb,rfl,_,_,rfl,rfl,bV bP.z bR.z,k5 _ (av.refl _)⟩
  ·intro l H5 g5 _ ND
   refine⟨l,[P'.x*R.x,P'.y*R.y,P'.z*R.z],rfl,ND,?_⟩
   rw[Pj]
   have e1:P'.x*R.x+P'.y*R.y+P'.z*R.z=0:=e0
   rw[e1]
   exact kk _ g5
 intro l H5 g5 _ ND
 refine⟨_,rfl,_,rfl,lP ?_⟩
 refine⟨_,rfl,(cz 3),fun l6 n6=>?_⟩
 have g6:=ai n6 (.lst [.int 0,.int 0,.int 0])
 have ZK:(upd H5 l6 (.lst [.int 0,.int 0,.int 0])) l=some (.lst ([(0:Int),0,0].map V.int)):=g6 _ _ ND
 have V2:(upd H5 l6 (.lst [.int 0,.int 0,.int 0])) l6=some (.lst ([(0:Int),0,0].map V.int)):=ag
 refine⟨_,_,.lst ZK (vZ.ints _),.lst V2 (vZ.ints _),aec _,aec _,?_⟩
 rw[SeqAt.eqv_refl _ (show PyData.canLay0 (.list ([(0:Int),0,0].map .int))=true by with_unfolding_all rfl)]
 exact⟨_,rfl,q _ (g1.trans (gA.trans (g5.trans g6)))⟩
theorem zq (F:Fn K mg "_law_is_list" mZ)(T:Txt K mg t)(kq:oB P w K mg base 1 "_law_whole" ["_law_found"] (oR)):aV P w K mg base aU 2 "_law_is_list" ["_law_found","_law_due"] (Ge):=by
 refine F.ok zf (fun f bh A outer s H vs Q E hr h=>?_)
 obtain⟨p,r,ks,rfl,hp,jw,lk,ev,q⟩:=h
 have Gw:=uw hr
 refine⟨_,ah (aZ (PW.pt (zE (kQ (eN (aS jE rfl T.eD wZ (aa (pv 0) (aa (oP (v:=.ty "list") rfl T.Fx FA rfl) af))) (fun _=>rfl))) (tF (kQ (eN (aS (lW rfl) rfl T.AR AU (aa (bX rfl (aI.gen (cl:=[]) [] [] [(".0",.local),("_law_place",.local),("_law_whole",.globalImplicit)] rfl) (xH K (pv 0)) (fun C s0 H0 fp pins=>iC kq hr.q (aa (pv 0) af))) af)) (fun _=>rfl)))))) (ar (aA kF)) aL)
  (ar (aA (pH (dF (DI Gw) (pv 0) (pv 1) (aG _)) (my (dF bB (aj bj (aS iO rfl T.Fu aeM (aa (pv 0) af)) ae) ae (aG _)))))),?_⟩
 have ZM:(ks.map V.int).length<sizeLine:=by rw[aas];exact aak lk (by decide)
 refine⟨_,rfl,_,_,_,_,rfl,.inr ⟨_,rfl⟩,.of (.lst hp),rfl,_,rfl,gU ?_⟩
 refine⟨_,rfl,p,rfl,⟨_,aM.of hp⟩,kX (xs:=ks.map V.int) (aM.of hp) ZM (fun _=>.bl true) (fun H' g=>aM.of (g _ _ hp)) ?_ ?_⟩
 ·intro i v H' Q' hv g kk
  obtain⟨m,hm,rfl⟩:=abb.mp (aaV hv)
  exact⟨_,rfl,m,rfl,kk _ (av.refl _)⟩
 intro l H2 g2 _ hl
 have e:(ks.map V.int).map (fun _=>V.bl true)=(ks.map fun _=>true).map V.bl:=by rw[ae2,ae2];rfl
 rw[e] at hl
 have ea:(ks.map fun _=>true).all id=true:=by
  rw[List.all_map]
  exact acp.mpr fun _ _=>rfl
 refine⟨l,_,rfl,hl,_,rfl,?_⟩
 rw[ea]
 refine gU ?_
 refine⟨_,rfl,_,rfl,_,_,.lst (g2 _ _ hp) (vZ.ints ks),.lst (g2 _ _ jw) (vZ.ints ks),aec ks,aec ks,?_⟩
 rw[SeqAt.eqv_refl _ (show PyData.canLay0 (.list (ks.map .int))=true by simp[PyData.canLay0,W.ke_canLayAll0])]
 refine⟨_,rfl,lP ?_⟩
 refine⟨_,rfl,p,_,rfl,.inl (aM.of (g2 _ _ hp)),_,_,rfl,rfl,(by show (0:Int)<2;decide),rfl,?_⟩
 have e2:decide (V.int (((ks.map V.int).length:Int)%2)=V.int 0)=true:=abr (aa2 V.int (by rw[aas];omega))
 have fin:Q (.bl (decide (V.int (((ks.map V.int).length:Int)%2)=V.int 0))) H2:=by
  rw[e2]
  exact q _ g2
 exact fin
theorem M6 {f:Addr}{fd:FuncData}(F:CB K "law" "law" Fs f fd)(T:Txt K mg t)(zr:aV P w K mg base aU 4 "_law_form" ["_law_script"] (zb K))(vk:aV P w K mg base aU 1 "_law_size" ["_law_form_here"] (uL))(nG:aV P w K mg base aU 8 "_law_refused" ["_law_form_here"] (uO))(eY:aV P w K mg base (XD P w) 6 "plain_of" ["Q"] (uN t.c8))(fQ:aV P w K mg base aU 2 "_law_changed" ["_law_form_here","_law_table"] (IQ))(ip:aV P w K mg base aU 3 "_law_bad_places" ["_law_triple","_law_number"] (Gb))(gy:aV P w K mg base (XD P w) 7 "bad_of" ["Q"] (A4 t.c8))(ku:aV P w K mg base aU 2 "_law_is_list" ["_law_found","_law_due"] (Ge)):kB P w K mg base aU 9 f fd ["_law_script"] (vU K):=by
 refine F.ok lH (fun vs H Q E h=>?_) (fun bh A outer s H vs Q E hr h=>?_)
 ·obtain⟨a,ns,rfl,_⟩:=h
  rfl
 obtain⟨a,ns,rfl,hS,h63,hb,q⟩:=h
 have Gw:=uw hr
 refine⟨_,ah (bQ (i:=1) lH.nd (aq zr hr aB (aa (pv 0) af)))
  (ah (aZ (aE bB (aq vk hr aB (aa (pv 1) af)) ae (aG _)) (ar (aA (aq nG hr aB (aa (pv 1) af)))) aL)
  (ah (gT (aq eY hr yh (aa (pv 1) af)) (GI K (aD (eO (i:=4) lH.nd) (aD (eO (i:=5) lH.nd) (aD (eO (i:=6) lH.nd) dE)))))
  (ah (aZ (aE (Ly Gw) (aq fQ hr aB (aa (pv 1) (aa (pv 4) af))) (aj (OG K) (cT cU rfl T.jb jc (aa (bX rfl (aI.gen (cl:=[("_law_scale",_)]) ["_law_scale"] [5] [(".0",.local),("_law_number",.local),("_law_scale",.cell)] rfl) (Bs K (pv 6)) (fun C s0 H0 fp pins=>aj au (pv 1) (pv 0))) af)) (aJ (aa ae (aa ae (aa ae af))))) (aG _)) (ar (aA kF)) aL)
  (ah (bQ (i:=2) lH.nd (aq ip hr aB (aa (pv 6) (aa (aq vk hr aB (aa (pv 1) af)) af))))
  (ah (bQ (i:=3) lH.nd (aq gy hr yh (aa (pv 1) af)))
  (ah (aZ (kQ (eN (aq ku hr aB (aa (pv 3) (aa (pv 2) af))) (fun _=>rfl))) (ar (aA kF)) aL)
  (ah (fH (pO abI acU acT dQ (pv 3) (aa ae af)))
  (ar (aA (aq ku hr aB (aa (aq gy hr yh (aa (pv 1) af)) (aa (pv 2) af)))))))))))),?_⟩
 refine⟨_,rfl,a,ns,rfl,hS,fun pf H1 F g1 hF in1=>?_⟩
 have bF:BF 600 F:=in1.bf.mono
 refine⟨_,rfl,pf,F,rfl,hF,bF,rfl,_,rfl,bK (fun c=>?_) (fun c=>?_)⟩
 ·exact⟨_,rfl,pf,F,rfl,hF,in1,aP (cZ c),fun H2 g2=>q _⟩
 have R6:sz F≠0:=fun z=>dX c (aa2 V.int z)
 refine⟨_,rfl,pf,F,rfl,hF,in1,fun _ r ta pr H2 t' k q1 q2 q3 g2 jw ht Q1 k0 m0 ec pl b1 b2 b3 bt bk=>?_,fun z=>absurd z R6⟩
 refine⟨r,_,rfl,aF.of jw,rfl,_,_,rfl,_,_,rfl,_,_,rfl,rfl,?_⟩
 refine⟨_,rfl,_,rfl,pf,ta,F,t',rfl,g2 _ _ hF,ht,bF,bt.mono,fun pc H3 g3 hc=>?_⟩
 rw[ec] at hc
 have Jg:=g3 _ _ Q1
 refine⟨_,rfl,pr,rfl,⟨_,aF.of Jg⟩,mH (xs:=[.int q1,.int q2,.int q3]) (aF.of Jg) (sC 3) (RX k) (fun H' g=>aF.of (g _ _ Jg)) ?_ ?_⟩
 ·intro i v H' Q' hv g kk
  have bn:∃ n:Int,v=.int n/\n.natAbs<=10000000000:=by
   match i,hv with
   | 0,hv=>exact⟨q1,(aac hv).symm,b1⟩
   | 1,hv=>exact⟨q2,(aac hv).symm,b2⟩
   | 2,hv=>exact⟨q3,(aac hv).symm,b3⟩
   | n+3,hv=>cases hv
  obtain⟨n,rfl,hn⟩:=bn
  have ZN:Bd 40 n:=aag hn (by decide)
  exact⟨_,rfl,_,rfl,_,_,rfl,rfl,bV bk ZN,kk _ (av.refl _)⟩
 intro l2 H7 g7 _ rM
 refine⟨l2,_,rfl,.inl ⟨aM.of rM,fun z nz=>⟨(cz 3),fun p0 n0=>⟨z,p0,_,_,rfl,rfl,aF.of (ai n0 _ _ _ ag),aF.of ag,by simp,(cz 6),(fun z=>by cases z),fun _ z2 ZO=>?_⟩⟩⟩⟩
 have f1:=ai nz (.tup ([.int q1,.int q2,.int q3].map (RX k)))
 have f2:=ai n0 (.tup [.int 0,.int 0,.int 0])
 have f3:=ai ZO (.tup ([.int q1,.int q2,.int q3].map (RX k)++[.int 0,.int 0,.int 0]))
 have gB:=f1.trans (f2.trans f3)
 have ZP:∀ H0:Hp,S6 (upd H0 z2 (.tup ([.int q1,.int q2,.int q3].map (RX k)++[.int 0,.int 0,.int 0]))) z2 ⟨k*q1,k*q2,k*q3,0,0,0⟩:=fun _=>ag
 refine⟨_,_,Wj (gB _ _ (g7 _ _ hc)),Wj (ZP _),rfl,rfl,?_⟩
 rw[YM]
 refine⟨_,rfl,gU ?_⟩
 have W3:=g7.trans gB
 have Vc:=W3 _ _ Jg
 have Vd:=(g3.trans W3) _ _ (g2 _ _ hF)
 refine⟨_,rfl,_,rfl,pf,F,rfl,Vd,bF,pr,q1,q2,q3,sz F,rfl,Vc,pl,b1,b2,b3,R6,E9 in1,fun Ve ks H9 g9 nd Q6 st mk=>?_⟩
 have mem:∀ x,x∈ks↔Loc F x:=fun x=>by
  rw[mk,AG m0 k0 pl ec x]
  refine⟨(·.2),fun h=>⟨?_,h⟩⟩
  by_cases x0:x=0
  ·exact .inl x0
  by_cases x2:x=2
  ·exact .inr (.inl x2)
  ·exact .inr (.inr (ER h x0 x2))
 refine⟨_,rfl,pf,F,rfl,g9 _ _ Vd,in1,fun _ fo Bv bs Mh nf R7 ZQ ln ev Vf=>?_,fun z=>absurd z R6⟩
 obtain rfl:bs=ks:=Pl.k8 ZQ st fun x=>(Vf x).trans (mem x).symm
 have Gx:=Mh _ _ Q6
 refine⟨_,rfl,_,rfl,fo,Ve,bs,rfl,R7,Gx,ln,ev,fun Af Q7=>⟨_,rfl,gU ?_⟩⟩
 have ne:Ve≠fo:=fun z=>by
  rw[<- z,Q6] at nf
  cases nf
 refine⟨_,rfl,.inl ⟨rfl,_,aM.of (Q7 _ _ R7)⟩,fo,_,_,rfl,rfl,Q7 _ _ R7,(by rw[aas];exact aak ln (by decide)),?_⟩
 have Q8:=Q7 _ _ R7
 have M7:=Q7 _ _ (Mh _ _ (g9 _ _ Vd))
 have M0:pf≠fo:=fun z=>by
  rw[z,Q8] at M7
  cases M7
 have Vg:S6 (upd Af fo (.lst (bs.map V.int++[.int 4]))) pf F:=by
  show (upd Af fo _) pf=_
  rw[aH M0]
  exact M7
 refine⟨_,rfl,pf,F,rfl,Vg,in1,fun _ ZR H13 QU QF _ Vh Vi ln2 Pe Q9=>?_,fun z=>absurd z R6⟩
 obtain rfl:QU=bs:=Pl.k8 Vi st fun x=>(Q9 x).trans (mem x).symm
 refine⟨_,rfl,ZR,Ve,QU,rfl,Vh,QF _ _ ?_,ln2,Pe,fun H14 g14=>q _⟩
 rw[aH ne]
 exact Q7 _ _ Gx
end
theorem all_mk {l:W.OpenLaw}{w:World}{K:W.Frag}{h:Heap}{mg:Str->Option Value}{fa Kd Vj Vk Vl Vm pD lL zt rB rC rD vm nH nJ nK:Addr}(X:K.In h)(G:h.Ns mainGlobals mg)(ZS:mg "law"=some (.ref fa))
  {Vn Vo:Option Addr}{Vp:Array (Option Value)}{Vq Vr Vt Vu Ra Vv:Value}
  (n1:Fn K mg "taken_out" jN)
  (n2:Fn K mg "divisor_after" fm)
  (n3:Fn K mg "prime_parts" gW)
  (n4:Fn K mg "core_of" mR)
  (n5:Fn K mg "row_less" lu)
  (n6:Fn K mg "shares_of" jO)
  (n7:Fn K mg "slopes_of" jQ)
  (n8:Fn K mg "size_of" mV)
  (n9:Fn K mg "crossing_of" hX)
  (ZU:Fn K mg "stretched" jS)
  (ZV:Fn K mg "row_product" hU)
  (ZW:Fn K mg "turned_by" jR)
  (ZX:Fn K mg "worth_of" lB)
  (ZY:Fn K mg "added" um)
  (ZZ:Fn K mg "lowest_point" gi)
  (Z0:Fn K mg "turned_over" hV)
  (Z1:Fn K mg "above_root" iZ)
  (Z2:Fn K mg "root_of" mT)
  (Z3:Fn K mg "off_curve" jT)
  (Z4:Fn K mg "corners_on" i6)
  (Z5:Fn K mg "corners_of" i5)
  (Uc:Fn K mg "crossings_of" gj)
  (Z6:Fn K mg "vertex_of" jP)
  (Z7:Fn K mg "refuse_flat" hJ)
  (Z8:Fn K mg "core_of_cores" fq)
  (Z9:Fn K mg "cores_of" lD)
  (n28:Fn K mg "plain_of" lC)
  (n29:Fn K mg "_law_of" Mr)
  (n30:Fn K mg "_law_drawn" uo)
  (n31:Fn K mg "_law_row_times" jU)
  (n32:Fn K mg "_law_changed" mW)
  (n33:Fn K mg "_law_worth" ur)
  (n34:Fn K mg "_law_shared" qB)
  (n35:Fn K mg "_law_whole" uq)
  (n36:Fn K mg "_law_wholes" qA)
  (n37:Fn K mg "_law_is_lowest" jV)
  (n38:Fn K mg "_law_size" yQ)
  (n39:Fn K mg "_law_plain_drawn" hZ)
  (n40:Fn K mg "_law_sheared" mX)
  (n41:Fn K mg "_law_form" yR)
  (n42:Fn K mg "is_without_squares" dh)
  (n43:Fn K mg "sign_of_two" gX)
  (n44:Fn K mg "sign_of_turn" gh)
  (n45:Fn K mg "sign_by" mS)
  (n46:Fn K mg "is_plain" lA)
  (n47:Fn K mg "sign_at_two" gZ)
  (n48:Fn K mg "sign_at_odd" gY)
  (n49:Fn K mg "sign_at" mU)
  (n50:Fn K mg "places_in_question" di)
  (n51:Fn K mg "places_without_point" cM)
  (n52:Fn K mg "bad_places" i4)
  (n53:Fn K mg "bad_of" qw)
  (n54:Fn K mg "_law_no_square" jW)
  (n55:Fn K mg "_law_none_by_8" jX)
  (n56:Fn K mg "_law_bad" Fq)
  (n57:Fn K mg "_law_primes" qC)
  (n58:Fn K mg "_law_bad_places" ia)
  (n59:Fn K mg "_law_slopes" qD)
  (n60:Fn K mg "_law_refused" mY)
  (n61:Fn K mg "_law_is_list" mZ)
  (n62:Fn K mg "law" Fs)
  {Rb:Value}{Rc:Option Addr}{Rg:Array (Option Value)}{Rh Ri:Str}{Rj Rk Rm:List Value}{Ke:Addr}{Rn Ro Rp:Bool}{Rq:List Str}{Rr:Option Bool}
  (o22:K.lookup pD=some ⟨Rb,Rc,.cls ⟨Rh,Rj,Rk,Ke,Ri,Rn,Rq,Rm,Ro,Rr,Rp⟩,Rg⟩)
  (a22:W.nsIn K Ke "__init__"=some (some (.ref lL))) (l22:K.lookup lL=some ⟨Vq,Vn,.func (W.fnOf "__init__" "Flat.__init__" (gL dR) (cX dR) (aw dR) .none Vr Vt Vu Vo Ra Vv),Vp⟩) (g22:W.codeIn K Ra "Flat.__init__"=true) (k22:W.keepIn K (.ref lL)=true)
  (xm_CurveError:W.nsIn K mainGlobals "CurveError"=some (some (.ref Kd)))
  (xm_NoNumber:W.nsIn K mainGlobals "NoNumber"=some (some (.ref Vj)))
  (xm_NoSign:W.nsIn K mainGlobals "NoSign"=some (some (.ref Vk)))
  (xm_NotPlain:W.nsIn K mainGlobals "NotPlain"=some (some (.ref Vl)))
  (xm_NoVertex:W.nsIn K mainGlobals "NoVertex"=some (some (.ref Vm)))
  (xm_Flat:W.nsIn K mainGlobals "Flat"=some (some (.ref pD)))
  (xi_ce:W.kitOne K (.ref pD) (.ref Kd)=some true)
  (xi_0:W.kitOne K (.ref pD) (.ref Vj)=some false)
  (xi_3:W.kitOne K (.ref pD) (.ref Vk)=some false)
  (xi_4:W.kitOne K (.ref pD) (.ref Vl)=some false)
  (xi_7:W.kitOne K (.ref pD) (.ref Vm)=some false)
  (xi_8:W.kitOne K (.ref pD) (.ref pD)=some true)
  (xi_ve:W.kitOne K (.ref pD) (.type "ValueError")=some true)
  (xe0:(W.clsIn K pD).isSome=true)
  (xe1:W.findIn K (.ref pD) "__getattribute__"=some (some (.builtin "BaseException.__getattribute__")))
  (xe2:W.findIn K (.ref pD) "__getattr__"=some none)
  (xe3:W.findIn K (.ref pD) "__class__"=some (some (.builtin "object.__class__")))
  (xe4:W.specialIn K (.builtin "object.__class__") "__get__"=some (some (.builtin "getset_descriptor.__get__")))
  (xe5:W.takesIn K (.builtin "object.__class__")=some true)
  (xe6:W.mroIn K pD (.type "object")=some true)
  (xe7:W.mroIn K pD (.type "BaseException")=some true)
  (xx_Flat:kS K pD lL=true)
  (xxf_Flat:W.isFn K (.ref lL)=true)
  (xxn_Flat:W.findIn K (.ref pD) "vertex"=some none)
  (xxd_Flat:(W.clsIn K pD).map (·.hasDict)=some true)
  (xxs_Flat:W.findIn K (.ref pD) "__setattr__"=some (some (.builtin "object.__setattr__")))
  (xxo_Flat:(W.clsIn K pD).any (fun cd=>pQ cd.mro)=true)
  (xy1:W.specialIn K (.ref Kd) "__getattribute__"=some (some (.builtin "type.__getattribute__")))
  (xy2:W.readsIn K Kd (.type "type")=true)
  (xy3:W.findCls K (.ref Kd) (.type "type") "__init__"=some (.val (.builtin "ValueError.__init__")))
  (xx_CurveError:W.excIn K Kd iR "ValueError.__new__"=true)
  (xu_Flat:W.mroIn K pD (.ref Kd)=some true)
  (xm_AXES:W.nsIn K mainGlobals "AXES"=some (some (.ref zt)))
  {Jh:Option Addr}{M8:Nat}{Ji:Array (Option Value)}
  (xk_AXES:K.lookup zt=some ⟨.type "tuple",Jh,.seq #[.ref rB,.ref rC,.ref rD] M8,Ji⟩)
  {Co:Option Addr}{Gy:Nat}{Cp:Array (Option Value)}{xq xr xt:Tok}
  (xk_AXES_0:K.lookup rB=some ⟨.type "tuple",Co,.seq #[.int 1 xq,.int 0 xr,.int 0 xt] Gy,Cp⟩)
  {Cq:Option Addr}{Gz:Nat}{Cr:Array (Option Value)}{xu xv xw:Tok}
  (xk_AXES_1:K.lookup rC=some ⟨.type "tuple",Cq,.seq #[.int 0 xu,.int 1 xv,.int 0 xw] Gz,Cr⟩)
  {Cs:Option Addr}{GA:Nat}{Ct:Array (Option Value)}{xx xA xB:Tok}
  (xk_AXES_2:K.lookup rD=some ⟨.type "tuple",Cs,.seq #[.int 0 xx,.int 0 xA,.int 1 xB] GA,Ct⟩)
  (xm_TURNS:W.nsIn K mainGlobals "TURNS"=some (some (.ref vm)))
  {GB:Option Addr}{Jj:Nat}{GC:Array (Option Value)}
  (xk_TURNS:K.lookup vm=some ⟨.type "tuple",GB,.seq #[.ref nH,.ref nJ,.ref nK] Jj,GC⟩)
  {zu:Option Addr}{Cu:Nat}{zv:Array (Option Value)}{vn vo vp:Tok}
  (xk_TURNS_0:K.lookup nH=some ⟨.type "tuple",zu,.seq #[.int 0 vn,.int 1 vo,.int 2 vp] Cu,zv⟩)
  {zw:Option Addr}{Cv:Nat}{zx:Array (Option Value)}{vq vt vv:Tok}
  (xk_TURNS_1:K.lookup nJ=some ⟨.type "tuple",zw,.seq #[.int 1 vq,.int 2 vt,.int 0 vv] Cv,zx⟩)
  {zy:Option Addr}{Cw:Nat}{zA:Array (Option Value)}{vw vA vB:Tok}
  (xk_TURNS_2:K.lookup nK=some ⟨.type "tuple",zy,.seq #[.int 2 vw,.int 0 vA,.int 1 vB] Cw,zA⟩)
  (xi_ib:W.kitOne K (.type "int") (.type "bool")=some false)
  (xz_isinstance:W.nsIn K mainGlobals "isinstance"=some none)
  (xz_int:W.nsIn K mainGlobals "int"=some none)
  (xz_bool:W.nsIn K mainGlobals "bool"=some none)
  (xz_len:W.nsIn K mainGlobals "len"=some none)
  (xz_range:W.nsIn K mainGlobals "range"=some none)
  (xz_tuple:W.nsIn K mainGlobals "tuple"=some none)
  (xz_all:W.nsIn K mainGlobals "all"=some none)
  (xz_abs:W.nsIn K mainGlobals "abs"=some none)
  (xz_any:W.nsIn K mainGlobals "any"=some none)
  (xz_sum:W.nsIn K mainGlobals "sum"=some none)
  (xz_zip:W.nsIn K mainGlobals "zip"=some none)
  (xz_max:W.nsIn K mainGlobals "max"=some none)
  (xz_min:W.nsIn K mainGlobals "min"=some none)
  (xz_list:W.nsIn K mainGlobals "list"=some none)
  (xz_sorted:W.nsIn K mainGlobals "sorted"=some none)
  (xz_set:W.nsIn K mainGlobals "set"=some none)
  (xz_ValueError:W.nsIn K mainGlobals "ValueError"=some none)
 :∃ fd:FuncData,(∀ (s:Shared) (v:Value),BindsTo s fd ⟨[v],[]⟩ [("_law_script",v)])/\∀ base:Heap,K.In base->base.Ns mainGlobals mg->kB l.prog w K mg base aU 9 fa fd ["_law_script"] (vU K):=by
 obtain⟨fl,fd,W4,ml⟩:=n62
 cases ZS.symm.trans ml
 have T:Txt K mg ⟨Kd,Vj,Vk,Vl,Vm,pD,lL,zt,rB,rC,rD,vm,nH,nJ,nK⟩:=⟨aeu X G xm_CurveError,aeu X G xm_NoNumber,aeu X G xm_NoSign,aeu X G xm_NotPlain,aeu X G xm_NoVertex,aeu X G xm_Flat,xi_ce,xi_0,xi_3,xi_4,xi_7,xi_8,xi_ve,xe0,xe1,xe2,xe3,xe4,xe5,xe6,xe7,xx_Flat,xxf_Flat,xxn_Flat,xxd_Flat,xxs_Flat,xxo_Flat,xy1,xy2,xy3,xx_CurveError,xu_Flat,aeu X G xm_AXES,iD.mk xk_AXES (by show 3<=sizeLine;decide) (.cons rfl (.cons rfl (.cons rfl .nil))),iD.mk xk_AXES_0 (by show 3<=sizeLine;decide) (.cons ⟨_,rfl⟩ (.cons ⟨_,rfl⟩ (.cons ⟨_,rfl⟩ .nil))),iD.mk xk_AXES_1 (by show 3<=sizeLine;decide) (.cons ⟨_,rfl⟩ (.cons ⟨_,rfl⟩ (.cons ⟨_,rfl⟩ .nil))),iD.mk xk_AXES_2 (by show 3<=sizeLine;decide) (.cons ⟨_,rfl⟩ (.cons ⟨_,rfl⟩ (.cons ⟨_,rfl⟩ .nil))),aeu X G xm_TURNS,iD.mk xk_TURNS (by show 3<=sizeLine;decide) (.cons rfl (.cons rfl (.cons rfl .nil))),iD.mk xk_TURNS_0 (by show 3<=sizeLine;decide) (.cons ⟨_,rfl⟩ (.cons ⟨_,rfl⟩ (.cons ⟨_,rfl⟩ .nil))),iD.mk xk_TURNS_1 (by show 3<=sizeLine;decide) (.cons ⟨_,rfl⟩ (.cons ⟨_,rfl⟩ (.cons ⟨_,rfl⟩ .nil))),iD.mk xk_TURNS_2 (by show 3<=sizeLine;decide) (.cons ⟨_,rfl⟩ (.cons ⟨_,rfl⟩ (.cons ⟨_,rfl⟩ .nil))),xi_ib,abt X G xz_isinstance,abt X G xz_int,abt X G xz_bool,abt X G xz_len,abt X G xz_range,abt X G xz_tuple,abt X G xz_all,abt X G xz_abs,abt X G xz_any,abt X G xz_sum,abt X G xz_zip,abt X G xz_max,abt X G xz_min,abt X G xz_list,abt X G xz_sorted,abt X G xz_set,abt X G xz_ValueError⟩
 have W5:=Dd (st:=dR) l22 g22 k22
 have b22:=W5.binds (ps:=["self","vertex"]) fun _ _ _ _ _ _=>Hj fun _ _=>rfl
 refine⟨fd,fun s v=>?_,fun base _ _=>?_⟩
 ·obtain⟨oc,od,kV,doc,pm,an,bh,ct,vM,rfl,lk,xD⟩:=W4.ex
  exact .of_eq rfl
 have bO:=uV (P:=l.prog) (w:=w) (base:=base) n1 T
 have fA:=nA (P:=l.prog) (w:=w) (base:=base) n2 T
 have cV:=qZ n3 T fA bO
 have dW:=zg n4 T cV
 have lI:=xj (P:=l.prog) (w:=w) (base:=base) n5 T
 have a5:=uW n6 T lI
 have cg:=uX (P:=l.prog) (w:=w) (base:=base) n7 T
 have dH:=zh (P:=l.prog) (w:=w) (base:=base) n8 T
 have cv:=q4 (P:=l.prog) (w:=w) (base:=base) n9 T
 have j7:=uY (P:=l.prog) (w:=w) (base:=base) ZU T
 have dN:=q5 (P:=l.prog) (w:=w) (base:=base) ZV T
 have dU:=uZ ZW T dN
 have eV:=xk (P:=l.prog) (w:=w) (base:=base) ZX T
 have u9:=Gj (P:=l.prog) (w:=w) (base:=base) ZY T
 have aY:=oK ZZ T a5
 have ig:=q9 (P:=l.prog) (w:=w) (base:=base) Z0 T
 have ji:=rX (P:=l.prog) (w:=w) (base:=base) Z1 T
 have nD:=zi Z2 T ji
 have dS:=u7 Z3 T u9 eV
 have jk:=rY Z4 T cv dS aY cg dU
 have jl:=rZ Z5 T dS cg dU jk
 have j6:Lb l.prog w K mg base 1 lL ["self","vertex"] (z8 pD "vertex"):=⟨_,vd W5 T ,b22⟩
 have dw:=oM Uc T cv
 have j4:=ve Z6 T dH cg dw aY
 have ie:=rf Z7 T dH j4 j6
 have dP:=nB Z8 T a5
 have lJ:=xn Z9 T dW dP
 have eY:=xo n28 T ie jl eV dH lJ nD a5 aY j7 ig
 have r4:=QZ (P:=l.prog) (w:=w) (base:=base) n29 T
 have dI:=Gk (P:=l.prog) (w:=w) (base:=base) n30 T
 have gS:=vf (P:=l.prog) (w:=w) (base:=base) n31 T
 have fQ:=zj n32 T gS
 have vh:=Gm (P:=l.prog) (w:=w) (base:=base) n33 T
 have rh:=Cg (P:=l.prog) (w:=w) (base:=base) n34 T
 have kq:=Gi (P:=l.prog) (w:=w) (base:=base) n35 T
 have rg:=Ci n36 T kq
 have ke:=vg n37 T rg rh
 have vk:=Jd (P:=l.prog) (w:=w) (base:=base) n38 T
 have ij:=rj n39 T dI
 have nE:=zk n40 T dI fQ
 have zr:=Je n41 T dI r4 vh ij nE
 have dA:=ju n42 T dW
 have cw:=rk (P:=l.prog) (w:=w) (base:=base) n43 T
 have cH:=oN (P:=l.prog) (w:=w) (base:=base) n44 T
 have iK:=zm n45 T bO cw cH
 have lK:=xp n46 T dA a5
 have ik:=rm n47 T cw cH
 have il:=rn n48 T iK
 have nF:=zo n49 T bO ik il
 have dB:=jv n50 T cV
 have cQ:=iL n51 T dB nF
 have jn:=r6 n52 T lK cQ
 have gy:=Cj n53 T eY jn
 have j9:=vi (P:=l.prog) (w:=w) (base:=base) n54 T
 have j8:=vj (P:=l.prog) (w:=w) (base:=base) n55 T
 have Gp:=M4 n56 T j8 j9
 have rz:=Ck (P:=l.prog) (w:=w) (base:=base) n57 T
 have ip:=rq n58 T rz Gp
 have rA:=Cm (P:=l.prog) (w:=w) (base:=base) n59 T
 have nG:=zp n60 T rA gy ke
 have ku:=zq n61 T kq
 exact M6 W4 T zr vk nG eY fQ ip gy ku
theorem walk {l:W.OpenLaw}{q:Program}{loose:List Str}{XP:(Str->Option Value)->Heap->Prop}{YP:World->Heap->Prop}{d:DefRec}{K:Params->W.Frag}(hn:l.most=some 63)(JA:d.params.defaults=[])
  (hY:∀ (w:World) (h:Heap),YP w h->(K w.params).In h)
  (F:∀ (w:World) (mg:Str->Option Value) (fa:Addr) (h:Heap),(K w.params).In h->h.Ns mainGlobals mg->mg d.name=some (.ref fa) ->
   ∃ fd:FuncData,(∀ (s:Shared) (u:Value),BindsTo s fd ⟨[u],[]⟩ [("_law_script",u)])/\∀ base:Heap,(K w.params).In base->base.Ns mainGlobals mg->kB l.prog w (K w.params) mg base aU 9 fa fd ["_law_script"] (vU (K w.params))) :
  W.WalkO q loose XP YP l.row.toRowW d [] (fun f vs=>PySem.call f vs):=
 L2.K7 (n:=63) (k:=9) (x:="_law_script") (CX:=fun _=>aU) (sp:=fun w=>vU (K w.params)) hn (by decide) JA ⟨rfl,by decide,by decide⟩ hY F (fun _ _ a ns hl hb hS=>⟨a,ns,rfl,hS,hl,hb,fun _=>rfl⟩) fun _ _ _ _ _ z=>z
end Uu
namespace PySem.W.Fast
def tw16682811444597627713:Unit:=()
def tw12486257153110828932:Unit:=()
def tw12289172728926084178:Unit:=()
def tw7015514450402031657:Unit:=()
def tw13109832317739604195:Unit:=()
def tw5105596949889228257:Unit:=()
def tw14735395017831508439:Unit:=()
def tw10062281572489668150:Unit:=()
def tw11888832435203448454:Unit:=()
def tw3769468193873556159:Unit:=()
def tw18441734740279305624:Unit:=()
def tw6785959304490853034:Unit:=()
def tw14919831207554814098:Unit:=()
def tw2539869322684636418:Unit:=()
def tw14637133317260218245:Unit:=()
def tw4351485571701472174:Unit:=()
def tw2834169378276901736:Unit:=()
def tw10655513953545158492:Unit:=()
def tw8599899155665918079:Unit:=()
def tw17087875132595657605:Unit:=()
def tw2633927645519399299:Unit:=()
def tw13342876322628729797:Unit:=()
def tw7034862416558806621:Unit:=()
def tw17464580931816021975:Unit:=()
def tw18322074357936998193:Unit:=()
def tw8563163586748357532:Unit:=()
def tw3878045165409317332:Unit:=()
def tw18148988429467341134:Unit:=()
def tw10412306186619216024:Unit:=()
def tw12719026129330206628:Unit:=()
def tw8217014329103198532:Unit:=()
def tw16662417523469361217:Unit:=()
def tw17043868249926396874:Unit:=()
def tw17897889738008901480:Unit:=()
def tw10592790119978179879:Unit:=()
def tw12763478637889010572:Unit:=()
def tw7543238095024919670:Unit:=()
def tw1567174470518908032:Unit:=()
def tw2772202859434442363:Unit:=()
def tw2123382734218363187:Unit:=()
def tw9819445150719060850:Unit:=()
def tw14671000565827858449:Unit:=()
def tw18054404950235121980:Unit:=()
def tw1366310872928979946:Unit:=()
def tw18174937101537157785:Unit:=()
def tw13659534207846326735:Unit:=()
def tw11942553306386115369:Unit:=()
def tw2532067478768256922:Unit:=()
def tw16207096140659546580:Unit:=()
def tw1598289136705760389:Unit:=()
def tw8194943846140593754:Unit:=()
def tw1562108291392683262:Unit:=()
def tw5784125263983196264:Unit:=()
def tw12558044969630355196:Unit:=()
def tw2548588259486782236:Unit:=()
def tw18435840975945159196:Unit:=()
def tw10212788310446406690:Unit:=()
def tw3852871180928143322:Unit:=()
def tw13431493926252883271:Unit:=()
def tw10738833812635787390:Unit:=()
def tw16192983795981328391:Unit:=()
def tw7678750530950858553:Unit:=()
def tw569840071747366769:Unit:=()
def tw3331390093747029245:Unit:=()
def tw17549176878493648029:Unit:=()
def tw15309050549888886463:Unit:=()
def tw14584798596481844335:Unit:=()
def tw17634393567592086366:Unit:=()
def tw2283127781578904617:Unit:=()
def tw1696305690543129711:Unit:=()
def tw17812142023846283909:Unit:=()
def tw17824346060284998559:Unit:=()
def tw2893294102062773106:Unit:=()
def tw15018319454914120167:Unit:=()
def tw4782887196064108845:Unit:=()
def tw12922656631929658066:Unit:=()
def tw11171265015272839823:Unit:=()
def tw16646629729333631762:Unit:=()
def tw3783891678016680473:Unit:=()
def tw13252143783882092232:Unit:=()
def tw8935958000714892684:Unit:=()
def tw10843931247147359331:Unit:=()
def tw7252383694096628542:Unit:=()
def tw5443141843456559312:Unit:=()
def tw8504886793706645786:Unit:=()
def tw2496544047176334478:Unit:=()
def tw6616612641459900185:Unit:=()
def tw17238896590680086893:Unit:=()
def tw3465339736475492833:Unit:=()
def tw18158925940013585062:Unit:=()
def tw6670387084230361464:Unit:=()
def tw17817644850438307602:Unit:=()
def tw14014895347607640059:Unit:=()
def tw13729531268753672859:Unit:=()
def tw30143660696645861:Unit:=()
def tw9936925291132315637:Unit:=()
def tw14760948785289895867:Unit:=()
def tw9551572721086951531:Unit:=()
def tw11522151361281094007:Unit:=()
def tw8252010233407159235:Unit:=()
def tw8720209557685926967:Unit:=()
def tw10239305499680995649:Unit:=()
def tw2857449606996558347:Unit:=()
def tw14818710676052415607:Unit:=()
def tw7196540598974692454:Unit:=()
def tw17060398524968598792:Unit:=()
def tw2809846824024281439:Unit:=()
def tw15949233557172016232:Unit:=()
def tw89712303135860703:Unit:=()
def tw17870785074472898996:Unit:=()
def tw6645936678853129052:Unit:=()
def tw596986376849732560:Unit:=()
def tw2083499479269225936:Unit:=()
def tw2779748229246187231:Unit:=()
def tw8415883258478405775:Unit:=()
def tw12788596294204622811:Unit:=()
def tw13191024205409220411:Unit:=()
def tw178475179480384800:Unit:=()
def tw2758066773899168608:Unit:=()
def tw4595074664152514297:Unit:=()
def tw15166612313253515105:Unit:=()
def tw13950632770051531369:Unit:=()
def tw17644130255051197522:Unit:=()
def tw4273009273443634119:Unit:=()
def tw16376209881709887309:Unit:=()
def tw2553913005867854999:Unit:=()
def tw6215608374246318689:Unit:=()
def tw768343316994215872:Unit:=()
def tw10484355594034671867:Unit:=()
def tw2262110106536770326:Unit:=()
def tw13961316714266987742:Unit:=()
def tw16504085444598305844:Unit:=()
def tw7168638036879418393:Unit:=()
def tw9033978645156881905:Unit:=()
def tw9695958785484121015:Unit:=()
def tw5551481876933655782:Unit:=()
def tw9150349984137585325:Unit:=()
def tw11076706477734168105:Unit:=()
def tw15581288636740296180:Unit:=()
def tw10040153107615662345:Unit:=()
def tw4691976500539678598:Unit:=()
def tw7707552622552981152:Unit:=()
def tw13377067557594899376:Unit:=()
def tw190065947717552198:Unit:=()
def tw14954823748482269489:Unit:=()
def tw10511823987625521277:Unit:=()
def tw9372354073910087011:Unit:=()
def tw2315603335919087994:Unit:=()
def tw14703423424481924124:Unit:=()
def tw13426868140907146856:Unit:=()
def tw10441409538713241286:Unit:=()
end PySem.W.Fast
open PySem PySem.W PyProof.Rows
theorem fK {K:Frag}{mg:Str->Option Value}{x:Str}{st:Stmt}{h:Heap}{f:Addr}{oc:Value}{od an:Option Addr}{vM:Array (Option Value)}{kV doc pm bh ct:Value}(X:K.In h)(G:h.Ns mainGlobals mg)(a:nsIn K mainGlobals x=some (some (.ref f)):=by k_is)
  (l:K.lookup f=some ⟨oc,od,.func (fnOf x x (L2.gL st) (L2.cX st) (L2.aw st) .none kV doc pm an bh ct),vM⟩:=by k_is) (c:codeIn K bh x=true:=by k_is) (k:keepIn K (.ref f)=true:=by k_is):L2.Fn K mg x st:=L2.XS X G a l c k
set_option maxRecDepth 100000 in
set_option maxHeartbeats 0 in
theorem PySem.Challenge.cw_conicplaces_k41_places_of_curves_holds : PySem.Challenge.rw_conicplaces_k41_places_of_curves.Holds := by
 w_on; o_law; k_head; (case hw => w_witness2)
 k_fill
 refine Uu.walk (l := PySem.Challenge.rw_conicplaces_k41_places_of_curves) rfl rfl (fun w h Y => by first | exact W.kIn_of Y | exact W.km_in_of Y) ?F
 case F =>
  intro w mg fa h KX G S8
  refine' Uu.all_mk KX G S8 (fK KX G) (fK KX G) (fK KX G) (fK KX G) (fK KX G) (fK KX G) (fK KX G) (fK KX G) (fK KX G) (fK KX G) (fK KX G) (fK KX G) (fK KX G) (fK KX G) (fK KX G) (fK KX G) (fK KX G) (fK KX G) (fK KX G) (fK KX G) (fK KX G) (fK KX G) (fK KX G) (fK KX G) (fK KX G) (fK KX G) (fK KX G) (fK KX G) (fK KX G) (fK KX G) (fK KX G) (fK KX G) (fK KX G) (fK KX G) (fK KX G) (fK KX G) (fK KX G) (fK KX G) (fK KX G) (fK KX G) (fK KX G) (fK KX G) (fK KX G) (fK KX G) (fK KX G) (fK KX G) (fK KX G) (fK KX G) (fK KX G) (fK KX G) (fK KX G) (fK KX G) (fK KX G) (fK KX G) (fK KX G) (fK KX G) (fK KX G) (fK KX G) (fK KX G) (fK KX G) (fK KX G) ?o22 ?a22 ?l22 ?g22 ?k22 ?xm_CurveError ?xm_NoNumber ?xm_NoSign ?xm_NotPlain ?xm_NoVertex ?xm_Flat ?xi_ce ?xi_0 ?xi_3 ?xi_4 ?xi_7 ?xi_8 ?xi_ve ?xe0 ?xe1 ?xe2 ?xe3 ?xe4 ?xe5 ?xe6 ?xe7 ?xx_Flat ?xxf_Flat ?xxn_Flat ?xxd_Flat ?xxs_Flat ?xxo_Flat ?xy1 ?xy2 ?xy3 ?xx_CurveError ?xu_Flat ?xm_AXES ?xk_AXES ?xk_AXES_0 ?xk_AXES_1 ?xk_AXES_2 ?xm_TURNS ?xk_TURNS ?xk_TURNS_0 ?xk_TURNS_1 ?xk_TURNS_2 ?xi_ib ?xz_isinstance ?xz_int ?xz_bool ?xz_len ?xz_range ?xz_tuple ?xz_all ?xz_abs ?xz_any ?xz_sum ?xz_zip ?xz_max ?xz_min ?xz_list ?xz_sorted ?xz_set ?xz_ValueError
  (case xm_CurveError => k_is)
  (case xm_NoNumber => k_is)
  (case xm_NoSign => k_is)
  (case xm_NotPlain => k_is)
  (case xm_NoVertex => k_is)
  (case xm_Flat => k_is)
  (case xm_AXES => k_is)
  (case xm_TURNS => k_is)
  (case o22 => k_is)
  (case a22 => k_is)
  (case l22 => k_is)
  (case g22 => k_is)
  (case k22 => k_is)
  (case xi_ce => kernel_rfl)
  (case xi_0 => kernel_rfl)
  (case xi_3 => kernel_rfl)
  (case xi_4 => kernel_rfl)
  (case xi_7 => kernel_rfl)
  (case xi_8 => kernel_rfl)
  (case xi_ve => kernel_rfl)
  (case xe0 => kernel_rfl)
  (case xe1 => kernel_rfl)
  (case xe2 => kernel_rfl)
  (case xe3 => kernel_rfl)
  (case xe4 => kernel_rfl)
  (case xe5 => kernel_rfl)
  (case xe6 => kernel_rfl)
  (case xe7 => kernel_rfl)
  (case xx_Flat => kernel_rfl)
  (case xxf_Flat => kernel_rfl)
  (case xxn_Flat => kernel_rfl)
  (case xxd_Flat => kernel_rfl)
  (case xxs_Flat => kernel_rfl)
  (case xxo_Flat => kernel_rfl)
  (case xy1 => kernel_rfl)
  (case xy2 => kernel_rfl)
  (case xy3 => kernel_rfl)
  (case xx_CurveError => kernel_rfl)
  (case xu_Flat => kernel_rfl)
  (case xk_AXES => k_is)
  (case xk_AXES_0 => k_is)
  (case xk_AXES_1 => k_is)
  (case xk_AXES_2 => k_is)
  (case xk_TURNS => k_is)
  (case xk_TURNS_0 => k_is)
  (case xk_TURNS_1 => k_is)
  (case xk_TURNS_2 => k_is)
  (case xi_ib => kernel_rfl)
  (case xz_isinstance => k_is)
  (case xz_int => k_is)
  (case xz_bool => k_is)
  (case xz_len => k_is)
  (case xz_range => k_is)
  (case xz_tuple => k_is)
  (case xz_all => k_is)
  (case xz_abs => k_is)
  (case xz_any => k_is)
  (case xz_sum => k_is)
  (case xz_zip => k_is)
  (case xz_max => k_is)
  (case xz_min => k_is)
  (case xz_list => k_is)
  (case xz_sorted => k_is)
  (case xz_set => k_is)
  (case xz_ValueError => k_is)
