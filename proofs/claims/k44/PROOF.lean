import PyProof.Rows.All
import KE.KLam
import KE.KNestM
import KE.KSortKey
import PyProof.Rows.CallKwBuiltin
import Wide.All
import OpenK.AllK
import Wide.FinOn
import Lean
import PyProof.EqAt
import PyProof.EqKinds
import PyProof.TupleCall
import PyProof.CompFree
import PyProof.ConsumeWalk
import PyProof.CompMap
import KE.IntBitsLaws
import KE.KDictSum
import PyProof.Rows.EqDataRows
import PyProof.Rows.SortWalk
import KE.KLcPair
import PyProof.Cells
import PyProof.SumAny
import PyProof.ZipIter
import PyProof.EnumIter
import PyProof.Rows.ZipGen
import PyProof.Rows.FactsT2
import PyProof.WalkInts
import PyProof.SeqI3
import KE.KEqSeq
import PyProof.Rows.Range3
import PyProof.Rows.ChunkLeaf
import PyProof.InstStoreFacts
import PyProof.ExcClass3
import PyProof.ExcInit
import PyProof.Rows.InDataRows
import PySem.Challenge.RW_conicplaces_k44_small_points
set_option Elab.async false
set_option linter.all false
set_option maxRecDepth 100000
set_option maxHeartbeats 4000000
local macro_rules
 | `(tactic|omega)=>`(tactic|lia)
def ZD:=@PySem.wpAny_bind
def ZE:=@PySem.Heap.get?_push_of_some
def ZF:=@PySem.wpAny_pure
def ZG:=@Option.some.inj
def ZH:=@PySem.Heap.lt_size
def ZI:=@List.mem_cons
def ZJ:=@Bool.false_ne_true
def ZK:=@List.getElem?_eq_getElem
def ZL:=@Nat.le_refl
def ZM:=@Nat.lt_of_lt_of_le
def ZN:=@PySem.Heap.get?_push_size
def ZO:=@Int.mul_nonneg
def ZP:=@Nat.ne_of_lt
def ZQ:=@List.size_toArray
def ZR:=@List.length_map
def ZS:=@Int.mul_le_mul_of_nonneg_left
def ZU:=@List.getElem?_map
def ZV:=@Nat.le_trans
def ZW:=@List.mem_append_right
def ZX:=@Int.mul_comm
def ZY:=@Int.emod_eq_emod_iff_emod_sub_eq_zero
def ZZ:=@Int.pow_succ
def Z1:=@Int.le_of_lt
def Z2:=@PySem.wpAny_mono
def Z3:=@Int.mul_assoc
def Z4:=@if_neg
def Z6:=@Int.emod_nonneg
def Z7:=@Int.natAbs_mul
def Z8:=@Array.getElem?_eq_getElem
def Z9:=@Int.emod_lt_of_pos
def aaa:=@Int.dvd_of_emod_eq_zero
def aab:=@Int.dvd_mul_left
def aac:=@Array.length_toList
def aad:=@List.getD_eq_getElem?_getD
def aae:=@List.getElem?_eq_some_iff
def aaf:=@Int.dvd_trans
def aag:=@if_pos
def aah:=@PySem.PassesOwn.never
def aai:=@congrArg
def aaj:=@PySem.wpAny_holding
def aak:=@Int.mul_le_mul_of_nonneg_right
def aal:=@PySem.Heap.size_push
def aam:=@PySem.Heap.SameBut.update
def aan:=@PySem.Obj.data_mapFields
def aao:=@decide_eq_false
def aap:=@Int.natAbs_dvd_natAbs
def aaq:=@PySem.Heap.get?_update_self
def aar:=@List.mem_singleton
def aas:=@List.not_mem_nil
def aat:=@Int.mul_pos
def aau:=@List.mem_of_getElem?
def aav:=@List.mem_cons_of_mem
def aaw:=@List.map_append
def aax:=@Int.emod_eq_zero_of_dvd
def aay:=@decide_eq_true
def aaz:=@List.length_cons
def aaA:=@PySem.wpAny_callSpecial?_slot
def aaB:=@Int.pow_zero
def aaC:=@PySem.Heap.get?_update_other
def aaD:=@Nat.coprime_iff_gcd_eq_one
def aaE:=@Int.toNat_natCast
def aaF:=@Int.mul_zero
def aaG:=@PySem.wpAny_field
def aaH:=@Nat.zero_le
def aaI:=@Int.one_mul
def aaJ:=@Int.mul_le_mul
def aaK:=@Classical.byContradiction
def aaL:=@Nat.lt_succ_of_lt
def aaM:=@Int.mul_one
def aaN:=@List.length_append
def aaO:=@Bool.false_eq_true
def aaP:=@PySem.wpAny_call_entry
def aaQ:=@PySem.mem_of_lookup
def aaR:=@Int.eq_of_mul_eq_mul_left
def aaS:=@Int.neg_mul
def aaT:=@Nat.lt_irrefl
def aaU:=@List.getElem_of_mem
def aaV:=@Int.le_refl
def aaW:=@Bool.and_eq_true
def aaX:=@Int.dvd_mul_right
def aaY:=@List.pairwise_cons
def aaZ:=@List.mem_cons_self
def aa0:=@PySem.wpAny_newObj_type
def aa1:=@PySem.wpAny_loadPart_at
def aa2:=@PySem.W.mg_none_of
def aa3:=@Nat.le_succ
def aa4:=@beq_iff_eq
def aa5:=@PySem.Obj.isFreed_of_fields
def aa6:=@List.append_nil
def aa7:=@Int.natCast_mul
def aa8:=@Int.dvd_neg
def aa9:=@PySem.wpAny_setField
def aba:=@PySem.wpAny_standAt
def abb:=@PySem.wpAny_attempt
def abc:=@Int.emod_eq_of_lt
def abd:=@Nat.mul_le_mul
def abe:=@PySem.F.slot_tuple_iterator_next
def abf:=@Nat.pow_succ
def abg:=@Int.mul_eq_zero
def abh:=@Nat.lt_of_le_of_lt
def abi:=@PySem.wpAny_seqItems
def abj:=@List.take_length
def abk:=@List.length_take
def abl:=@List.getElem_mem
def abm:=@List.mem_map
def abn:=@List.mem_range'_1
def abo:=@List.mem_append
def abp:=@Int.neg_mul_neg
def abq:=@PySem.wpAny_pyIter_list
def abr:=@Int.fdiv_eq_ediv_of_nonneg
def abt:=@Int.add_mul_emod_self_left
def abu:=@Array.getElem?_eq_some_iff
def abv:=@List.any_eq_true
def abw:=@Nat.le_of_dvd
def abx:=@Int.mul_emod
def aby:=@Option.isSome_iff_exists
def abz:=@List.nodup_cons
def abA:=@List.mem_filter
def abB:=@Int.mul_fdiv_cancel_left
def abC:=@List.Nodup.length_le_of_subset
def abD:=@Int.le_trans
def abE:=@or_false
def abF:=@PySem.F.plainAttrs_list
def abG:=@PySem.lookup_relabel_local
def abH:=@PySem.codeAny_call_builtin
def abI:=@PySem.Around.under_plainId
def abJ:=@PySem.wpAny_setState_of
def abK:=@PySem.wpAny_rule
def abL:=@PySem.wpAny_call
def abM:=@PySem.codeAny_builtin
def abN:=@List.mem_range
def abO:=@PySem.codeAny_mono
def abP:=@List.filter_append
def abQ:=@PySem.wpAny_isSubtype_exc
def abR:=@PySem.sizeLine_eq
def abS:=@PySem.wpAny_askSetting
def abT:=@List.length_filter_le
def abU:=@Int.mul_ne_zero
def abV:=@Bool.eq_iff_iff
def abW:=@Array.getD_eq_getD_getElem?
def abX:=@if_false
def abY:=@List.take_add_one
def abZ:=@List.pairwise_map
def ab0:=@List.map_cons
def ab1:=@Int.lt_trichotomy
def ab2:=@PySem.wpAny_Call_Name_kw
def ab3:=@Int.emod_emod_of_dvd
def ab4:=@PyProof.Rows.wpS_bind
def ab5:=@PySem.wpAny_passesOwn
def ab6:=@PySem.W.kia_one
def ab7:=@List.take_succ
def ab8:=@List.filter_cons
def ab9:=@List.all_eq_true
def aca:=@PySem.wpAny_truthy_bool
def acb:=@PySem.Obj.cls_mapFields
def acd:=@List.replicate_succ
def ace:=@Nat.ne_of_gt
def acf:=@Nat.mod_lt
def acg:=@Nat.le_of_lt
def ach:=@Int.dvd_refl
def aci:=@PySem.Heap.get?_none_of_le
def acj:=@decide_eq_true_iff
def ack:=@Int.lt_or_gt_of_ne
def acm:=@PySem.wpAny_isInstance
def acn:=@PySem.wpAny_setEntries_of
def aco:=@List.take_of_length_le
def acp:=@Int.fmod_nonneg_of_pos
def acq:=@of_decide_eq_true
def acr:=@List.length_range
def acs:=@Int.dvd_add
def acu:=@Bool.not_eq_true'
def acv:=@PySem.W.looks_findIn
def acw:=@PySem.wpAny_setField_rec
def acx:=@PySem.wpAny_execs_nil
def acy:=@PySem.intBits_le_64
def acz:=@Nat.gcd_comm
def acA:=@Int.emod_add_mul_ediv
def acB:=@Nat.lt_succ_self
def acC:=@Nat.mul_le_mul_right
def acD:=@PySem.IntMulOk.of_right
def acE:=@PySem.Heap.get?_push_at
def acF:=@PySem.codeAny_handlers_test
def acG:=@PyProof.Rows.callWith_type1
def acH:=@List.filterMap_cons
def acI:=@Bool.or_eq_true
def acJ:=@PySem.F.excBase_ValueError
def acK:=@List.getElem?_append_right
def acL:=@Int.fmod_eq_emod_of_nonneg
def acM:=@Nat.mul_comm
def acN:=@Nat.eq_zero_or_pos
def acO:=@List.zip_cons_cons
def acP:=@List.mem_filterMap
def acQ:=@Int.lt_or_le
def acR:=@if_true
def acS:=@PySem.F.args_tuple_iterator_next_1
def acT:=@Int.mul_neg_of_pos_of_neg
def acU:=@Int.le_of_mul_le_mul_left
def acV:=@PySem.wpAny_handleBy_cons
def acW:=@PySem.Heap.get?_update_ne
def acX:=@PySem.F.type_list_append
def acY:=@PySem.F.slot_list_append
def acZ:=@PySem.F.entry_tuple_iterator_next
def ac0:=@PyProof.Rows.wpS_pure
def ac1:=@List.zip_nil_left
def ac2:=@List.flatten_cons
def ac3:=@Bool.eq_false_iff
def ac4:=@Option.bind_eq_some_iff
def ac5:=@Nat.mul_mod
def ac6:=@Nat.mul_assoc
def ac7:=@Nat.mul_add
def ac8:=@Nat.le_mul_of_pos_right
def ac9:=@Int.pow_add
def ada:=@Int.neg_neg
def adb:=@Bool.not_true
def ade:=@beq_self_eq_true
def adf:=@PySem.wpAny_pyIter_tuple
def adg:=@PySem.Code.quiet_builtin
def adh:=@List.getElem_map
def adi:=@List.ext_getElem
def adj:=@PySem.isSubtype_stop
def adk:=@PySem.codeAny_handlers_suite_as
def adl:=@Nat.dvd_of_mod_eq_zero
def adm:=@List.getElem?_set_self
def adn:=@List.of_mem_zip
def ado:=@Int.sub_zero
def adp:=@PySem.wpAny_of_eq
def adq:=@PySem.plainId_quiet
def ads:=@PySem.W.hideAll_get
def adt:=@List.mem_of_mem_take
def adu:=@List.getElem?_set_ne
def adv:=@PySem.wpAny_execs_cons
def adw:=@PySem.wpAny_pyNext_list_item
def adx:=@Nat.one_mul
def ady:=@Int.toNat_of_nonneg
def adz:=@Int.neg_dvd
def adA:=@PySem.W.mg_of
def adB:=@PySem.F.slot_zip_next
def adC:=@List.contains_cons
def adD:=@Int.le_of_dvd
def adE:=@PySem.wpAny_newFunctionEnv
def adF:=@PySem.Calls.evalArgs_plain
def adG:=@PySem.Around.frames_deeper
def adH:=@PySem.wpAny_loadPart
def adI:=@PySem.wpAny_fieldsOf
def adJ:=@PyProof.Rows.F.plain_set_update_loop
def adK:=@Nat.lt_or_ge
def adL:=@Nat.add_comm
def adM:=@List.cons_append
def adN:=@Array.toList_map
def adO:=@PySem.eval_ListComp
def adP:=@Nat.pow_pos
def adQ:=@Nat.mod_mod
def adR:=@List.range_succ
def adS:=@Int.pow_mul
def adT:=@Int.natCast_pow
def adU:=@Int.mul_dvd_mul
def adV:=@PyProof.Rows.get?_update_seq
def adW:=@PySem.wpAny_Call_ofName
def adX:=@PySem.fits_of_scanBound
def adY:=@PySem.Heap.get?_push_ne
def adZ:=@PySem.Heap.SameBut.refl
def ad0:=@List.prod_cons
def ad1:=@List.nodup_nil
def ad2:=@Int.natAbs_neg
def ad3:=@Bool.and_false
def ad4:=@PySem.W.isNs_of_in
def ad5:=@PySem.W.cellsFrom_some
def ad6:=@Int.emod_emod
def ad7:=@getElem?_pos
def ad8:=@PySem.wpAny_specialOf
def ad9:=@PySem.wpAny_ite_split
def aea:=@PySem.codeAny_of_tree
def aeb:=@Nat.zero_add
def aec:=@Nat.lt_trans
def aed:=@Nat.le_of_eq
def aee:=@Int.fmod_def
def aef:=@Int.dvd_zero
def aeg:=@Bool.or_true
def aeh:=@PyProof.Rows.listUpdate_at
def aei:=@PyProof.Rows.assignInOrder_cons
namespace L2
open PySem PySem.Spec PyProof.Rows
def Still (A:Around)(h:Heap):Prop:=A.handled=none\/∃ (e:Addr) (o:Obj) (vs:Array Value),A.handled=some (.ref e)/\h.get? e=some o/\o.data=.fields vs/\vs[2]?=some .none
theorem Still.mono {A:Around}{h h':Heap}(S:Still A h)(k:∀ e o,A.handled=some (.ref e)->h.get? e=some o->h'.get? e=some o):Still A h':=by
 rcases S with z|⟨e,o,vs,hh,he,r⟩
 ·exact .inl z
 ·exact .inr ⟨e,o,vs,hh,k e o hh he,r⟩
theorem Still.in1 {A:Around}{h:Heap}(S:Still A h):Still A.in1 h:=S
theorem rL:plainId "proto.unchain"=true:=by decide +kernel
theorem rM:entryFor table "proto.unchain"=some Builtin.«proto.unchain»:=entryFor_of_tree (by kernel_rfl)
section
variable {P:Program}{w:World}{A:Around}{E:Value->Shared->Prop}{s:Shared}
theorem pQ {α:Type}{x:Addr}{ox:Obj}{vx:Array Value}{Q:α->Shared->Prop}(S:Still A s.heap)(hx:s.heap.get? x=some ox)(hd:ox.data=.fields vx)(sz:2<vx.size)(nx:A.handled≠some (.ref x))
  (q:∀ h' o',Heap.SameBut x s.heap h'->h'.get? x=some o'->o'.cls=ox.cls->E (.ref x) { s with heap:=h' }):wpAny (model P w) A (raiseNew (.ref x):Sem α) Q E s:=by
 simp only[raiseNew]
 refine ZD (wpAny_handled ?_)
 rcases S with hn|⟨e,o,vs,hh,he,Vv,h2⟩
 ·rw[hn]
  exact ZD (ZF (wpAny_throw (q s.heap ox (adZ _ _) hx rfl)))
 ·rw[hh] at nx ⊢
  have ne:e≠x:=fun z=>nx (by rw[z])
  have nb:(Value.ref e != Value.ref x)=true:=by
   simp[ne]
  simp only[nb,acR]
  refine ZD (aaj (wpAny_runValue (abM rM ?_)))
  rw[abI rL _]
  show wpAny _ _ (field (.ref e) 2 >>= _) _ _ s
  refine ZD (aaG he Vv (x:=.none) h2 ?_)
  simp only[ade,acR]
  refine ZF ?_
  show wpAny _ _ (updateField x 2 (.ref e) >>= _) _ _ s
  refine ZD ?_
  unfold updateField
  refine ZD (wpAny_load hx ?_)
  rw[hd]
  simp only[sz,acR]
  refine wpAny_update hx (wpAny_throw (q _ _ (aam ..) (aaq _ hx (aa5 (aan hd _))) (acb ..)))
theorem Still.Cg {A:Around}{h:Heap}(S:Still A h){x:Addr}(hx:h.objs.size<=x):A.handled≠some (.ref x):=by
 rcases S with z|⟨e,o,vs,hh,he,_⟩
 ·rw[z]
  intro c
  cases c
 ·rw[hh]
  intro c
  cases c
  exact Nat.not_lt.mpr hx (ZH he)
theorem jd {α:Type}{Q:α->Shared->Prop}(S:Still A s.heap)(q:∀ h' e,(∀ b o,s.heap.get? b=some o->h'.get? b=some o)->(∃ o,h'.get? e=some o/\o.cls=.type "StopIteration")->E (.ref e) { s with heap:=h' }) :
  wpAny (model P w) A (newExc (.type "StopIteration") ([]:List Value) >>= fun e=>(raiseNew e:Sem α)) Q E s:=by
 refine ZD ?_
 simp only[newExc,newTuple]
 refine ZD (aa0 ?_ (by size_fits));refine ZD (m:=firstArgMember _ _) (adp (a:=Value.none) (by first|rfl|(simp only[firstArgMember];rfl)) ?_)
 refine aa0 ?_ (by size_fits)
 have up:∀ (a b:Obj) c o,s.heap.get? c=some o->((s.heap.push a).push b).get? c=some o:=fun a b c o e=>ZE _ (ZE _ e)
 refine pQ (S.mono fun e o _ h=>up _ _ e o h) (ZN _ rfl) rfl (by simp<;>omega) (S.Cg (by simp only[aal];exact aa3 _)) fun h' o' sb ho hc=>?_
 refine q h' _ (fun b o e=>?_) ⟨o',ho,hc⟩
 have lt:=ZH e
 rw[sb.2 b (fun z=>by rw[z] at lt;simp only[aal] at lt;exact Nat.not_lt.mpr (aa3 _) lt)]
 exact up _ _ b o e
theorem jF {it l:Addr}{i:Nat}{items:Array Value}{Q:Option Value->Shared->Prop}(S:Still A s.heap)(ni:A.handled≠some (.ref it))(hit:s.heap.IsListIter it l i)(hl:s.heap.IsList l items)(hx:items[i]?=none)
  (q:∀ h',Heap.ExtBut it s.heap h'->Q none { s with heap:=h' }):wpAny (model P w) A (pyNext (.ref it)) Q E s:=by
 obtain⟨o,ho,hc,hd⟩:=id hit
 obtain⟨ol,Lx,_,nl,Ly⟩:=hl
 unfold pyNext
 refine ZD (abb (aaA (name:=Str.ofString "__next__") hit.typeIs slot_listiter_next (aaP slot_listiter_next hit.typeIs entry_listiter_next ?_ (args_listiter_next _))))
 show wpAny _ _ (field (.ref it) 0 >>= _) _ _ s
 refine ZD (aaG ho hd (x:=.ref l) rfl ?_)
 show wpAny _ _ (if (Value.ref l==Value.none)=true then _ else _) _ _ s
 rw[Z4 (show ¬ ((Value.ref l==Value.none)=true) from ZJ)]
 show wpAny _ _ (field (.ref it) 1 >>= _) _ _ s
 refine ZD (aaG ho hd (x:=.int i 0) rfl (ZD (abi Lx Ly ?_)))
 simp only[aaE,hx]
 refine ZD (abK (ZD (aa9 ho hd (by simp) ?_)))
 refine jd (A:=A.in1) (S.in1.mono fun e o' hh h=>?_) fun h' e k he=>?_
 ·exact (aam ..).extBut _ _ (fun z=>ni (by rw[<- z];exact hh)) h
 ·obtain⟨oe,e1,e2⟩:=he
  refine ZD (acm (T:="StopIteration") (b:=true) ⟨oe,e1,e2⟩ adj ?_)
  exact ZF (q _ fun b o' nb h=>k _ _ ((aam ..).extBut _ _ nb h))
theorem jv {it l:Addr}{i:Nat}{items:Array Value}{Q:Option Value->Shared->Prop}(S:Still A s.heap)(ni:A.handled≠some (.ref it))(hit:s.heap.IsTupleIter it l i)(hl:s.heap.IsTuple l items)(hx:items[i]?=none)
  (q:∀ h',Heap.ExtBut it s.heap h'->Q none { s with heap:=h' }):wpAny (model P w) A (pyNext (.ref it)) Q E s:=by
 obtain⟨o,ho,hc,hd⟩:=id hit
 obtain⟨ol,Lx,_,nl,Ly⟩:=hl
 unfold pyNext
 refine ZD (abb (aaA (name:=Str.ofString "__next__") hit.typeIs abe (aaP abe hit.typeIs acZ ?_ (acS _))))
 show wpAny _ _ (field (.ref it) 0 >>= _) _ _ s
 refine ZD (aaG ho hd (x:=.ref l) rfl ?_)
 show wpAny _ _ (if (Value.ref l==Value.none)=true then _ else _) _ _ s
 rw[Z4 (show ¬ ((Value.ref l==Value.none)=true) from ZJ)]
 show wpAny _ _ (field (.ref it) 1 >>= _) _ _ s
 refine ZD (aaG ho hd (x:=.int i 0) rfl (ZD (abi Lx Ly ?_)))
 simp only[aaE,hx]
 refine ZD (abK (ZD (aa9 ho hd (by simp) ?_)))
 refine jd (A:=A.in1) (S.in1.mono fun e o' hh h=>?_) fun h' e k he=>?_
 ·exact (aam ..).extBut _ _ (fun z=>ni (by rw[<- z];exact hh)) h
 ·obtain⟨oe,e1,e2⟩:=he
  refine ZD (acm (T:="StopIteration") (b:=true) ⟨oe,e1,e2⟩ adj ?_)
  exact ZF (q _ fun b o' nb h=>k _ _ ((aam ..).extBut _ _ nb h))
theorem oV {it:Addr}{x left step:Int}{Q:Option Value->Shared->Prop}(S:Still A s.heap)(hit:IsRangeIter s.heap it x left step)(Mc:left<=0)
  (q:∀ h',Heap.ExtBut it s.heap h'->Q none { s with heap:=h' }):wpAny (model P w) A (pyNext (.ref it)) Q E s:=by
 have hT:s.TypeIs (.ref it) "range_iterator":=⟨_,hit,rfl⟩
 unfold pyNext
 refine ZD (abb (aaA (name:=Str.ofString "__next__") hT F.slot_range_iterator_next (aaP F.slot_range_iterator_next hT F.entry_range_iterator_next ?_ (F.args_range_iterator_next_1 _))))
 show wpAny _ _ (field (.ref it) 0 >>= _) _ _ s
 refine ZD (aaG hit rfl (x:=rawInt x) rfl ?_)
 show wpAny _ _ (field (.ref it) 1 >>= _) _ _ s
 refine ZD (aaG hit rfl (x:=rawInt left) rfl ?_)
 show wpAny _ _ (field (.ref it) 2 >>= _) _ _ s
 refine ZD (aaG hit rfl (x:=rawInt step) rfl ?_)
 show wpAny _ _ (if left<=0 then _ else _) _ _ s
 rw[aag Mc]
 refine ZD (abK ?_)
 refine ZD ?_
 refine jd (A:=A.in1) S.in1 fun h' e k he=>?_
 obtain⟨oe,e1,e2⟩:=he
 refine ZD (acm (T:="StopIteration") (b:=true) ⟨oe,e1,e2⟩ adj ?_)
 exact ZF (q _ fun b o' _ h=>k _ _ h)
theorem oW {j a:Addr}{i:Nat}{us:Array Value}{Q:Value->Shared->Prop}(S:Still A s.heap)(nj:A.handled≠some (.ref j))(g0:s.heap.IsTupleIter j a i)(g1:s.heap.IsTuple a us)(ex:us[i]?=none)
  (q:∀ h' e,Heap.ExtBut j s.heap h'->(∃ o,h'.get? e=some o/\o.cls=.type "StopIteration")->E (.ref e) { s with heap:=h' }):wpAny (model P w) A (Builtin.SmallTypes.nextOf (.ref j)) Q E s:=by
 obtain⟨o1,k1,k2,k3⟩:=id g0
 obtain⟨o2,k4,_,n2,k5⟩:=g1
 unfold Builtin.SmallTypes.nextOf
 refine ZD (aaA (name:=Str.ofString "__next__") g0.typeIs abe (aaP abe g0.typeIs acZ ?_ (acS _)))
 show wpAny _ _ (field (.ref j) 0 >>= _) _ _ s
 refine ZD (aaG k1 k3 (x:=.ref a) rfl ?_)
 show wpAny _ _ (if (Value.ref a==Value.none)=true then _ else _) _ _ s
 rw[Z4 (show ¬ ((Value.ref a==Value.none)=true) from ZJ)]
 show wpAny _ _ (field (.ref j) 1 >>= _) _ _ s
 refine ZD (aaG k1 k3 (x:=.int i 0) rfl (ZD (abi k4 k5 ?_)))
 simp only[aaE,ex]
 refine ZD (abK (ZD (aa9 k1 k3 (by simp) ?_)))
 refine jd (A:=A.in1) (S.in1.mono fun e o' hh h=>?_) fun h' e k he=>?_
 ·exact (aam ..).extBut _ _ (fun z=>nj (by rw[<- z];exact hh)) h
 ·exact q h' e (fun b o' nb h=>k _ _ ((aam ..).extBut _ _ nb h)) he
theorem ip {t:Addr}{items:Array Value}{Q:List Value->Shared->Prop}(S:Still A s.heap)(ht:IsTup s.heap t items)
  (q:∀ h',Heap.ExtBut s.heap.objs.size s.heap h'->Q items.toList { s with heap:=h' }):wpAny (model P w) A (unpackItems (.ref t) items.size none) Q E s:=by
 have fZ:t≠s.heap.objs.size:=by obtain⟨o,ho,_⟩:=ht;exact ZP (ZH ho)
 unfold unpackItems
 refine ZD ?_
 unfold notIterableAtAll
 refine ZD (ad8 ht.typeIs slot_tuple_iter.lookup (ZF ?_))
 simp only[aaO,abX]
 refine ZD (aaj (iter_tuple ht ?_))
 refine ZD (aaj (draw_tuple fZ items.size 0 _ _ ⟨_,ZN _ rfl,rfl,rfl⟩ (ht.push _) (by omega) fun h₁ IY Ci=>?_))
 rw[show List.take items.size (List.drop 0 items.toList)=items.toList from by rw[List.drop_zero];exact aco (by simp),Z4 (by simp)]
 have Md:IsTup h₁ t items:=(ht.push _).extBut Ci.extBut fZ
 have nn:=S.Cg (ZL _)
 have S1:Still A h₁:=S.mono fun e o hh he=>Ci.extBut _ _ (fun z=>nn (by rw[<- z];exact hh)) (ZE _ he)
 refine ZD (aaj (jv S1 nn IY (show h₁.IsTuple t items from Md) (by simp) fun h₂ Me=>?_))
 simp only[Option.isSome_none,aaO,abX]
 exact ZF (q h₂ fun b o hb e=>Me b o hb (Ci.extBut b o hb (ZE _ e)))
theorem kQ {env:Env}{elts:List Expr}{x1}{pos:Pos}{t:Addr}{items:Array Value}{Q:Unit->Shared->Prop}(S:Still A s.heap)(ht:IsTup s.heap t items)
  (hn:(assignEach elts env).length=items.size) (Mf:(assignEach elts env).findIdx? (·.1)=none)
  (h:∀ h',Heap.ExtBut s.heap.objs.size s.heap h'->wpAny (model P w) A (assignInOrder ((assignEach elts env).map (·.2)) items.toList) Q E { s with heap:=h' }) :
  wpAny (model P w) A (assign (.Tuple elts x1 pos) env (.ref t)) Q E s:=by
 rw[assign_Tuple]
 refine ZD (aba ?_)
 unfold unpack
 rw[hn,Mf]
 exact ZD (aaj (ip S ht h))
end
theorem mH {P:Program}{w:World}{A:Around}{e:Addr}{o:Obj}{vs:Array Value}(hh:A.handled=some (.ref e))(hd:o.data=.fields vs)(h2:vs[2]?=some .none)(I ax:Addr)(lQ:ax≠I)(nI:e≠I)(items:Array Value) :
  Walks P w A I [I,ax,e] [I] items.size (fun i v=>items[i]?=some v) (fun i h=>h.IsListIter I ax i/\h.IsList ax items/\h.get? e=some o) where
 sub:=fun b hb=>by simp at hb;simp[hb]
 frame:=fun _ _ _ st hk=>⟨st.1.at fun o e=>hk I (by simp) o e,st.2.1.at fun o e=>hk ax (by simp) o e,hk e (by simp) _ st.2.2⟩
 item:=fun i s Q E hi st q=>by
  refine adw st.1 st.2.1 (x:=items[i]) (by simp[hi]) fun h' Qm mI=>?_
  exact q _ h' s.toks (by simp[hi]) ⟨Qm,st.2.1.extBut mI.extBut lQ,mI.extBut _ _ nI st.2.2⟩ fun b o hb e=>mI.extBut b o (fun h=>hb (by simp[h])) e
 done:=fun s Q E st q=>jF (.inr ⟨e,o,vs,hh,st.2.2,hd,h2⟩) (by rw[hh];intro c;cases c;exact nI rfl) st.1 st.2.1 (by simp) fun h' IZ=>q h' s.toks fun b o hb e=>IZ b o (fun h=>hb (by simp[h])) e
 self:=fun _ _ _ _ st q=>wpAny_pyIter_listiter st.1 q
theorem jG {P:Program}{w:World}{A:Around}{h0:Heap}(S:Still A h0)(I ax:Addr)(lQ:ax≠I)(nI:A.handled≠some (.ref I))(items:Array Value) :
  ∃ (fp:List Addr) (st:Nat->Heap->Prop),Walks P w A I fp [I] items.size (fun i v=>items[i]?=some v) st/\(∀ h,h.IsListIter I ax 0->h.IsList ax items->(∀ b o,h0.get? b=some o->h.get? b=some o)->st 0 h) /\
   ∀ b∈fp,b=I\/b=ax\/∃ o,h0.get? b=some o:=by
 rcases S with z|⟨e,o,vs,hh,he,hd,h2⟩
 ·exact⟨_,_,Walks.list z I ax lQ items,fun h a b _=>⟨a,b⟩,fun b hb=>by
   have:b=I\/b=ax:=by simpa using hb
   rcases this with r|r
   ·exact .inl r
   ·exact .inr (.inl r)⟩
 ·refine⟨_,_,mH hh hd h2 I ax lQ (fun z=>nI (by rw[hh,z])) items,fun h a b k=>⟨a,b,k _ _ he⟩,fun b hb=>?_⟩
  have:b=I\/b=ax\/b=e:=by simpa using hb
  rcases this with r|r|r
  ·exact .inl r
  ·exact .inr (.inl r)
  ·exact .inr (.inr ⟨o,by rw[r];exact he⟩)
theorem mJ {P:Program}{w:World}{A:Around}{E:Value->Shared->Prop}{s:Shared}{it:Addr}{a c:Int}{n i:Nat}{Q:Option Value->Shared->Prop}(hi:i<n)(st:IsRangeIter s.heap it (a+(i:Nat)*c) ((n:Int)-(i:Nat)) c)
  (q:∀ v h' tk,(∃ t,v=.int (a+(i:Nat)*c) t)->IsRangeIter h' it (a+((i+1:Nat):Int)*c) ((n:Int)-((i+1:Nat):Int)) c->(∀ b o,b∉[it]->s.heap.get? b=some o->h'.get? b=some o)->Q (some v) { s with heap:=h',toks:=tk }) :
  wpAny (model P w) A (pyNext (.ref it)) Q E s:=by
 refine wpAny_pyNext_range_item st (by omega) fun h1 Vw s1=>?_
 refine q _ h1 _ ⟨_,rfl⟩ ?_ fun b o nb x=>s1.extBut b o (fun z=>nb (by simp[z])) x
 have e1:a+((i+1:Nat):Int)*c=a+(i:Int)*c+c:=by push_cast;rw[Int.add_mul,aaI,Int.add_assoc]
 have e2:(n:Int)-((i+1:Nat):Int)=(n:Int)-(i:Int)-1:=by push_cast;omega
 rw[e1,e2]
 exact Vw
abbrev Key:=Sum Int Str
def Hq:Key->Value->Bool
 | .inl k,v=>Value.isInt k v
 | .inr x,v=>Value.isStrOf x v
def Qn (w:World):Key->Int
 | .inl k=>hashInt k
 | .inr x=>hashStr w x
theorem cq:∀ {k:Key}{v:Value},Hq k v=true->(∃ i t,k=Sum.inl i/\v=Value.int i t)\/(∃ x t,k=Sum.inr x/\v=Value.str x t)
 | .inl i,v,h=>by
  obtain⟨t,e⟩:=Value.isInt_shape (k:=i) (v:=v) h
  exact .inl ⟨i,t,rfl,e⟩
 | .inr x,v,h=>by
  obtain⟨t,e⟩:=Value.isStrOf_shape (x:=x) (v:=v) h
  exact .inr ⟨x,t,rfl,e⟩
theorem I0 (a b:Int):decide ((Sum.inl a:Key)=Sum.inl b)=(a==b):=by
 by_cases e:a=b
 ·subst e;simp
 ·have h:¬ (Sum.inl a:Key)=Sum.inl b:=fun q=>e (Sum.inl.inj q)
  rw[aao h]
  exact (beq_eq_false_iff_ne.mpr e).symm
theorem Ja (a b:Str):decide ((Sum.inr a:Key)=Sum.inr b)=decide (a=b):=by
 by_cases e:a=b
 ·subst e;simp
 ·have h:¬ (Sum.inr a:Key)=Sum.inr b:=fun q=>e (Sum.inr.inj q)
  rw[aao h,aao e]
theorem Jb (a:Int)(b:Str):decide ((Sum.inl a:Key)=Sum.inr b)=false:=aao (fun q=>nomatch q)
theorem Jd (a:Str)(b:Int):decide ((Sum.inr a:Key)=Sum.inl b)=false:=aao (fun q=>nomatch q)
def zg (prog:Program)(w:World):PySem.KeyKind prog w Key where
 is:=Hq
 hash:=Qn w
 inj:=fun v a b ha hb=>by
  rcases cq ha with ⟨i,t,rfl,rfl⟩|⟨x,t,rfl,rfl⟩
  ·rcases cq hb with ⟨j,u,rfl,e⟩|⟨y,u,rfl,e⟩
   ·injection e with e1 _;rw[e1]
   ·exact nomatch e
  ·rcases cq hb with ⟨j,u,rfl,e⟩|⟨y,u,rfl,e⟩
   ·exact nomatch e
   ·injection e with e1 _;rw[e1]
 byValue:=fun k v h=>by
  rcases cq h with ⟨i,t,rfl,rfl⟩|⟨x,t,rfl,rfl⟩<;>rfl
 pyHash:=fun hv h=>by
  rcases cq hv with ⟨i,t,rfl,rfl⟩|⟨x,t,rfl,rfl⟩
  ·exact wpAny_pyHash_int h
  ·exact wpAny_pyHash_str h
 eqBool:=fun hu hv h=>by
  rcases cq hu with ⟨i,t,rfl,rfl⟩|⟨x,t,rfl,rfl⟩
  ·rcases cq hv with ⟨j,u,rfl,rfl⟩|⟨y,u,rfl,rfl⟩
   ·rw[I0] at h;exact wpAny_eqBool_int h
   ·rw[Jb] at h;exact SeqAt.EqAt.int_str i t y u _ _ _ _ h
  ·rcases cq hv with ⟨j,u,rfl,rfl⟩|⟨y,u,rfl,rfl⟩
   ·rw[Jd] at h;exact SeqAt.EqAt.str_int x t j u _ _ _ _ h
   ·rw[Ja] at h;exact wpAny_eqBool_str h
 «strs»:=fun k x t v h=>by
  rcases cq h with ⟨i,u,rfl,e⟩|⟨y,u,rfl,e⟩
  ·exact nomatch e
  ·injection e with e1 _
   subst e1
   cases v<;>rfl
inductive V where
 | eB|bl (b:Bool)|int (i:Int)|str (x:Str)|zh (b:Array UInt8)|FD (b:UInt64)|ref (a:Addr)|ty (n:String)
 deriving DecidableEq
def RelV:V->Value->Prop
 | .eB,u=>u=Value.none
 | .bl b,u=>u=Value.bool b
 | .int i,u=>∃ t,u=Value.int i t
 | .str x,u=>∃ t,u=Value.str x t
 | .zh b,u=>∃ t,u=Value.bytes b t
 | .FD b,u=>∃ t,u=Value.float b t
 | .ref a,u=>u=Value.ref a
 | .ty n,u=>u=Value.type n
abbrev Vals:List V->List Value->Prop:=Paired RelV
theorem Vals.length {xs:List V}{us:List Value}(r:Vals xs us):xs.length=us.length:=Paired.length r
theorem Vals.get:∀ {xs:List V}{us:List Value}{i:Nat}{x:V},Vals xs us->xs[i]?=some x->∃ u,us[i]?=some u/\RelV x u
 | _,_,_,_,.nil,e=>by simp at e
 | _,_,0,_,.cons r _,e=>by simp at e;subst e;exact⟨_,rfl,r⟩
 | _,_,i+1,x,.cons _ t,e=>by
  obtain⟨u,h1,h2⟩:=Vals.get (i:=i) (x:=x) t (by simpa using e)
  exact⟨u,by simpa using h1,h2⟩
theorem Vals.set {x:V}{u:Value}(r:RelV x u):∀ {xs:List V}{us:List Value} (i:Nat),Vals xs us->Vals (xs.set i x) (us.set i u)
 | _,_,_,.nil=>.nil
 | _,_,0,.cons _ t=>.cons r t
 | _,_,i+1,.cons q t=>.cons q (Vals.set r i t)
theorem Vals.append:∀ {xs ys:List V}{us ws:List Value},Vals xs us->Vals ys ws->Vals (xs++ys) (us++ws)
 | _,_,_,_,.nil,s=>s
 | _,_,_,_,.cons r t,s=>.cons r (Vals.append t s)
theorem Vals.take:∀ {xs:List V}{us:List Value} (n:Nat),Vals xs us->Vals (xs.take n) (us.take n)
 | _,_,0,_=>.nil
 | _,_,_+1,.nil=>.nil
 | _,_,n+1,.cons r t=>.cons r (Vals.take n t)
theorem Vals.drop:∀ {xs:List V}{us:List Value} (n:Nat),Vals xs us->Vals (xs.drop n) (us.drop n)
 | _,_,0,r=>r
 | _,_,_+1,.nil=>.nil
 | _,_,n+1,.cons _ t=>Vals.drop n t
theorem Vals.none_of:∀ {xs:List V}{us:List Value}{i:Nat},Vals xs us->xs[i]?=none->us[i]?=none:=fun {xs us i} r e=>by
 have h1:=r.length
 have h2:xs.length<=i:=List.getElem?_eq_none_iff.mp e
 exact List.getElem?_eq_none_iff.mpr (by omega)
def xB:Option V->Option Value->Prop
 | some v,some u=>RelV v u
 | none,none=>True
 | _,_=>False
def KV {κ:Type}:List (κ × V)->List (κ × Value)->Prop:=Paired fun (p:κ × V) (q:κ × Value)=>p.1=q.1/\RelV p.2 q.2
def kV:Key->V
 | .inl i=>.int i
 | .inr x=>.str x
inductive HO where
 /-- a list -/
 | lst (xs:List V)
 /-- a tuple (never changes) -/
 | tup (xs:List V)
 /-- a dict Mg keys are ints and texts;one Mg keys are tuples of ints and texts (Ca empty one is both) -/
 | dK (mC:List (Key × V))|dT (mC:List (List Key × V))
 /-- a set of ints: aH members,aH size -/
 | set (S:Int->Bool) (n:Nat)
 /-- an instance of Ca class at C,aH dict at dx,aH attributes -/
 | ins (C dx:Addr) (fs:List (Str × V))
 /-- Ca dict of Ca instance at x -/
 | own (x:Addr)
 /-- Ca dict of an exception -/
 | xd (fs:List (Str × V))
 /-- a bound method,f of x -/
 | met (f x:Addr)
 /-- a range object lo,lo+1,.. below hi -/
 | Hr (lo hi:Int)
 /-- a Mh Vx is known to Ca object (Ca Qo;a dict while a loop walks it): read,never written while it is so -/
 | mK (o:Obj) (u:HO)
 /-- a code Mi table -/
 | Hs (ps:Array Value)
 /-- any other Mh,by Qp is true of aH one object (a def of T4 own: Vy a S n:=HO.ext fun h=>..) -/
 | ext (φ:Heap->Prop)
abbrev Hp:=Addr->Option HO
def upd (H:Hp)(a:Addr)(o:HO):Hp:=fun b=>if b=a then some o else H b
theorem ah {H:Hp}{a:Addr}{o:HO}:upd H a o a=some o:=by unfold upd;rw[aag rfl]
theorem aG {H:Hp}{a b:Addr}{o:HO}(h:b≠a):upd H a o b=H b:=by unfold upd;rw[Z4 h]
theorem aI {H:Hp}{a b:Addr}{o:HO}(h:H a=some o)(h':H b=none):a≠b:=by
 intro e;subst e;rw[h] at h';cases h'
section
variable (P:Program)(w:World)
def bI (H:Hp)(h:Heap)(a:Addr):HO->Prop
 | .lst xs=>xs.length<=sizeLine/\∃ (aH:List Value) (n:Nat),Vals xs aH/\h.get? a=some { cls:=.type "list",data:=.seq aH.toArray n }
 | .tup xs=>xs.length<=sizeLine/\∃ aH:List Value,Vals xs aH/\IsTup h a aH.toArray
 | .dK mC=>mC.length<=sizeLine/\(a==sysModules)=false/\∃ vs,KV mC vs/\h.DictOf (zg P w) a vs
 | .dT mC=>mC.length<=sizeLine/\(a==sysModules)=false/\∃ xs:List (List Key × Addr × Value),
   Paired (fun (p:List Key × V) (q:List Key × Addr × Value)=>p.1=q.1/\H q.2.1=some (.tup (p.1.map kV))/\RelV p.2 q.2.2) mC xs /\
   ∃ o es ep,h.get? a=some o/\o.ExactDict/\o.data=.dict es ep/\es.toList=xs.map (entryOfKey (tupleKind (zg P w)))/\(xs.map (·.1)).Nodup
 | .set S n=>h.SetOf (intKind P w) a S n
 | .ins C dx fs=>H dx=some (.own a)/\fs.length<=1000/\dx≠a/\h.get? a=some (W.instObj C dx) /\
   ∃ mA,h.Ns1 dx mA/\(∀ f,xB (fs.lookup f) (mA f))/\PySem.Within mA (fs.map (·.1))
 | .own _=>∃ o,h.get? a=some o
 | .xd fs=>∃ mA,h.Ns1 a mA/\∀ f,xB (fs.lookup f) (mA f)
 | .Hr lo hi=>∃ t u v,h.get? a=some { cls:=.type "range",data:=.fields #[.int lo t,.int hi u,.int 1 v] }
 | .mK o u=>h.get? a=some o/\bI H h a u
 | .Hs ps=>h.get? a=some { cls:=.none,data:=.fields ps }
 | .met f x=>h.get? a=some (W.methodObj (.ref f) (.ref x))
 | .ext φ=>φ h/\(∃ o,h.get? a=some o)/\∀ h1 h2:Heap,φ h1->(∀ o,h1.get? a=some o->h2.get? a=some o)->φ h2
def ki (H:Hp)(h:Heap):Prop:=∀ a o,H a=some o->bI P w H h a o
end
section
variable {P:Program}{w:World}{H H':Hp}{h h':Heap}{a:Addr}{o:HO}
theorem bI.lt (x:bI P w H h a o):a<h.objs.size:=by
 cases o with
 | lst xs=>obtain⟨_,_,_,_,e⟩:=x;exact ZH e
 | tup xs=>obtain⟨_,_,_,p⟩:=x;exact p.lt
 | dK mC=>obtain⟨_,_,_,_,o,_,_,e,_⟩:=x;exact ZH e
 | dT mC=>obtain⟨_,_,_,_,o,_,_,e,_⟩:=x;exact ZH e
 | set S n=>obtain⟨o,_,_,_,e,_⟩:=x;exact ZH e
 | ins C dx fs=>obtain⟨_,_,_,e,_⟩:=x;exact ZH e
 | own y=>obtain⟨_,e⟩:=x;exact ZH e
 | xd fs=>obtain⟨_,⟨_,_,_,e,_⟩,_⟩:=x;exact ZH e
 | Hr lo hi=>obtain⟨_,_,_,e⟩:=x;exact ZH e
 | mK ob u=>obtain⟨e,_⟩:=x;exact ZH e
 | Hs ps=>exact ZH (show h.get? a=some _ from x)
 | met f y=>exact ZH (show h.get? a=some _ from x)
 | ext φ=>obtain⟨_,⟨_,e⟩,_⟩:=x;exact ZH e
theorem Paired.Mj {α β:Type}{F G:α->β->Prop}:∀ {l₁:List α}{l₂:List β},Paired F l₁ l₂->(∀ a b,F a b->G a b)->Paired G l₁ l₂
 | _,_,.nil,_=>.nil
 | _,_,.cons r t,f=>.cons (f _ _ r) (Paired.Mj t f)
theorem bI.rN (x:bI P w H h a o)(k:∀ b u,(b=a\/H b=some (.own a))->h.get? b=some u->h'.get? b=some u)
  (ho:∀ b,H b=some (.own a)->H' b=some (.own a)) (ht:∀ b xs,H b=some (.tup xs)->H' b=some (.tup xs)):bI P w H' h' a o:=by
 induction o with
 | lst xs=>obtain⟨z,aH,n,r,e⟩:=x;exact⟨z,aH,n,r,k _ _ (.inl rfl) e⟩
 | tup xs=>obtain⟨z,aH,r,ob,e,c⟩:=x;exact⟨z,aH,r,ob,k _ _ (.inl rfl) e,c⟩
 | dK mC=>obtain⟨z,y,vs,r,ob,es,ep,e,c⟩:=x;exact⟨z,y,vs,r,ob,es,ep,k _ _ (.inl rfl) e,c⟩
 | dT mC=>
  obtain⟨z,y,xs,r,ob,es,ep,e,c⟩:=x
  exact⟨z,y,xs,Paired.Mj r fun p q z=>⟨z.1,ht _ _ z.2.1,z.2.2⟩,ob,es,ep,k _ _ (.inl rfl) e,c⟩
 | set S n=>obtain⟨ob,es,ep,t,e,c⟩:=x;exact⟨ob,es,ep,t,k _ _ (.inl rfl) e,c⟩
 | ins C dx fs=>
  obtain⟨d,z,ne,e,mA,⟨od,es,ep,e2,c⟩,r⟩:=x
  exact⟨ho _ d,z,ne,k _ _ (.inl rfl) e,mA,⟨od,es,ep,k _ _ (.inr d) e2,c⟩,r⟩
 | own y=>obtain⟨ob,e⟩:=x;exact⟨ob,k _ _ (.inl rfl) e⟩
 | xd fs=>obtain⟨mA,⟨od,es,ep,e,c⟩,r⟩:=x;exact⟨mA,⟨od,es,ep,k _ _ (.inl rfl) e,c⟩,r⟩
 | Hr lo hi=>obtain⟨t,u,v,e⟩:=x;exact⟨t,u,v,k _ _ (.inl rfl) e⟩
 | mK ob u ih=>obtain⟨e,q⟩:=x;exact⟨k _ _ (.inl rfl) e,ih q⟩
 | Hs ps=>
  have e:h.get? a=some { cls:=.none,data:=.fields ps }:=x
  show h'.get? a=some { cls:=.none,data:=.fields ps }
  exact k a _ (.inl rfl) e
 | met f y=>
  have e:h.get? a=some (W.methodObj (.ref f) (.ref y)):=x
  show h'.get? a=some (W.methodObj (.ref f) (.ref y))
  exact k a _ (.inl rfl) e
 | ext φ=>obtain⟨p,⟨o,e⟩,st⟩:=x;exact⟨st _ _ p fun o q=>k _ _ (.inl rfl) q,⟨o,k _ _ (.inl rfl) e⟩,st⟩
theorem ki.lt (x:ki P w H h)(e:H a=some o):a<h.objs.size:=(x a o e).lt
theorem ki.fresh (x:ki P w H h)(e:h.objs.size<=a):H a=none:=by
 cases q:H a with
 | none=>rfl
 | some u=>exact absurd (ZM (x.lt q) e) (aaT _)
theorem ki.kept (x:ki P w H h)(k:∀ b u,h.get? b=some u->h'.get? b=some u):ki P w H h':=fun a o e=>
 (x a o e).rN (fun b u _ q=>k b u q) (fun _ q=>q) fun _ _ q=>q
theorem ki.laid (x:ki P w H h)(k:∀ b u,h.get? b=some u->h'.get? b=some u)(hp:h.objs.size<=a)(new:bI P w (upd H a o) h' a o):ki P w (upd H a o) h':=fun b u e=>by
 have hn:=x.fresh hp
 by_cases hb:b=a
 ·subst hb;rw[ah] at e;cases e;exact new
 ·rw[aG hb] at e
  exact (x b u e).rN (fun c v _ q=>k c v q) (fun c q=>by rw[aG (aI q hn)];exact q) fun c xs q=>by rw[aG (aI q hn)];exact q
end
def Rd (H:Hp)(a:Addr)(u:HO):Prop:=H a=some u\/∃ o,H a=some (.mK o u)
theorem Rd.ok {P:Program}{w:World}{H:Hp}{h:Heap}{a:Addr}{u:HO}(r:Rd H a u)(x:ki P w H h):bI P w H h a u:=by
 rcases r with r|⟨o,r⟩
 ·exact x a u r
 ·obtain⟨_,q⟩:=x a _ r
  exact q
def Pe:Option HO->Prop
 | some (.lst _)=>True
 | some (.dK _)=>True
 | some (.dT _)=>True
 | some (.set _ _)=>True
 | some (.ins _ _ _)=>True
 | some (.ext _)=>True
 | _=>False
section
variable {P:Program}{w:World}{H:Hp}{h h':Heap}{x e:Addr}{o':HO}
theorem ki.write (ok:ki P w H h)(mu:Pe (H x))(he:e=x\/H e=some (.own x))(k:∀ b u,b≠e->h.get? b=some u->h'.get? b=some u)(Ht:∃ u,h'.get? e=some u)
  (new:bI P w (upd H x o') h' x o'):ki P w (upd H x o') h':=fun b u q=>by
 have Mk:∀ c y,H c=some (.own y)->c≠x:=fun c y r z=>by subst z;rw[r] at mu;exact mu
 have Qq:∀ c xs,H c=some (.tup xs)->c≠x:=fun c xs r z=>by subst z;rw[r] at mu;exact mu
 by_cases hb:b=x
 ·subst hb;rw[ah] at q;cases q;exact new
 ·rw[aG hb] at q
  by_cases Je:b=e
  ·have q':H b=some (.own x):=by
    rcases he with z|z
    ·exact absurd (Je.trans z) hb
    ·rw[Je];exact z
   rw[q] at q';cases q'
   obtain⟨v,hv⟩:=Ht
   exact⟨v,by rw[Je];exact hv⟩
  ·refine (ok b u q).rN (fun c v hc r=>k c v ?_ r) (fun c r=>by rw[aG (Mk c b r)];exact r) fun c xs r=>by rw[aG (Qq c xs r)];exact r
   rcases hc with rfl|hc
   ·exact Je
   ·rintro rfl
    rcases he with z|z
    ·exact Mk c b hc z
    ·rw[hc] at z;cases z;exact hb rfl
end
structure Un (fs ex:List Addr)(H H':Hp)(h h':Heap):Prop where
 keep:∀ b o,h.get? b=some o->H b=none->b∉fs->b∉ex->h'.get? b=some o
 slot:∀ b o,h.get? b=some o->H b=none->b∈fs->b∉ex->∃ sl,h'.get? b=some { o with slots:=sl }
 free:∀ b o,h.get? b=some o->H b=none->b∉ex->H' b=none
 there:∀ b o,h.get? b=some o->b∉ex->∃ o',h'.get? b=some o'
 je:∀ b xs,H b=some (.tup xs)->H' b=some (.tup xs)
 iF:∀ b o u,H b=some (.mK o u)->H' b=some (.mK o u)
 jf:∀ b ps,H b=some (.Hs ps)->∃ more,H' b=some (.Hs (ps++more))
section
variable {fs Lz ex Qr:List Addr}{H H1 H2:Hp}{h h1 h2 h':Heap}{a x e:Addr}{o:HO}
theorem Un.any (u:Un fs ex H H1 h h1){b:Addr}{ob:Obj}(q:h.get? b=some ob)(n:H b=none)(hx:b∉ex):∃ sl,h1.get? b=some { ob with slots:=sl }:=by
 by_cases hb:b∈fs
 ·exact u.slot b ob q n hb hx
 ·exact⟨ob.slots,u.keep b ob q n hb hx⟩
theorem Un.kept (k:∀ b u,h.get? b=some u->h'.get? b=some u):Un fs ex H H h h':=
 ⟨fun b ob q _ _ _=>k b ob q,fun b ob q _ _ _=>⟨ob.slots,k b ob q⟩,fun _ _ _ n _=>n,fun b ob q _=>⟨ob,k b ob q⟩,fun _ _ q=>q,fun _ _ _ q=>q,fun _ ps q=>⟨#[],by rw[q];simp⟩⟩
theorem Un.refl:Un fs ex H H h h:=Un.kept fun _ _ q=>q
theorem Un.laid (k:∀ b u,h.get? b=some u->h'.get? b=some u)(hp:h.objs.size<=a)(hn:H a=none):Un fs ex H (upd H a o) h h' where
 keep:=fun b u q _ _ _=>k b u q
 slot:=fun b u q _ _ _=>⟨u.slots,k b u q⟩
 free:=fun b u q n _=>by rw[aG (ZP (ZM (ZH q) hp))];exact n
 there:=fun b u q _=>⟨u,k b u q⟩
 je:=fun b xs q=>by rw[aG (aI q hn)];exact q
 iF:=fun b u xs q=>by rw[aG (aI q hn)];exact q
 jf:=fun b ps q=>⟨#[],by rw[aG (aI q hn),q];simp⟩
theorem Un.write (mu:Pe (H x))(he:e=x\/H e=some (.own x))(k:∀ b u,b≠e->h.get? b=some u->h'.get? b=some u)(Ht:∃ u,h'.get? e=some u):Un fs ex H (upd H x o) h h':=by
 have hx:∀ b,H b=none->b≠x:=fun b n z=>by subst z;rw[n] at mu;exact mu
 have hb:∀ b,H b=none->b≠e:=fun b n z=>by
  subst z
  rcases he with r|r
  ·exact hx b n r
  ·rw[n] at r;cases r
 have hm:∀ b u,H b=some u->¬ Pe (some u)->b≠x:=fun b u q nm z=>by subst z;rw[q] at mu;exact nm mu
 refine⟨fun b u q n _ _=>k b u (hb b n) q,fun b u q n _ _=>⟨u.slots,k b u (hb b n) q⟩,fun b u q n _=>by rw[aG (hx b n)];exact n,fun b u q _=>?_,
  fun b xs q=>by rw[aG (hm b _ q fun z=>z)];exact q,fun b u xs q=>by rw[aG (hm b _ q fun z=>z)];exact q,fun b ps q=>⟨#[],by rw[aG (hm b _ q fun z=>z),q];simp⟩⟩
 by_cases Je:b=e
 ·subst Je;exact Ht
 ·exact⟨u,k b u Je q⟩
end
def Pf (h:Heap)(H:Hp):List Addr:=(List.range h.objs.size).filter fun a=>(H a).isSome
def tE (h:Heap)(H:Hp):Heap:=W.hideAll h (Pf h H)
theorem AK (h:Heap)(H:Hp):(tE h H).objs.size=h.objs.size:=W.hideAll_size _ _
theorem pR {h:Heap}{H:Hp}{b:Addr}{o:Obj}(e:h.get? b=some o)(n:H b=none):(tE h H).get? b=some o:=
 ads _ e fun hm=>by
  have q:(H b).isSome=true:=(abA.mp hm).2
  rw[n] at q;simp at q
theorem FE {h:Heap}{H:Hp}{b:Addr}{o:Obj}(e:(tE h H).get? b=some o):h.get? b=some o/\H b=none:=by
 have e':h.get? b=some o:=W.of_hideAll (Pf h H) e
 refine⟨e',?_⟩
 cases q:H b with
 | none=>rfl
 | some x=>
  have hm:b∈Pf h H:=abA.mpr ⟨abN.mpr (ZH e'),by simp[q]⟩
  have z:(tE h H).get? b=none:=W.hideAll_none (Pf h H) hm
  rw[z] at e;cases e
structure Mod (K:W.Frag)(mg:Str->Option Value)(base:Heap):Prop where
 Hu:K.In base
 glob:base.Ns mainGlobals mg
 blt:∃ mb,base.Ns builtinsNs mb/\∀ x:Str,x≠"__name__"->mb x=bootBuiltins x
 nolimit:base.NoLimit
structure Cx where
 prog:Program
 w:World
 K:W.Frag
 mg:Str->Option Value
 base:Heap
 A:Around
 N:List Str
 s₀:Shared
 H₀:Hp
 env:Env
 outer:List Env
 stack:List Env
 ex:List Addr
 fn:Str->Bool
 calm:Bool
 cb:Bool
 fz:List (Addr × Obj × HO)
 pn:List (Addr × Obj)
 xe:Value->Shared->Prop
def eM (l:List Env):List Addr:=l.filterMap (·.frame)
abbrev Cx.fs (X:Cx):List Addr:=eM X.outer
def Ml (sc:Scope)(x:Str):Prop:=sc.names.lookup x=some .local\/sc.names.lookup x=some .cell\/sc.names.lookup x=some .free
def Loc (sc:Scope)(x:Str):Prop:=sc.names.lookup x=some .local\/sc.names.lookup x=some .cell
def Look (env:Env)(h:Heap)(m:Str->Option Value)(x:Str)(u:Value):Prop:=
 (env.kindOf x=some .local/\m x=some u)\/((env.kindOf x=some .cell\/env.kindOf x=some .free)/\∃ c,env.cells.lookup x=some c/\h.IsCell c (some u))
structure Cx.Ok (X:Cx):Prop where
 mod:Mod X.K X.mg X.base
 kind:X.env.scope.kind=.function
 glob:X.env.globals=mainGlobals
 blt:X.env.builtins=builtinsNs
 above:X.s₀.heap.objs.size<=X.env.locals
 inj:∀ x y c,X.env.cells.lookup x=some c->X.env.cells.lookup y=some c->x=y
 has:∀ x,(X.env.kindOf x=some .cell\/X.env.kindOf x=some .free)->∃ c,X.env.cells.lookup x=some c
 Fo:∀ x c,X.fn x=true->X.env.cells.lookup x=some c->X.s₀.heap.objs.size<=c
 hd:X.calm=true->X.A.handled=none
 hs:X.cb=true->X.A.handled=none\/∃ e o u vs,X.A.handled=some (.ref e)/\(e,o,u)∈X.fz/\o.data=.fields vs/\vs[2]?=some .none
 frames:X.A.frames=some X.stack
 FF:X.stack=X.outer\/(X.stack=X.env::X.outer/\X.env.frame=some X.env.locals)
 Jf:∀ b∈X.ex,b≠X.env.locals/\∀ x c,X.env.cells.lookup x=some c->c≠b
 bs:∀ b o,X.base.get? b=some o->X.s₀.heap.get? b=some o/\X.H₀ b=none
 vn:X.base.objs.size<=X.s₀.heap.objs.size
 pT:∀ b o,X.base.get? b=some o->b∉X.ex
 tF:∀ b∈X.ex,b∉X.fs
 jy:X.s₀.heap.FunFrames X.base X.outer
 pU:∀ b∈X.fs,X.H₀ b=none
structure Inv (X:Cx)(pins:List (Addr × Obj))(σ:List (Option V))(H:Hp)(s:Shared):Prop where
 ok:X.Ok
 vq:∀ p∈X.fz,H p.1=some (.mK p.2.1 p.2.2)
 os:s.os=X.s₀.os
 bare:AllBare s.gens
 base:Un X.fs X.ex X.H₀ H X.s₀.heap s.heap
 loc:∃ m,s.heap.Ns X.env.locals m/\∀ (i:Nat) (x:Str) (v:V),X.N[i]?=some x->σ[i]?=some (some v)->Ml X.env.scope x->∃ u,RelV v u/\Look X.env s.heap m x u
 cell:∀ x c,X.env.cells.lookup x=some c->∃ v,s.heap.IsCell c v
 free:H X.env.locals=none
 eW:∀ x c,X.env.cells.lookup x=some c->H c=none
 pin:∀ p∈X.pn++pins,s.heap.get? p.1=some p.2/\H p.1=none/\p.1≠X.env.locals/\p.1∉X.fs/\∀ v,p.2.data≠.cell v
 bh:ki X.prog X.w H s.heap
 len:σ.length=X.N.length
section
variable {X:Cx}{pins:List (Addr × Obj)}{σ:List (Option V)}{H H':Hp}{s:Shared}{h':Heap}
theorem Cx.Ok.Qt (ok:X.Ok){b:Addr}{o:Obj}(e:X.base.get? b=some o):b∉X.fs:=fun hb=>by
 have:=(ok.jy.mem hb).1
 rw[e] at this;cases this
theorem Inv.bs (I:Inv X pins σ H s):∀ b o,X.base.get? b=some o->s.heap.get? b=some o/\H b=none:=fun b o e=>
 ⟨I.base.keep b o (I.ok.bs b o e).1 (I.ok.bs b o e).2 (I.ok.Qt e) (I.ok.pT b o e),I.base.free b o (I.ok.bs b o e).1 (I.ok.bs b o e).2 (I.ok.pT b o e)⟩
theorem Inv.bk (I:Inv X pins σ H s):∀ b o,X.base.get? b=some o->s.heap.get? b=some o:=fun b o e=>(I.bs b o e).1
theorem Inv.mod (I:Inv X pins σ H s):Mod X.K X.mg X.base:=I.ok.mod
theorem Inv.jw (I:Inv X pins σ H s):X.K.In s.heap:=I.ok.mod.Hu.keeps I.bk
theorem Inv.lt (I:Inv X pins σ H s):X.env.locals<s.heap.objs.size:=let ⟨_,hn,_⟩:=I.loc;hn.lt
theorem Inv.sz (I:Inv X pins σ H s):X.s₀.heap.objs.size<=s.heap.objs.size:=ZV I.ok.above (acg I.lt)
theorem Inv.Qu (I:Inv X pins σ H s){a:Addr}(h:s.heap.objs.size<=a):a∉X.fs:=fun hb=>by
 obtain⟨_,o,ho,_⟩:=I.ok.jy.mem hb
 exact absurd (ZM (ZH ho) (ZV I.sz h)) (aaT _)
theorem Inv.Cj (I:Inv X pins σ H s):∀ x c,X.env.cells.lookup x=some c->c≠X.env.locals:=fun x c e z=>by
 obtain⟨v,o,ho,hd⟩:=I.cell x c e
 obtain⟨m,⟨o',es,ep,mD,Qv,_⟩,_⟩:=I.loc
 rw[z,mD] at ho;cases ho;rw[Qv] at hd;cases hd
theorem Inv.jy (I:Inv X pins σ H s):s.heap.FunFrames X.base X.outer:=by
 have all:∀ (l:List Env),(∀ b∈eM l,b∈X.fs)->X.s₀.heap.FunFrames X.base l->s.heap.FunFrames X.base l:=by
  intro l
  induction l with
  | nil=>intro _ _;trivial
  | cons env r ih=>
   intro hs hl
   obtain⟨hk,⟨L,o,hf,hn,ho,hd⟩,hr⟩:=hl
   have hL:L∈X.fs:=hs L (by unfold eM;rw[acH,hf];exact aaZ)
   obtain⟨sl,e⟩:=I.base.slot L o ho (I.ok.pU L hL) hL fun z=>I.ok.tF L z hL
   exact⟨hk,⟨L,_,hf,hn,e,hd⟩,ih (fun b hb=>hs b (by unfold eM;rw[acH,hf];exact aav _ hb)) hr⟩
 exact all X.outer (fun _ hb=>hb) I.ok.jy
theorem Inv.stack (I:Inv X pins σ H s):s.heap.FunFrames X.base X.stack:=by
 rcases I.ok.FF with e|⟨e,hf⟩
 ·rw[e];exact I.jy
 ·rw[e]
  obtain⟨m,hn,_⟩:=I.loc
  refine .cons (by rw[I.ok.kind];decide) hf hn ?_ I.jy
  exact aci (ZV I.ok.vn I.ok.above)
theorem Inv.f7 (I:Inv X pins σ H s):∀ b∈eM X.stack,b∈X.env.locals::X.fs:=fun b hb=>by
 rcases I.ok.FF with e|⟨e,hf⟩
 ·rw[e] at hb;exact aav _ hb
 ·rw[e] at hb
  unfold eM at hb
  rw[acH,hf] at hb
  exact hb
theorem Inv.kj (I:Inv X pins σ H s):∀ b∈eM X.stack,H b=none:=fun b hb=>by
 rcases ZI.mp (I.f7 b hb) with e|hb
 ·rw[e];exact I.free
 ·obtain⟨_,o,ho,_⟩:=I.ok.jy.mem hb
  exact I.base.free b o ho (I.ok.pU b hb) fun z=>I.ok.tF b z hb
theorem Inv.step {g':Array GenState}{t':Nat}{d':Drawn}{ch:List Addr}(I:Inv X pins σ H s)
  (Fp:∀ b∈ch,(b∈X.ex\/X.s₀.heap.objs.size<=b)/\b≠X.env.locals/\(∀ x c,X.env.cells.lookup x=some c->c≠b)/\∀ p∈X.pn++pins,p.1≠b)
  (keep:∀ b o,b≠X.env.locals->b∉X.fs->b∉ch->s.heap.get? b=some o->H b=none->h'.get? b=some o)
  (slot:∀ b o,b≠X.env.locals->b∈X.fs->b∉ch->s.heap.get? b=some o->H b=none->∃ sl,h'.get? b=some { o with slots:=sl }) (free:∀ b o,b∉ch->s.heap.get? b=some o->H b=none->H' b=none)
  (there:∀ b o,b∉ch->s.heap.get? b=some o->∃ o',h'.get? b=some o')
  (je:∀ b xs,H b=some (.tup xs)->H' b=some (.tup xs)) (iF:∀ b o u,H b=some (.mK o u)->H' b=some (.mK o u)) (jf:∀ b ps,H b=some (.Hs ps)->∃ more,H' b=some (.Hs (ps++more)))
  (ns:∀ m,s.heap.Ns X.env.locals m->h'.Ns X.env.locals m) (bh:ki X.prog X.w H' h') (hg:AllBare g') :
  Inv X pins σ H' { s with heap:=h',gens:=g',drawn:=d',toks:=t' }:=by
 have T5:∀ b o,X.s₀.heap.get? b=some o->b≠X.env.locals:=fun b o e=>ZP (ZM (ZH e) I.ok.above)
 have Pg:∀ b o,X.s₀.heap.get? b=some o->b∉X.ex->b∉ch:=fun b o e hx hb=>by
  rcases (Fp b hb).1 with z|z
  ·exact hx z
  ·exact absurd (ZM (ZH e) z) (aaT _)
 have cellK:∀ x c,X.env.cells.lookup x=some c->∀ v,s.heap.IsCell c v->h'.IsCell c v:=fun x c e v ⟨o,ho,hd⟩=>by
  have Mm:c∉ch:=fun z=>(Fp c z).2.2.1 x c e rfl
  by_cases hc:c∈X.fs
  ·obtain⟨sl,q⟩:=slot c o (I.Cj x c e) hc Mm ho (I.eW x c e)
   exact⟨_,q,hd⟩
  ·exact⟨o,keep c o (I.Cj x c e) hc Mm ho (I.eW x c e),hd⟩
 refine⟨I.ok,fun p hp=>iF _ _ _ (I.vq p hp),I.os,hg,⟨fun b o e n hb hx=>?_,fun b o e n hb hx=>?_,fun b o e n hx=>?_,fun b o e hx=>?_,fun b xs e=>je b xs (I.base.je b xs e),fun b o xs e=>iF b o xs (I.base.iF b o xs e),fun b ps e=>?_⟩,?_,fun x c e=>?_,?_,fun x c e=>?_,fun p hp=>?_,bh,I.len⟩
 ·exact keep b o (T5 b o e) hb (Pg b o e hx) (I.base.keep b o e n hb hx) (I.base.free b o e n hx)
 ·obtain⟨sl,e1⟩:=I.base.slot b o e n hb hx
  obtain⟨Qw,e2⟩:=slot b _ (T5 b o e) hb (Pg b o e hx) e1 (I.base.free b o e n hx)
  exact⟨Qw,e2⟩
 ·obtain⟨o',e1⟩:=I.base.there b o e hx
  exact free b o' (Pg b o e hx) e1 (I.base.free b o e n hx)
 ·obtain⟨o',e1⟩:=I.base.there b o e hx
  exact there b o' (Pg b o e hx) e1
 ·obtain⟨m1,e1⟩:=I.base.jf b ps e
  obtain⟨m2,e2⟩:=jf b _ e1
  exact⟨m1++m2,by rw[e2,Array.append_assoc]⟩
 ·obtain⟨m,hn,hl⟩:=I.loc
  refine⟨m,ns m hn,fun i x v e1 e2 e3=>?_⟩
  obtain⟨u,r,l⟩:=hl i x v e1 e2 e3
  refine⟨u,r,?_⟩
  rcases l with l|⟨k,c,e,z⟩
  ·exact .inl l
  ·exact .inr ⟨k,c,e,cellK x c e _ z⟩
 ·obtain⟨v,z⟩:=I.cell x c e
  exact⟨v,cellK x c e v z⟩
 ·obtain⟨m,⟨o,_,_,ho,_⟩,_⟩:=I.loc
  exact free _ o (fun z=>(Fp _ z).2.1 rfl) ho I.free
 ·obtain⟨v,o,ho,hd⟩:=I.cell x c e
  exact free c o (fun z=>(Fp c z).2.2.1 x c e rfl) ho (I.eW x c e)
 ·obtain⟨e,n,ne,nf,d⟩:=I.pin p hp
  have Mm:p.1∉ch:=fun z=>(Fp p.1 z).2.2.2 p hp rfl
  exact⟨keep p.1 p.2 ne nf Mm e n,free p.1 p.2 Mm e n,ne,nf,d⟩
theorem Inv.un {t':Nat}(I:Inv X pins σ H s)(u:Un X.fs [] H H' s.heap h')(bh:ki X.prog X.w H' h'):Inv X pins σ H' { s with heap:=h',toks:=t' }:=by
 obtain⟨m,⟨o,es,ep,ho,r⟩,_⟩:=id I.loc
 obtain⟨sl,hL⟩:=u.any ho I.free (by simp)
 exact I.step (g':=s.gens) (d':=s.drawn) (ch:=[]) (fun _ z=>nomatch z) (fun b o _ hb _ e n=>u.keep b o e n hb (by simp)) (fun b o _ hb _ e n=>u.slot b o e n hb (by simp)) (fun b o _ e n=>u.free b o e n (by simp)) (fun b o _ e=>u.there b o e (by simp)) u.je u.iF u.jf (fun m' hm=>by
  obtain⟨o',AL,Qx,mD,r'⟩:=hm
  rw[ho] at mD;cases mD
  exact⟨_,AL,Qx,hL,r'⟩) bh I.bare
theorem Inv.call {g':Array GenState}{t':Nat}{d':Drawn}{ch:List Addr}(I:Inv X pins σ H s)(u:Un (eM X.stack) ch H H' s.heap h')(bh:ki X.prog X.w H' h')(hg:AllBare g')
  (Fp:∀ b∈ch,(b∈X.ex\/X.s₀.heap.objs.size<=b)/\b≠X.env.locals/\(∀ x c,X.env.cells.lookup x=some c->c≠b)/\∀ p∈X.pn++pins,p.1≠b) :
  Inv X pins σ H' { s with heap:=h',gens:=g',drawn:=d',toks:=t' }:=by
 obtain⟨m,⟨o,es,ep,ho,r⟩,_⟩:=id I.loc
 obtain⟨sl,hL⟩:=u.any ho I.free fun z=>(Fp _ z).2.1 rfl
 exact I.step (ch:=ch) Fp (fun b o hL hb hc e n=>u.keep b o e n (fun z=>(ZI.mp (I.f7 b z)).elim hL hb) hc) (fun b o _ _ hc e n=>u.any e n hc) (fun b o hc e n=>u.free b o e n hc) (fun b o hc e=>u.there b o e hc) u.je u.iF u.jf (fun m' hm=>by
  obtain⟨o',AL,Qx,mD,r'⟩:=hm
  rw[ho] at mD;cases mD
  exact⟨_,AL,Qx,hL,r'⟩) bh hg
theorem Inv.turned {t':Nat}{it:Addr}(I:Inv X pins σ H s)(k:∀ b o,b≠it->s.heap.get? b=some o->h'.get? b=some o)(hn:H it=none)(hL:it≠X.env.locals)
  (h1:it∈X.ex\/X.s₀.heap.objs.size<=it) (h2:∀ x c,X.env.cells.lookup x=some c->c≠it) (h3:∀ p∈X.pn++pins,p.1≠it):Inv X pins σ H { s with heap:=h',toks:=t' }:=by
 have T6:∀ b u,H b=some u->b≠it:=fun b u e z=>by rw[z,hn] at e;cases e
 refine I.step (g':=s.gens) (d':=s.drawn) (ch:=[it]) (fun b hb=>?_) (fun b o _ _ hc e _=>k b o (fun z=>hc (by simp[z])) e) (fun b o _ _ hc e _=>⟨o.slots,k b o (fun z=>hc (by simp[z])) e⟩) (fun _ _ _ _ n=>n)
  (fun b o hc e=>⟨o,k b o (fun z=>hc (by simp[z])) e⟩) (fun _ _ e=>e) (fun _ _ _ e=>e) (fun b ps e=>⟨#[],by rw[e];simp⟩) (fun m hm=>?_) (fun b u e=>?_) I.bare
 ·have e:b=it:=by simpa using hb
  subst e
  exact⟨h1,hL,h2,h3⟩
 ·obtain⟨o,es,ep,ho,r⟩:=hm
  exact⟨o,es,ep,k _ o (Ne.symm hL) ho,r⟩
 ·refine (I.bh b u e).rN (fun c v hc q=>k c v ?_ q) (fun _ q=>q) fun _ _ q=>q
  rcases hc with z|z
  ·rw[z];exact T6 b u e
  ·exact T6 c _ z
theorem Inv.Hv (I:Inv X pins σ H s)(hc:X.cb=true):Still X.A s.heap:=by
 rcases I.ok.hs hc with z|⟨e,o,u,vs,hh,hm,r⟩
 ·exact .inl z
 ·exact .inr ⟨e,o,vs,hh,(I.bh e _ (I.vq _ hm)).1,r⟩
theorem Inv.LA (I:Inv X pins σ H s)(hc:X.cb=true){b:Addr}(n:H b=none):X.A.handled≠some (.ref b):=by
 rcases I.ok.hs hc with z|⟨e,o,u,vs,hh,hm,r⟩
 ·rw[z];intro c;cases c
 ·rw[hh];intro c;cases c
  have y:=I.vq _ hm
  have y':H b=some (.mK o u):=y
  rw[n] at y';cases y'
theorem Inv.tok (I:Inv X pins σ H s)(t:Nat):Inv X pins σ H { s with toks:=t }:=I.un (h':=s.heap) (t':=t) Un.refl I.bh
theorem Inv.kept {t':Nat}(I:Inv X pins σ H s)(k:∀ b u,s.heap.get? b=some u->h'.get? b=some u):Inv X pins σ H { s with heap:=h',toks:=t' }:=I.un (Un.kept k) (I.bh.kept k)
theorem Inv.laid {a:Addr}{o:HO}{t':Nat}(I:Inv X pins σ H s)(k:∀ b u,s.heap.get? b=some u->h'.get? b=some u)(hp:s.heap.objs.size<=a)(new:bI X.prog X.w (upd H a o) h' a o) :
  Inv X pins σ (upd H a o) { s with heap:=h',toks:=t' }:=I.un (Un.laid k hp (I.bh.fresh hp)) (I.bh.laid k hp new)
theorem Inv.write {x e:Addr}{o:HO}{t':Nat}(I:Inv X pins σ H s)(mu:Pe (H x))(he:e=x\/H e=some (.own x))(k:∀ b u,b≠e->s.heap.get? b=some u->h'.get? b=some u)(Ht:∃ u,h'.get? e=some u)
  (new:bI X.prog X.w (upd H x o) h' x o):Inv X pins σ (upd H x o) { s with heap:=h',toks:=t' }:=I.un (Un.write mu he k Ht) (I.bh.write mu he k Ht new)
theorem Inv.zi {Hw:List (Addr × Obj)}(I:Inv X pins σ H s)(h:∀ p∈Hw,s.heap.get? p.1=some p.2/\H p.1=none/\p.1≠X.env.locals/\p.1∉X.fs/\∀ v,p.2.data≠.cell v):Inv X Hw σ H s:=
 ⟨I.ok,I.vq,I.os,I.bare,I.base,I.loc,I.cell,I.free,I.eW,fun p hp=>(abo.mp hp).elim (fun z=>I.pin p (List.mem_append_left _ z)) (h p),I.bh,I.len⟩
theorem pV {N:List Str}(hN:N.Nodup){i j:Nat}{x:Str}(a:N[i]?=some x)(b:N[j]?=some x):i=j:=by
 obtain⟨h1,e1⟩:=aae.mp a
 obtain⟨h2,e2⟩:=aae.mp b
 exact (List.getElem_inj hN).mp (e1.trans e2.symm)
theorem se {M:Model}{A:Around}{E:Value->Shared->Prop}{i:Nat}{x:Str}{v:V}{u:Value}{Q:Unit->Shared->Prop}(I:Inv X pins σ H s)(hN:X.N.Nodup)(hi:X.N[i]?=some x)(hx:Loc X.env.scope x)(r:RelV v u)
  (h:∀ s',Inv X pins (σ.set i (some v)) H s'->(∃ a,Heap.SameBut a s.heap s'.heap/\(a=X.env.locals\/X.env.cells.lookup x=some a))->Q () s') (hf:X.fn x=true\/X.env.scope.names.lookup x=some .local:=by first|exact .inl rfl|exact .inr rfl|assumption):wpAny M A (storeName X.env x u) Q E s:=by
 obtain⟨m,hn,hl⟩:=id I.loc
 have xC:(X.env.scope.kind==.class || (X.env.scope.kind==.module&&X.env.locals != X.env.globals))=false:=by rw[I.ok.kind];rfl
 have Mn:i<σ.length:=by rw[I.len];exact (aae.mp hi).1
 have Cj:=I.Cj
 have tracked:∀ {a:Addr}{h':Heap},(∃ o,s.heap.get? a=some o/\H a=none)->Heap.SameBut a s.heap h'->ki X.prog X.w H h':=fun {a h'} ha hs b ob e=>by
  obtain⟨_,_,Hx⟩:=ha
  refine (I.bh b ob e).rN (fun c w' hc q=>(hs.2 c ?_).trans q) (fun _ q=>q) fun _ _ q=>q
  rintro rfl
  rcases hc with rfl|hc
  ·rw[Hx] at e;cases e
  ·rw[Hx] at hc;cases hc
 rcases hx with hk|hk
 ·refine wpAny_storeName_local hk hn (fun h' LC hs=>?_) xC
  obtain⟨oL,_,_,AM,_⟩:=id hn
  refine h _ ⟨I.ok,I.vq,I.os,I.bare,⟨fun b o e n hb hx=>?_,fun b o e n hb hx=>?_,I.base.free,fun b o e hx=>?_,I.base.je,I.base.iF,I.base.jf⟩,⟨_,LC,fun j y v' e1 e2 e3=>?_⟩,fun y c e=>?_,I.free,I.eW,fun p hp=>?_,tracked ⟨oL,AM,I.free⟩ hs,by simpa using I.len⟩ ⟨_,hs,.inl rfl⟩
  ·exact (hs.2 b (ZP (ZM (ZH e) I.ok.above))).trans (I.base.keep b o e n hb hx)
  ·obtain⟨sl,e1⟩:=I.base.slot b o e n hb hx
   exact⟨sl,(hs.2 b (ZP (ZM (ZH e) I.ok.above))).trans e1⟩
  ·obtain⟨o',e1⟩:=I.base.there b o e hx
   exact⟨o',(hs.2 b (ZP (ZM (ZH e) I.ok.above))).trans e1⟩
  ·by_cases hj:j=i
   ·subst hj
    rw[hi] at e1;cases e1
    rw[adm Mn] at e2
    cases e2
    exact⟨u,r,.inl ⟨hk,by simp⟩⟩
   ·rw[adu (Ne.symm hj)] at e2
    obtain⟨u',r',q⟩:=hl j y v' e1 e2 e3
    refine⟨u',r',?_⟩
    rcases q with ⟨k,e⟩|⟨k,c,e,z⟩
    ·refine .inl ⟨k,?_⟩
     have:y≠x:=fun e=>hj (pV hN e1 (e▸hi))
     simp[this,e]
    ·exact .inr ⟨k,c,e,z.sameBut hs (Cj y c e)⟩
  ·obtain⟨w',z⟩:=I.cell y c e
   exact⟨w',z.sameBut hs (Cj y c e)⟩
  ·obtain⟨e,n,ne,nf,d⟩:=I.pin p hp
   exact⟨(hs.2 p.1 ne).trans e,n,ne,nf,d⟩
 ·have Qy:X.fn x=true:=by
   rcases hf with z|z
   ·exact z
   ·rw[z] at hk;cases hk
  obtain⟨c,hc⟩:=I.ok.has x (.inl hk)
  obtain⟨w',z⟩:=I.cell x c hc
  refine wpAny_storeName_cell I.ok.kind hk hc z (fun h' xD hs=>?_)
  obtain⟨oc,T7,Qz⟩:=id z
  refine h { s with heap:=h' } ⟨I.ok,I.vq,I.os,I.bare,⟨fun b o e n hb hx=>?_,fun b o e n hb hx=>?_,I.base.free,fun b o e hx=>?_,I.base.je,I.base.iF,I.base.jf⟩,⟨m,hn.sameBut hs (Ne.symm (Cj x c hc)),fun j y v' e1 e2 e3=>?_⟩,fun y c' e=>?_,I.free,I.eW,fun p hp=>?_,tracked ⟨oc,T7,I.eW x c hc⟩ hs,by simpa using I.len⟩ ⟨c,hs,.inr hc⟩
  ·exact (hs.2 b (ZP (ZM (ZH e) (I.ok.Fo x c Qy hc)))).trans (I.base.keep b o e n hb hx)
  ·obtain⟨sl,e1⟩:=I.base.slot b o e n hb hx
   exact⟨sl,(hs.2 b (ZP (ZM (ZH e) (I.ok.Fo x c Qy hc)))).trans e1⟩
  ·obtain⟨o',e1⟩:=I.base.there b o e hx
   exact⟨o',(hs.2 b (ZP (ZM (ZH e) (I.ok.Fo x c Qy hc)))).trans e1⟩
  ·by_cases hj:j=i
   ·subst hj
    rw[hi] at e1;cases e1
    rw[adm Mn] at e2
    cases e2
    exact⟨u,r,.inr ⟨.inl hk,c,hc,xD⟩⟩
   ·rw[adu (Ne.symm hj)] at e2
    obtain⟨u',r',q⟩:=hl j y v' e1 e2 e3
    refine⟨u',r',?_⟩
    rcases q with q|⟨k,c',e,z'⟩
    ·exact .inl q
    ·refine .inr ⟨k,c',e,z'.sameBut hs ?_⟩
     rintro rfl
     exact hj (pV hN e1 (I.ok.inj _ _ _ e hc▸hi))
  ·by_cases T8:c'=c
   ·subst T8;exact⟨_,xD⟩
   ·obtain⟨w2,z2⟩:=I.cell y c' e
    exact⟨w2,z2.sameBut hs T8⟩
  ·obtain⟨e,n,ne,nf,d⟩:=I.pin p hp
   refine⟨(hs.2 p.1 ?_).trans e,n,ne,nf,d⟩
   intro q
   rw[q,T7] at e
   have q':oc=p.2:=ZG e
   exact d w' (by rw[<- q'];exact Qz)
theorem gW {M:Model}{A:Around}{E:Value->Shared->Prop}{i:Nat}{x:Str}{v:V}{u:Value}{Q:Unit->Shared->Prop}(I:Inv X pins σ H s)(hN:X.N.Nodup)(hi:X.N[i]?=some x)(hx:Loc X.env.scope x)(r:RelV v u)
  (h:∀ s',Inv X pins (σ.set i (some v)) H s'->Q () s') (hf:X.fn x=true\/X.env.scope.names.lookup x=some .local:=by first|exact .inl rfl|exact .inr rfl|assumption):wpAny M A (storeName X.env x u) Q E s:=
 se I hN hi hx r (fun s' I' _=>h s' I') hf
theorem Inv.og {s':Shared}{ch:List Addr}(I:Inv X pins σ H s)(ho:s'.os=s.os)(u:Un (eM X.stack) ch H H' s.heap s'.heap)(bh:ki X.prog X.w H' s'.heap)(hg:AllBare s'.gens)
  (Fp:∀ b∈ch,(b∈X.ex\/X.s₀.heap.objs.size<=b)/\b≠X.env.locals/\(∀ x c,X.env.cells.lookup x=some c->c≠b)/\∀ p∈X.pn++pins,p.1≠b):Inv X pins σ H' s':=by
 obtain⟨h',g',d',t',o'⟩:=s'
 have e:o'=s.os:=ho
 subst e
 exact I.call (g':=g') (t':=t') (d':=d') u bh hg Fp
end
abbrev XK:=Value->Option Addr->Hp->Prop
abbrev St:=List (Option V)
abbrev VK:=V->Hp->Prop
abbrev TE:=St->Hp->VK->Prop
abbrev TT:=St->Hp->(Bool->Hp->Prop)->Prop
abbrev TA:=St->Hp->(List V->Hp->Prop)->Prop
structure Ends where
 nx:St->Hp->Prop
 rt:VK
 bk:St->Hp->Prop:=fun _ _=>False
 ct:St->Hp->Prop:=fun _ _=>False
abbrev TS:=Ends->St->Hp->Prop
def EP (X:Cx)(pins:List (Addr × Obj))(σ:St)(Q:VK)(u:Value)(s':Shared):Prop:=∃ v H',Inv X pins σ H' s'/\RelV v u/\Q v H'
def TP (X:Cx)(pins:List (Addr × Obj))(σ:St)(Q:Bool->Hp->Prop)(b:Bool)(s':Shared):Prop:=∃ H',Inv X pins σ H' s'/\Q b H'
def AP (X:Cx)(pins:List (Addr × Obj))(σ:St)(Q:List V->Hp->Prop)(us:List Value)(s':Shared):Prop:=∃ vs H',Inv X pins σ H' s'/\Vals vs us/\Q vs H'
def SP (X:Cx)(pins:List (Addr × Obj))(D:Ends)(f:Flow)(s':Shared):Prop:=
 match f with
 | .next=>∃ σ' H',Inv X pins σ' H' s'/\D.nx σ' H'
 | .brk=>∃ σ' H',Inv X pins σ' H' s'/\D.bk σ' H'
 | .cont=>∃ σ' H',Inv X pins σ' H' s'/\D.ct σ' H'
 | .ret u=>∃ v σ' H',Inv X pins σ' H' s'/\RelV v u/\D.rt v H'
def PE (X:Cx)(e:Expr)(t:TE):Prop:=
 ∀ (pins:List (Addr × Obj)) (s:Shared) (σ:St) (H:Hp) (Q:VK),Inv X pins σ H s->t σ H Q->wpAny (model X.prog X.w) X.A (eval e X.env) (EP X pins σ Q) X.xe s
def PT (X:Cx)(e:Expr)(t:TT):Prop:=
 ∀ (pins:List (Addr × Obj)) (s:Shared) (σ:St) (H:Hp) (Q:Bool->Hp->Prop),Inv X pins σ H s->t σ H Q->wpAny (model X.prog X.w) X.A (isTrue e X.env (eval e X.env)) (TP X pins σ Q) X.xe s
def PW (X:Cx)(e:Expr)(t:TT):Prop:=
 ∀ (whole:Sem Value) (pins:List (Addr × Obj)) (s:Shared) (σ:St) (H:Hp) (Q:Bool->Hp->Prop),Inv X pins σ H s->t σ H Q->wpAny (model X.prog X.w) X.A (isTrue e X.env whole) (TP X pins σ Q) X.xe s
theorem PW.pt {X:Cx}{e:Expr}{t:TT}(h:PW X e t):PT X e t:=h _
def PA (X:Cx)(es:List Expr)(t:TA):Prop:=
 ∀ (pos:Pos) (pins:List (Addr × Obj)) (s:Shared) (σ:St) (H:Hp) (Q:List V->Hp->Prop),Inv X pins σ H s->t σ H Q->wpAny (model X.prog X.w) X.A (spliced (backTo pos (starEach es X.env))) (AP X pins σ Q) X.xe s
def PS (X:Cx)(st:Stmt)(t:TS):Prop:=
 ∀ (pins:List (Addr × Obj)) (s:Shared) (σ:St) (H:Hp) (D:Ends),Inv X pins σ H s->t D σ H->wpAny (model X.prog X.w) X.A (exec st X.env) (SP X pins D) X.xe s
def kL (X:Cx)(st:List Stmt)(t:TS):Prop:=
 ∀ (pins:List (Addr × Obj)) (s:Shared) (σ:St) (H:Hp) (D:Ends),Inv X pins σ H s->t D σ H->wpAny (model X.prog X.w) X.A (execs st X.env) (SP X pins D) X.xe s
theorem eD {α:Type}{t:Sem α}{Q Q':α->Shared->Prop}{M:Model}{A:Around}{E:Value->Shared->Prop}{s:Shared}(h:wpAny M A t Q E s)(hQ:∀ a s,Q a s->Q' a s):wpAny M A t Q' E s:=Z2 h hQ fun _ _ x=>x
section
variable {X:Cx}
inductive Jg (i:Nat)(σ:St)(H:Hp)(Q:VK):Prop
 | mk:∀ v,(σ[i]?=some (some v))->(Q v H)->Jg i σ H Q
def tC (v:V):TE:=fun _ H Q=>Q v H
theorem Jh {i:Nat}{x:Str}{pos:Pos}(hN:X.N[i]?=some x)(hv:Ml X.env.scope x)(hd:(x==("__debug__":Str))=false:=by decide)(pD:(x==("__classdict__":Str))=false:=by decide):PE X (.Name x pos) (Jg i):=by
 intro pins s σ H Q I h
 obtain⟨v,e,h⟩:=h
 obtain⟨m,hn,hl⟩:=I.loc
 obtain⟨u,r,l⟩:=hl i x v hN e hv
 have fin:EP X pins σ Q u s:=⟨v,H,I,r,h⟩
 rcases l with ⟨hk,hm⟩|⟨hk,c,hc,oh⟩
 ·exact wpAny_Name (wpAny_loadName_local I.ok.kind hk hn hm fin) hd
 ·rcases hk with hk|hk
  ·exact wpAny_Name (wpAny_loadName_cell I.ok.kind hk hc oh fin) hd
  ·exact wpAny_Name (wpAny_loadName_free I.ok.kind hk hc oh fin pD) hd
theorem af {i j pos}:PE X (.Constant (.int i) j pos) (tC (.int i)):=fun _ _ _ H _ I h=>wpAny_Constant_int ⟨.int i,H,I.tok _,⟨_,rfl⟩,h⟩
theorem gH {b j pos}:PE X (.Constant (.bool b) j pos) (tC (.bl b)):=fun _ _ _ H _ I h=>Constant_bool ⟨.bl b,H,I,rfl,h⟩
theorem xE {j pos}:PE X (.Constant .none j pos) (tC .eB):=fun _ _ _ H _ I h=>Constant_none ⟨.eB,H,I,rfl,h⟩
theorem tG {x j pos}:PE X (.Constant (.str x) j pos) (tC (.str x)):=fun _ _ _ H _ I h=>Calls.Constant_str ⟨.str x,H,I.tok _,⟨_,rfl⟩,h⟩
def Gl (X:Cx)(x:Str):Prop:=X.env.kindOf x=some .globalImplicit
theorem eY {E:Value->Shared->Prop}{pins:List (Addr × Obj)}{s:Shared}{σ:St}{H:Hp}{x:Str}{u:Value}{pos:Pos}{Q:Value->Shared->Prop}(I:Inv X pins σ H s)(hg:Gl X x)(hm:X.mg x=some u)(h:Q u s)
  (hd:(x==("__debug__":Str))=false:=by decide):wpAny (model X.prog X.w) X.A (eval (.Name x pos) X.env) Q E s:=
 Calls.Name_function_global I.ok.kind hg (Calls.loadGlobal_global (by rw[I.ok.glob];exact I.mod.glob.keeps I.bk) hm h) hd
theorem mL {E:Value->Shared->Prop}{pins:List (Addr × Obj)}{s:Shared}{σ:St}{H:Hp}{x:Str}{u:Value}{pos:Pos}{Q:Value->Shared->Prop}(I:Inv X pins σ H s)(hg:Gl X x)(hm:X.mg x=none)(hv:bootBuiltins x=some u)(h:Q u s)
  (hn:x≠"__name__":=by decide) (hd:(x==("__debug__":Str))=false:=by decide):wpAny (model X.prog X.w) X.A (eval (.Name x pos) X.env) Q E s:=by
 obtain⟨mb,h1,h2⟩:=I.mod.blt
 exact Calls.Name_function_global I.ok.kind hg (Calls.loadGlobal_builtin (by rw[I.ok.glob];exact I.mod.glob.keeps I.bk) hm (by rw[I.ok.blt];exact h1.keeps I.bk) ((h2 x hn).trans hv) h) hd
theorem tI {x:Str}{v:V}{u:Value}{pos:Pos}(hg:Gl X x)(hm:X.mg x=some u)(r:RelV v u)(hd:(x==("__debug__":Str))=false:=by decide):PE X (.Name x pos) (tC v):=
 fun _ _ _ H _ I h=>eY I hg hm ⟨v,H,I,r,h⟩ hd
theorem lR {x:Str}{v:V}{u:Value}{pos:Pos}(hg:Gl X x)(hm:X.mg x=none)(hv:bootBuiltins x=some u)(r:RelV v u)(hn:x≠"__name__":=by decide)(hd:(x==("__debug__":Str))=false:=by decide):PE X (.Name x pos) (tC v):=
 fun _ _ _ H _ I h=>mL I hg hm hv ⟨v,H,I,r,h⟩ hn hd
variable {a b:Expr}{ta tb:TE}{pos:Pos}
inductive T9 (Q:Bool->Hp->Prop)(x:V)(H1:Hp):Prop
 | mk:∀ c,(x=.bl c)->(Q c H1)->T9 Q x H1
def tB (t:TE):TT:=fun σ H Q=>t σ H fun x H1=>T9 Q x H1
theorem fA {e:Expr}{t:TE}(h:PE X e t)(he:∀ whole,isTrue e X.env whole=(do let v <- whole;standAt e.pos;holding [v] (truthy v)):=by intro _;rfl):PT X e (tB t):=by
 intro pins s σ H Q I hw
 refine isTrue_plain (eD (h pins s σ H _ I hw) fun v s1 ⟨x,H1,I1,r1,q1⟩=>?_) (he _)
 obtain⟨d,rfl,q⟩:=q1
 cases r1
 exact aca ⟨H1,I1,q⟩
variable {tA Ph:TT}{rest:List Expr}
def QA (t u:TT):TT:=fun σ H Q=>t σ H fun c H1=>if c=true then u σ H1 Q else Q false H1
def Vz (t u:TT):TT:=fun σ H Q=>t σ H fun c H1=>if c=true then Q true H1 else u σ H1 Q
def QB (t:TT):TT:=fun σ H Q=>t σ H fun c H1=>Q (!c) H1
theorem jg (ha:PT X a tA):PW X (.BoolOp .And [a] pos) tA:=by
 intro wh pins s σ H Q I h
 refine isTrue_and (eD (ha pins s σ H Q I h) fun c s1 e=>?_)
 cases c with
 | true=>exact isTrue_and_nil e
 | false=>exact e
theorem tJ (ha:PT X a tA):PW X (.BoolOp .Or [a] pos) tA:=by
 intro wh pins s σ H Q I h
 refine isTrue_or (eD (ha pins s σ H Q I h) fun c s1 e=>?_)
 cases c with
 | false=>exact isTrue_or_nil e
 | true=>exact e
theorem kR (ha:PT X a tA)(hb:PW X (.BoolOp .And (b::rest) pos) Ph):PW X (.BoolOp .And (a::b::rest) pos) (QA tA Ph):=by
 intro wh pins s σ H Q I h
 refine isTrue_and (eD (ha pins s σ H _ I h) fun c s1 ⟨H1,I1,q1⟩=>?_)
 cases c with
 | true=>exact hb wh pins s1 σ H1 Q I1 q1
 | false=>exact⟨H1,I1,q1⟩
theorem zj (ha:PT X a tA)(hb:PW X (.BoolOp .Or (b::rest) pos) Ph):PW X (.BoolOp .Or (a::b::rest) pos) (Vz tA Ph):=by
 intro wh pins s σ H Q I h
 refine isTrue_or (eD (ha pins s σ H _ I h) fun c s1 ⟨H1,I1,q1⟩=>?_)
 cases c with
 | true=>exact⟨H1,I1,q1⟩
 | false=>exact hb wh pins s1 σ H1 Q I1 q1
theorem kT (ha:PT X a tA):PT X (.UnaryOp .Not a pos) (QB tA):=by
 intro pins s σ H Q I h
 exact isTrue_not (ha pins s σ H (fun c H1=>Q (!c) H1) I h)
inductive Ck (tb:TE)(σ:St)(Q:VK)(x:V)(H1:Hp):Prop
 | mk:∀ c,(x=.bl c)->(if c=true then tb σ H1 Q else Q (.bl false) H1)->Ck tb σ Q x H1
def Mo (ta tb:TE):TE:=fun σ H Q=>ta σ H fun x H1=>Ck tb σ Q x H1
inductive Hy (tb:TE)(σ:St)(Q:VK)(x:V)(H1:Hp):Prop
 | mk:∀ c,(x=.bl c)->(if c=true then Q (.bl true) H1 else tb σ H1 Q)->Hy tb σ Q x H1
def QC (ta tb:TE):TE:=fun σ H Q=>ta σ H fun x H1=>Hy tb σ Q x H1
inductive Cm (Q:VK)(x:V)(H1:Hp):Prop
 | mk:∀ c,(x=.bl c)->(Q (.bl (!c)) H1)->Cm Q x H1
def Mp (ta:TE):TE:=fun σ H Q=>ta σ H fun x H1=>Cm Q x H1
theorem mM {op}{t:TE}(h:PE X a t):PE X (.BoolOp op [a] pos) t:=fun pins s σ H Q I hw=>BoolOp_one (h pins s σ H Q I hw)
theorem tK (ha:PE X a ta)(hb:PE X (.BoolOp .And (b::rest) pos) tb):PE X (.BoolOp .And (a::b::rest) pos) (Mo ta tb):=by
 intro pins s σ H Q I h
 refine BoolOp_and (eD (ha pins s σ H _ I h) fun v s1 ⟨x,H1,I1,r1,q1⟩=>?_)
 obtain⟨c,rfl,q1⟩:=q1
 cases r1
 refine aca ?_
 cases c with
 | true=>exact hb pins s1 σ H1 Q I1 q1
 | false=>exact⟨.bl false,H1,I1,rfl,q1⟩
theorem Hz (ha:PE X a ta)(hb:PE X (.BoolOp .Or (b::rest) pos) tb):PE X (.BoolOp .Or (a::b::rest) pos) (QC ta tb):=by
 intro pins s σ H Q I h
 refine BoolOp_or (eD (ha pins s σ H _ I h) fun v s1 ⟨x,H1,I1,r1,q1⟩=>?_)
 obtain⟨c,rfl,q1⟩:=q1
 cases r1
 refine aca ?_
 cases c with
 | false=>exact hb pins s1 σ H1 Q I1 q1
 | true=>exact⟨.bl true,H1,I1,rfl,q1⟩
theorem Ji (ha:PE X a ta):PE X (.UnaryOp .Not a pos) (Mp ta):=by
 intro pins s σ H Q I h
 refine UnaryOp_ (eD (ha pins s σ H _ I h) fun v s1 ⟨x,H1,I1,r1,q1⟩=>?_)
 obtain⟨c,rfl,q1⟩:=q1
 cases r1
 exact not_of (aca ⟨.bl (!c),H1,I1,rfl,q1⟩)
def VA (t:TT)(ta tb:TE):TE:=fun σ H Q=>t σ H fun c H1=>if c=true then ta σ H1 Q else tb σ H1 Q
theorem jH {c:Expr}(hc:PT X c tA)(ha:PE X a ta)(hb:PE X b tb):PE X (.IfExp c a b pos) (VA tA ta tb):=by
 intro pins s σ H Q I h
 refine wpAny_IfExp (eD (hc pins s σ H _ I h) fun d s1 ⟨H1,I1,q1⟩=>?_)
 cases d with
 | true=>exact ha pins s1 σ H1 Q I1 q1
 | false=>exact hb pins s1 σ H1 Q I1 q1
end
def aR (K:W.Frag)(H:Hp)(a:Addr)(xs:List V):Prop:=
 Rd H a (.lst xs) \/
  ∃ (o:Obj) (aH:Array Value) (n:Nat),K.lookup a=some o/\o.cls=.type "list"/\o.dict=none/\o.data=.seq aH n/\aH.size<=sizeLine/\Vals xs aH.toList
def aO (K:W.Frag)(H:Hp)(a:Addr)(xs:List V):Prop:=
 Rd H a (.tup xs) \/
  ∃ (o:Obj) (aH:Array Value) (n:Nat),K.lookup a=some o/\o.cls=.type "tuple"/\o.data=.seq aH n/\aH.size<=sizeLine/\Vals xs aH.toList
def QD:Value->Option V
 | .none=>some .eB
 | .bool b=>some (.bl b)
 | .int i _=>some (.int i)
 | .str x _=>some (.str x)
 | .bytes b _=>some (.zh b)
 | .float b _=>some (.FD b)
 | .ref a=>some (.ref a)
 | .type n=>some (.ty n)
 | _=>none
theorem RelV.abs {x:V}{u:Value}(r:RelV x u):QD u=some x:=by
 cases x with
 | eB=>cases r;rfl
 | bl _=>cases r;rfl
 | int _=>obtain⟨t,rfl⟩:=r;rfl
 | str _=>obtain⟨t,rfl⟩:=r;rfl
 | zh _=>obtain⟨t,rfl⟩:=r;rfl
 | FD _=>obtain⟨t,rfl⟩:=r;rfl
 | ref _=>cases r;rfl
 | ty _=>cases r;rfl
theorem RelV.inj {x y:V}{u:Value}(r:RelV x u)(q:RelV y u):x=y:=ZG (r.abs.symm.trans q.abs)
theorem Vals.inj:∀ {xs ys:List V}{us:List Value},Vals xs us->Vals ys us->xs=ys
 | _,_,_,.nil,.nil=>rfl
 | _,_,_,.cons r t,.cons r' t'=>by rw[r.inj r',Vals.inj t t']
section
variable {X:Cx}{pins:List (Addr × Obj)}{σ:St}{H:Hp}{s:Shared}{a:Addr}{xs ys:List V}
theorem aR.of {K:W.Frag}(h:H a=some (.lst xs)):aR K H a xs:=.inl (.inl h)
theorem aO.of {K:W.Frag}(h:H a=some (.tup xs)):aO K H a xs:=.inl (.inl h)
theorem Inv.list (I:Inv X pins σ H s)(h:aR X.K H a xs):∃ aH:List Value,Vals xs aH/\PlainL s.heap a aH.toArray/\xs.length<=sizeLine:=by
 rcases h with h|⟨o,aH,n,hk,hc,hd,hs,hz,r⟩
 ·obtain⟨z,aH,n,r,e⟩:=h.ok I.bh
  exact⟨aH,r,⟨_,n,e,rfl,rfl,rfl⟩,z⟩
 ·refine⟨aH.toList,r,⟨o,n,I.jw a o hk,hc,hd,by simpa using hs⟩,?_⟩
  have e:=r.length
  simp only[aac] at e
  omega
theorem Inv.tuple (I:Inv X pins σ H s)(h:aO X.K H a xs):∃ aH:List Value,Vals xs aH/\IsTup s.heap a aH.toArray/\xs.length<=sizeLine:=by
 rcases h with h|⟨o,aH,n,hk,hc,hs,hz,r⟩
 ·obtain⟨z,aH,r,p⟩:=h.ok I.bh
  exact⟨aH,r,p,z⟩
 ·refine⟨aH.toList,r,⟨o,I.jw a o hk,hc,n,by simpa using hs⟩,?_⟩
  have e:=r.length
  simp only[aac] at e
  omega
theorem Inv.Cn (I:Inv X pins σ H s)(h:aR X.K H a xs)(h':aR X.K H a ys):xs=ys:=by
 obtain⟨aH,r,⟨o,n,e,_,_,d⟩,_⟩:=I.list h
 obtain⟨its',r',⟨o',n',e',_,_,d'⟩,_⟩:=I.list h'
 rw[e] at e';cases e'
 rw[d] at d'
 injection d' with d1 _
 have:aH=its':=by simpa using aai Array.toList d1
 subst this
 exact r.inj r'
theorem Inv.mO (I:Inv X pins σ H s)(h:aO X.K H a xs)(h':aO X.K H a ys):xs=ys:=by
 obtain⟨aH,r,⟨o,e,_,n,d⟩,_⟩:=I.tuple h
 obtain⟨its',r',⟨o',e',_,n',d'⟩,_⟩:=I.tuple h'
 rw[e] at e';cases e'
 rw[d] at d'
 injection d' with d1 _
 have:aH=its':=by simpa using aai Array.toList d1
 subst this
 exact r.inj r'
end
abbrev Cx.kU (X:Cx)(E:Value->Shared->Prop):Cx:={ X with xe:=E }
abbrev Cx.vt (X:Cx):Cx:=X.kU fun _ _=>False
theorem Cx.Ok.kU {X:Cx}(ok:X.Ok)(E:Value->Shared->Prop):(X.kU E).Ok:=
 ⟨ok.mod,ok.kind,ok.glob,ok.blt,ok.above,ok.inj,ok.has,ok.Fo,ok.hd,ok.hs,ok.frames,ok.FF,ok.Jf,ok.bs,ok.vn,ok.pT,ok.tF,ok.jy,ok.pU⟩
theorem Cx.Ok.gf {X:Cx}{E:Value->Shared->Prop}(ok:(X.kU E).Ok):X.Ok:=
 ⟨ok.mod,ok.kind,ok.glob,ok.blt,ok.above,ok.inj,ok.has,ok.Fo,ok.hd,ok.hs,ok.frames,ok.FF,ok.Jf,ok.bs,ok.vn,ok.pT,ok.tF,ok.jy,ok.pU⟩
section
variable {X:Cx}{pins:List (Addr × Obj)}{σ:St}{H:Hp}{s:Shared}{E:Value->Shared->Prop}
theorem Inv.kU (I:Inv X pins σ H s)(E:Value->Shared->Prop):Inv (X.kU E) pins σ H s:=⟨I.ok.kU E,I.vq,I.os,I.bare,I.base,I.loc,I.cell,I.free,I.eW,I.pin,I.bh,I.len⟩
theorem Inv.gf (I:Inv (X.kU E) pins σ H s):Inv X pins σ H s:=⟨I.ok.gf,I.vq,I.os,I.bare,I.base,I.loc,I.cell,I.free,I.eW,I.pin,I.bh,I.len⟩
theorem SP.gf {D:Ends}{f:Flow}{s':Shared}(h:SP (X.kU E) pins D f s'):SP X pins D f s':=by
 cases f with
 | next=>obtain⟨σ',H',I,q⟩:=h;exact⟨σ',H',I.gf,q⟩
 | brk=>obtain⟨σ',H',I,q⟩:=h;exact⟨σ',H',I.gf,q⟩
 | cont=>obtain⟨σ',H',I,q⟩:=h;exact⟨σ',H',I.gf,q⟩
 | ret u=>obtain⟨v,σ',H',I,r,q⟩:=h;exact⟨v,σ',H',I.gf,r,q⟩
theorem kL.vt {st:List Stmt}{t:TS}(h:kL X.vt st t):kL X st t:=fun pins s σ H D I hw=>
 Z2 (h pins s σ H D (I.kU _) hw) (fun _ _ q=>q.gf) fun _ _ z=>False.elim z
end
section
variable {X:Cx}{st:Stmt}{rest:List Stmt}{t u:TS}{e:Expr}{te:TE}{pos:Pos}
def Mq:TS:=fun D σ H=>D.nx σ H
def QE (t u:TS):TS:=fun D σ H=>t { D with nx:=u D } σ H
theorem aK:kL X [] Mq:=fun _ _ σ H _ I h=>acx ⟨σ,H,I,h⟩
theorem ai (h1:PS X st t)(h2:kL X rest u):kL X (st::rest) (QE t u):=by
 intro pins s σ H D I h
 refine adv (eD (h1 pins s σ H { D with nx:=u D } I h) fun f s1 q=>?_)
 cases f with
 | next=>
  obtain⟨σ',H',I',q⟩:=q
  exact h2 pins s1 σ' H' D I' q
 | ret v=>exact q
 | brk=>exact q
 | cont=>exact q
theorem aq (h1:PS X st t):kL X [st] t:=by
 intro pins s σ H D I h
 refine adv (eD (h1 pins s σ H D I h) fun f s1 q=>?_)
 cases f with
 | next=>exact acx q
 | ret v=>exact q
 | brk=>exact q
 | cont=>exact q
theorem Inv.quiet {pins:List (Addr × Obj)}{σ:St}{H:Hp}{s:Shared}(I:Inv X pins σ H s):interactive X.env=false:=by simp[interactive,I.ok.kind]
def Mr (te:TE):TS:=fun D σ H=>te σ H fun _ H1=>D.nx σ H1
theorem km (he:PE X e te)(hs:swapsWith e none pos.line X.env=pure false:=by rfl):PS X (.Expr e pos) (Mr te):=by
 intro pins s σ H D I h
 exact wpAny_Expr_any (eD (he pins s σ H _ I h) fun v s1 ⟨x,H1,I1,r1,q1⟩=>⟨σ,H1,I1,q1⟩) I.quiet hs
def QF (te:TE):TS:=fun D σ H=>te σ H D.rt
theorem aE (he:PE X e te):PS X (.Return (some e) pos) (QF te):=by
 intro pins s σ H D I h
 exact wpAny_Return_some (eD (he pins s σ H _ I h) fun v s1 ⟨x,H1,I1,r1,q1⟩=>⟨x,σ,H1,I1,r1,q1⟩)
def QG (c:TT)(t u:TS):TS:=fun D σ H=>c σ H fun b H1=>if b=true then t D σ H1 else u D σ H1
theorem aY {c:Expr}{a b:List Stmt}{tc:TT}(hc:PT X c tc)(ha:kL X a t)(hb:kL X b u):PS X (.If c a b pos) (QG tc t u):=by
 intro pins s σ H D I h
 refine wpAny_If (eD (hc pins s σ H _ I h) fun d s1 ⟨H1,I1,q1⟩=>?_)
 cases d with
 | true=>exact ha pins s1 σ H1 D I1 q1
 | false=>exact hb pins s1 σ H1 D I1 q1
def Jj:TS:=fun _ _ _=>False
theorem iR {VB:List Stmt}:kL X VB Jj:=fun _ _ _ _ _ _ h=>h.elim
end
abbrev TG:=V->St->Hp->(St->Hp->Prop)->Prop
abbrev FG:=List V->St->Hp->(St->Hp->Prop)->Prop
def PG (X:Cx)(target:Expr)(t:TG):Prop:=
 ∀ (pins:List (Addr × Obj)) (s:Shared) (σ:St) (H:Hp) (v:V) (u:Value) (Q:St->Hp->Prop),Inv X pins σ H s->RelV v u->t v σ H Q ->
  wpAny (model X.prog X.w) X.A (assign target X.env u) (fun _ s'=>∃ σ' H',Inv X pins σ' H' s'/\Q σ' H') X.xe s
def LD (X:Cx)(ts:List Expr)(t:FG):Prop:=
 ∀ (pins:List (Addr × Obj)) (s:Shared) (σ:St) (H:Hp) (vs:List V) (us:List Value) (Q:St->Hp->Prop),Inv X pins σ H s->Vals vs us->t vs σ H Q ->
  wpAny (model X.prog X.w) X.A (assignInOrder ((assignEach ts X.env).map (·.2)) us) (fun _ s'=>∃ σ' H',Inv X pins σ' H' s'/\Q σ' H') X.xe s
abbrev Jk:=V->V->V->Hp->(Hp->Prop)->Prop
def Mt (X:Cx)(t:Jk):Prop:=
 ∀ (pins:List (Addr × Obj)) (s:Shared) (σ:St) (H:Hp) (o i v:V) (ov iv u:Value) (Q:Hp->Prop),Inv X pins σ H s->RelV o ov->RelV i iv->RelV v u->t o i v H Q ->
  wpAny (model X.prog X.w) X.A (setItem ov iv u) (fun _ s'=>∃ H',Inv X pins σ H' s'/\Q H') X.xe s
section
variable {X:Cx}{pos:Pos}
def pW (i:Nat):TG:=fun v σ H Q=>Q (σ.set i (some v)) H
theorem pE {i:Nat}{x:Str}(hN:X.N.Nodup)(hi:X.N[i]?=some x)(hx:Loc X.env.scope x)(hf:X.fn x=true\/X.env.scope.names.lookup x=some .local:=by first|exact .inl rfl|exact .inr rfl|assumption):PG X (.Name x pos) (pW i):=by
 intro pins s σ H v u Q I r h
 exact wpAny_assign_Name (gW I hN hi hx r (fun s' I'=>⟨_,H,I',h⟩) hf)
def Mu:FG:=fun vs σ H Q=>vs=[]/\Q σ H
inductive zk (t:TG)(u:FG)(vs:List V)(σ:St)(H:Hp)(Q:St->Hp->Prop):Prop
 | mk:∀ v r,(vs=v::r)->(t v σ H fun σ' H'=>u r σ' H' Q)->zk t u vs σ H Q
theorem kq:LD X [] Mu:=by
 intro pins s σ H vs us Q I r h
 obtain⟨e,h⟩:=h
 subst e
 cases r
 exact assignInOrder_nil ⟨σ,H,I,h⟩
theorem cM {e:Expr}{es:List Expr}{t:TG}{u:FG}(h1:PG X e t)(h2:LD X es u)
  (hs:(assignEach (e::es) X.env).map (·.2)=assign e X.env::(assignEach es X.env).map (·.2):=by rfl):LD X (e::es) (zk t u):=by
 intro pins s σ H vs us Q I r h
 obtain⟨v,vr,e1,h⟩:=h
 subst e1
 cases r with
 | cons r rr=>
  rw[hs]
  refine aei (eD (h1 pins s σ H _ _ _ I r h) fun _ s1 ⟨σ1,H1,I1,q1⟩=>?_)
  exact h2 pins s1 σ1 H1 _ _ Q I1 rr q1
inductive FH (K:W.Frag)(n:Nat)(t:FG)(v:V)(σ:St)(H:Hp)(Q:St->Hp->Prop):Prop
 | mk:∀ a xs,(v=.ref a)->(aO K H a xs)->(xs.length=n)->(t xs σ H Q)->FH K n t v σ H Q
theorem Co {es:List Expr}{k:Nat}{t:FG}{n:Nat}(hc:X.cb=true)(h:LD X es t)
  (hn:(assignEach es X.env).length=n:=by rfl) (mE:(assignEach es X.env).findIdx? (·.1)=none:=by rfl):PG X (.Tuple es k pos) (FH X.K n t):=by
 intro pins s σ H v u Q I r hw
 obtain⟨a,xs,e1,hq,hl,hw⟩:=hw
 subst e1
 cases r
 obtain⟨aH,rv,ht,hz⟩:=I.tuple hq
 refine kQ (I.Hv hc) ht (by simp[hn,<- hl,rv.length]) mE fun h' hx=>?_
 have I1:Inv X pins σ H { s with heap:=h' }:=I.kept (t':=s.toks) fun b o e=>hx b o (ZP (ZH e)) e
 exact h pins _ σ H xs _ Q I1 (by simpa using rv) hw
def QH (to ti:TE)(t:Jk):TG:=fun v σ H Q=>to σ H fun o H1=>ti σ H1 fun i H2=>t o i v H2 fun H3=>Q σ H3
theorem mQ {o i:Expr}{to ti:TE}{t:Jk}(ho:PE X o to)(hi:PE X i ti)(hs:Mt X t)
  (ha:∀ v,assign (.Subscript o i pos) X.env v=(do
   let ov <- holding [v] (eval o X.env)
   let iv <- holding [v,ov] (eval i X.env)
   standAt pos
   holding [v,ov,iv] (setItem ov iv v)
   release [v,ov,iv] []):=by intro _;rfl):PG X (.Subscript o i pos) (QH to ti t):=by
 intro pins s σ H v u Q I r h
 rw[ha]
 refine ZD (aaj (eD (ho pins s σ H _ I h) fun ov s1 ⟨x,H1,I1,r1,q1⟩=>?_))
 refine ZD (aaj (eD (hi pins s1 σ H1 _ I1 q1) fun iv s2 ⟨y,H2,I2,r2,q2⟩=>?_))
 refine ZD (aba (ZD (aaj (eD (hs pins s2 σ H2 x y v ov iv u _ I2 r1 r2 r q2) fun _ s3 ⟨H3,I3,q3⟩=>?_))))
 exact wpAny_release ⟨σ,H3,I3,q3⟩
def Jl (te:TE)(g:TG):TS:=fun D σ H=>te σ H fun x H1=>g x σ H1 D.nx
theorem jI {tg e:Expr}{te:TE}{g:TG}(he:PE X e te)(hg:PG X tg g)(hs:swapsWithSole [tg] e pos.line X.env=pure false:=by rfl)(hw:swappedStores [tg] e X.env=pure none:=by rfl)
  (h1:(assignEach [tg] X.env).map (·.2)=[assign tg X.env]:=by rfl):PS X (.Assign [tg] e pos) (Jl te g):=by
 intro pins s σ H D I h
 refine wpAny_Assign_stores (eD (he pins s σ H _ I h) fun v s1 ⟨x,H1,I1,r1,q1⟩=>?_) hs hw
 rw[h1]
 exact eD (hg pins s1 σ H1 x v _ I1 r1 q1) fun _ s2 q=>q
theorem Jm {i:Nat}{x:Str}{e:Expr}{te:TE}{pos':Pos}(hN:X.N.Nodup)(hi:X.N[i]?=some x)(hx:Loc X.env.scope x)(he:PE X e te)(hs:swapsWith e (some (.Name x pos')) pos.line X.env=pure false:=by rfl)(hf:X.fn x=true\/X.env.scope.names.lookup x=some .local:=by first|exact .inl rfl|exact .inr rfl|assumption) :
  PS X (.Assign [.Name x pos'] e pos) (Jl te (pW i)):=by
 intro pins s σ H D I h
 refine wpAny_Assign_Name (eD (he pins s σ H _ I h) fun v s1 ⟨y,H1,I1,r1,q1⟩=>?_) hs
 exact gW I1 hN hi hx r1 (fun s2 I2=>⟨_,H1,I2,q1⟩) hf
inductive HA (i:Nat)(j:Nat)(D:Ends)(σ:St)(vs:List V)(H1:Hp):Prop
 | mk:∀ v w,(vs=[v,w])->(D.nx ((σ.set i (some v)).set j (some w)) H1)->HA i j D σ vs H1
def QI (i j:Nat)(ta:TA):TS:=fun D σ H=>ta σ H fun vs H1=>HA i j D σ vs H1
theorem Jn {i j:Nat}{x y:Str}{a b:Expr}{ta:TA}{px py pt:Pos}{kt k2 QJ}(hc:X.cb=true)(hN:X.N.Nodup)(hi:X.N[i]?=some x)(hj:X.N[j]?=some y)(xF:i≠j)
  (hx:X.env.scope.names.lookup x=some .local) (hy:X.env.scope.names.lookup y=some .local) (ha:PA X [a,b] ta)
  (hw:swappedStores [.Tuple [.Name x px,.Name y py] kt pt] (.Tuple [a,b] k2 QJ) X.env=pure (some [x,y]))
  (hs:swapsWithSole [.Tuple [.Name x px,.Name y py] kt pt] (.Tuple [a,b] k2 QJ) pos.line X.env=pure false:=by rfl) :
  PS X (.Assign [.Tuple [.Name x px,.Name y py] kt pt] (.Tuple [a,b] k2 QJ) pos) (QI i j ta):=by
 intro pins s σ H D I h
 rw[exec_Assign_arm]
 refine ZD (aba ?_)
 rw[hs]
 refine ZD (ZF ?_)
 rw[Z4 (by decide)]
 refine ZD (Tuple_ (eD (ha _ pins s σ H _ I h) fun us s1 ⟨vs,H1,I1,r1,q1⟩=>?_))
 obtain⟨v,w,e1,q1⟩:=q1
 subst e1
 obtain⟨u1,u2,rfl,rv,HB⟩:∃ u1 u2,us=[u1,u2]/\RelV v u1/\RelV w u2:=by
  cases r1 with
  | cons p q=>
   cases q with
   | cons p' q'=>
    cases q'
    exact⟨_,_,rfl,p,p'⟩
 refine aa0 ?_ (by show 2<=sizeLine;decide)
 have I2:Inv X pins σ H1 { s1 with heap:=s1.heap.push { cls:=.type "tuple",data:=.seq [u1,u2].toArray } }:=I1.kept (t':=s1.toks) fun b o e=>ZE _ e
 rw[hw]
 refine ZD (ZF ?_)
 show wpAny (model X.prog X.w) X.A (do rule "assign.swapped-stores";let items <- unpackItems (.ref s1.heap.objs.size) 2 none;assignInOrder [fun v=>bindName X.env y v,fun v=>bindName X.env x v] items.reverse;pure Flow.next) _ _ _
 refine ZD (abK (ZD (ip (items:=#[u1,u2]) (I2.Hv hc) (IsTup.new s1.heap _) fun h' vw=>?_)))
 have I3:=I2.kept (h':=h') (t':=s1.toks) fun b o e=>vw b o (ZP (ZH e)) e
 show wpAny _ _ (assignInOrder [fun v=>bindName X.env y v,fun v=>bindName X.env x v] [u2,u1] >>= fun _=>pure Flow.next) _ _ _
 refine ZD (aei (wpAny_bindName (gW I3 hN hj (.inl hy) HB (fun s2 I4=>?_) (.inr hy))))
 refine aei (wpAny_bindName (gW I4 hN hi (.inl hx) rv (fun s3 I5=>assignInOrder_nil (ZF ?_)) (.inr hx)))
 rw[List.set_comm _ _ (Ne.symm xF)] at I5
 exact⟨_,H1,I5,q1⟩
end
section
variable {X:Cx}{pos:Pos}
inductive Cp (c:TT)(tb:TS)(D:Ends)(σ:St)(H:Hp):Prop
 | mk:∀ (W:Nat->St->Hp->Prop),((∃ m,W m σ H))->(∀ m σ H,W m σ H ->
 c σ H fun b H1=>if b=true then ∃ N:St->Hp->Prop,(∀ σ' H',N σ' H'->∃ m',m'<m/\W m' σ' H')/\tb { D with nx:=N,ct:=N,bk:=D.nx } σ H1 else D.nx σ H1)->Cp c tb D σ H
theorem dE {c:Expr}{body:List Stmt}{tc:TT}{tb:TS}(hp:PassesOwn (model X.prog X.w) X.A X.env X.xe)(hc:PT X c tc)(hb:kL X body tb):PS X (.While c body [] pos) (Cp tc tb):=by
 intro pins s σ H D I h
 obtain⟨W,⟨m0,w0⟩,turn⟩:=h
 refine wpAny_While (codeAny_whileLoop (fun n s'=>∃ σ' H',Inv X pins σ' H' s'/\W n σ' H') ?_ m0 ⟨σ,H,I,w0⟩)
 rintro n s1 ⟨σ1,H1,I1,w1⟩
 refine ab5 hp (eD (hc pins s1 σ1 H1 _ I1 (turn n σ1 H1 w1)) fun b s2 ⟨H2,I2,q2⟩=>?_)
 cases b with
 | true=>
  obtain⟨N,hN,q2⟩:=q2
  rw[aag rfl]
  refine ab5 hp (eD (hb pins s2 σ1 H2 _ I2 q2) fun f s3 q3=>?_)
  cases f with
  | next=>
   obtain⟨σ3,H3,I3,n3⟩:=q3
   obtain⟨m',hm,w3⟩:=hN σ3 H3 n3
   exact⟨m',hm,σ3,H3,I3,w3⟩
  | cont=>
   obtain⟨σ3,H3,I3,n3⟩:=q3
   obtain⟨m',hm,w3⟩:=hN σ3 H3 n3
   exact⟨m',hm,σ3,H3,I3,w3⟩
  | brk=>exact q3
  | ret v=>exact q3
 | false=>
  rw[Z4 ZJ]
  exact acx ⟨σ1,H2,I2,q2⟩
end
structure It where
 go:Nat->Hp->Prop
 zm:Nat->Hp->V->Hp->Prop
 stop:Nat->Hp->Prop
def kI (X:Cx)(pins:List (Addr × Obj))(H:Hp)(b:Addr):Prop:=
 H b=none/\b≠X.env.locals/\b∉X.fs/\(b∈X.ex\/X.s₀.heap.objs.size<=b)/\(∀ x c,X.env.cells.lookup x=some c->c≠b)/\∀ p∈X.pn++pins,p.1≠b
theorem Inv.AN {X:Cx}{pins:List (Addr × Obj)}{σ:St}{H H':Hp}{s:Shared}{b:Addr}(I:Inv X pins σ H s)(hb:s.heap.objs.size<=b)(hn:H' b=none):kI X pins H' b:=by
 refine⟨hn,ace (ZM I.lt hb),I.Qu hb,.inr (ZV I.sz hb),fun x c e z=>?_,fun p hp z=>?_⟩
 ·obtain⟨v,q⟩:=I.cell x c e
  exact absurd (ZM q.lt (by rw[z];exact hb)) (aaT _)
 ·exact absurd (ZM (ZH (I.pin p hp).1) (by rw[z];exact hb)) (aaT _)
structure Turn (P:Program)(w:World)(K:W.Frag)(tg:Expr)(J:It)(fp:List Addr)(it:Addr)(tn:Nat->Heap->Prop):Prop where
 mem:it∈fp
 obj:∀ i h,tn i h->∀ b∈fp,∃ o,h.get? b=some o/\∀ v,o.data≠.cell v
 keep:∀ i h h',tn i h->(∀ b∈fp,∀ o,h.get? b=some o->h'.get? b=some o)->tn i h'
 item:∀ (X:Cx),X.prog=P->X.w=w->X.K=K->X.cb=true->∀ (i:Nat) (pins:List (Addr × Obj)) (s:Shared) (σ:St) (H:Hp) (E:Value->Shared->Prop),Inv X pins σ H s->(∀ b∈fp,kI X pins H b)->tn i s.heap->J.go i H ->
  wpAny (model P w) X.A (pyNext (.ref it)) (fun r s1=>∃ u,r=some u /\
   wpAny (model P w) X.A (letOwnedTupleGo tg (.ref it) u) (fun _ s2=>∃ x H',Inv X pins σ H' s2/\RelV x u/\J.zm i H x H'/\tn (i+1) s2.heap/\∀ b∈fp,H' b=none) E s1) E s
 done:∀ (X:Cx),X.prog=P->X.w=w->X.K=K->X.cb=true->∀ (i:Nat) (pins:List (Addr × Obj)) (s:Shared) (σ:St) (H:Hp) (E:Value->Shared->Prop),Inv X pins σ H s->(∀ b∈fp,kI X pins H b)->tn i s.heap->J.stop i H ->
  wpAny (model P w) X.A (pyNext (.ref it)) (fun r s1=>r=none/\Inv X pins σ H s1) E s
 self:∀ (A:Around) (i:Nat) (s:Shared) (Q:Value->Shared->Prop) (E:Value->Shared->Prop),tn i s.heap->Q (.ref it) s->wpAny (model P w) A (pyIter (.ref it)) Q E s
abbrev TI:=St->Hp->(It->Hp->Prop)->Prop
def Ua (X:Cx)(pins:List (Addr × Obj))(σ:St)(tg:Expr)(R:It->Hp->Prop)(Pj:Value)(s2:Shared):Prop:=
 ∃ (it:Addr) (fp:List Addr) (tn:Nat->Heap->Prop) (J:It) (H':Hp),Pj=.ref it/\Inv X pins σ H' s2/\Turn X.prog X.w X.K tg J fp it tn/\tn 0 s2.heap/\(∀ b∈fp,kI X pins H' b)/\R J H'
def PI (X:Cx)(tg iter:Expr)(wi:TI):Prop:=
 ∀ (pins:List (Addr × Obj)) (s:Shared) (σ:St) (H:Hp) (R:It->Hp->Prop),Inv X pins σ H s->wi σ H R ->
  wpAny (model X.prog X.w) X.A (eval iter X.env) (fun v s1=>wpAny (model X.prog X.w) X.A (pyIter v) (Ua X pins σ tg R) X.xe s1) X.xe s
theorem Cq {M : Model} {A : Around} {E : Value -> Shared -> Prop} {s : Shared} {tg : Expr} {it : Addr} {u : Value} {o : Obj} {n : String} {vs : Array Value} {Q : Unit -> Shared -> Prop} (ho : s.heap.get? it = some o) (hc : o.cls = .type n) (hd : o.data = .fields vs)
    (hn : ["enumerate", "zip", "dict_itemiterator", "dict_reverseitemiterator", "odict_iterator", "itertools.zip_longest", "itertools.pairwise"].contains n = false) (hQ : Q () s) : wpAny M A (letOwnedTupleGo tg (.ref it) u) Q E s := by
  unfold letOwnedTupleGo
  cases tg <;> first
    | exact ZF hQ
    | (cases u <;> first
        | exact ZF hQ
        | (refine ZD (wpAny_load ho ?_)
           rw [hc, hd]
           show wpAny M A (if (["enumerate", "zip", "dict_itemiterator", "dict_reverseitemiterator", "odict_iterator", "itertools.zip_longest", "itertools.pairwise"].contains n && vs[0]? == some (rawInt _)) = true then _ else _) Q E s
           rw [Z4 (by intro h; rw [hn, Bool.false_and] at h; cases h)]
           exact ZF hQ))
def Fq (K:W.Frag)(a:Addr):It:=
 ⟨fun i H=>∃ xs x,aR K H a xs/\xs[i]?=some x,fun i H x H'=>H'=H/\∀ xs,aR K H a xs->xs[i]?=some x,fun i H=>∃ xs,aR K H a xs/\xs.length<=i⟩
def Fs (K:W.Frag)(a:Addr):It:=
 ⟨fun i H=>∃ xs x,aO K H a xs/\xs[i]?=some x,fun i H x H'=>H'=H/\∀ xs,aO K H a xs->xs[i]?=some x,fun i H=>∃ xs,aO K H a xs/\xs.length<=i⟩
def HC (lo:Int)(n:Nat):It:=⟨fun i _=>i<n,fun i H x H'=>H'=H/\x=.int (lo+i),fun i _=>n<=i⟩
theorem si {P:Program}{w:World}{K:W.Frag}{tg:Expr}(a it:Addr):Turn P w K tg (Fq K a) [it] it (fun i h=>h.IsListIter it a i) where
 mem:=by simp
 obj:=fun i h st b hb=>by
  have e:b=it:=by simpa using hb
  subst e
  obtain⟨o,e,c,d⟩:=st
  exact⟨o,e,fun v z=>by rw[d] at z;cases z⟩
 keep:=fun i h h' st k=>st.at fun o e=>k it (by simp) o e
 item:=by
  intro X hP hw hK hc i pins s σ H E I hf st hg
  subst hP hw hK
  obtain⟨xs,x,hq,hx⟩:=hg
  obtain⟨aH,rv,p,hz⟩:=I.list hq
  obtain⟨u,hu,ru⟩:=rv.get hx
  obtain⟨f0,f1,f2,f3,f4,f5⟩:=hf it (by simp)
  refine adw st p.isList (x:=u) (by simpa using hu) fun h' vz sb=>?_
  have I1:Inv X pins σ H { s with heap:=h' }:=I.turned (t':=s.toks) (fun b o hb e=>(sb.2 b hb).trans e) f0 f1 f3 f4 f5
  obtain⟨o,e,c,d⟩:=id vz
  exact⟨u,rfl,Cq (s:={ s with heap:=h' }) e c d (by decide) ⟨x,H,I1,ru,⟨rfl,fun ys hy=>by rw[I.Cn hy hq];exact hx⟩,vz,fun b hb=>(hf b hb).1⟩⟩
 done:=by
  intro X hP hw hK hc i pins s σ H E I hf st hg
  subst hP hw hK
  obtain⟨xs,hq,hx⟩:=hg
  obtain⟨aH,rv,p,hz⟩:=I.list hq
  obtain⟨f0,f1,f2,f3,f4,f5⟩:=hf it (by simp)
  have hl:=rv.length
  exact jF (I.Hv hc) (I.LA hc f0) st p.isList (by simp;omega) fun h' eb=>⟨rfl,I.turned (t':=s.toks) (fun b o hb e=>eb b o hb e) f0 f1 f3 f4 f5⟩
 self:=fun _ _ _ _ _ st h=>wpAny_pyIter_listiter st h
theorem pX {P:Program}{w:World}{K:W.Frag}{tg:Expr}(a it:Addr):Turn P w K tg (Fs K a) [it] it (fun i h=>h.IsTupleIter it a i) where
 mem:=by simp
 obj:=fun i h st b hb=>by
  have e:b=it:=by simpa using hb
  subst e
  obtain⟨o,e,c,d⟩:=st
  exact⟨o,e,fun v z=>by rw[d] at z;cases z⟩
 keep:=fun i h h' st k=>st.at fun o e=>k it (by simp) o e
 item:=by
  intro X hP hw hK hc i pins s σ H E I hf st hg
  subst hP hw hK
  obtain⟨xs,x,hq,hx⟩:=hg
  obtain⟨aH,rv,p,hz⟩:=I.tuple hq
  obtain⟨u,hu,ru⟩:=rv.get hx
  obtain⟨f0,f1,f2,f3,f4,f5⟩:=hf it (by simp)
  refine wpAny_pyNext_tuple_item st (show s.heap.IsTuple a aH.toArray from p) (x:=u) (by simpa using hu) fun h' vz sb=>?_
  have I1:Inv X pins σ H { s with heap:=h' }:=I.turned (t':=s.toks) (fun b o hb e=>(sb.2 b hb).trans e) f0 f1 f3 f4 f5
  obtain⟨o,e,c,d⟩:=id vz
  exact⟨u,rfl,Cq (s:={ s with heap:=h' }) e c d (by decide) ⟨x,H,I1,ru,⟨rfl,fun ys hy=>by rw[I.mO hy hq];exact hx⟩,vz,fun b hb=>(hf b hb).1⟩⟩
 done:=by
  intro X hP hw hK hc i pins s σ H E I hf st hg
  subst hP hw hK
  obtain⟨xs,hq,hx⟩:=hg
  obtain⟨aH,rv,p,hz⟩:=I.tuple hq
  obtain⟨f0,f1,f2,f3,f4,f5⟩:=hf it (by simp)
  have hl:=rv.length
  exact jv (I.Hv hc) (I.LA hc f0) st (show s.heap.IsTuple a aH.toArray from p) (by simp;omega) fun h' eb=>⟨rfl,I.turned (t':=s.toks) (fun b o hb e=>eb b o hb e) f0 f1 f3 f4 f5⟩
 self:=fun _ _ _ _ _ st h=>wpAny_pyIter_tupleiter st h
theorem xG {P:Program}{w:World}{K:W.Frag}{tg:Expr}(it:Addr)(lo:Int)(n:Nat):Turn P w K tg (HC lo n) [it] it (fun i h=>IsRangeIter h it (lo+(i:Nat)*1) ((n:Int)-(i:Nat)) 1) where
 mem:=by simp
 obj:=fun i h st b hb=>by
  have e:b=it:=by simpa using hb
  subst e
  exact⟨_,st,fun v z=>by
   have z':Data.fields _=Data.cell v:=z
   cases z'⟩
 keep:=fun i h h' st k=>k it (by simp) _ st
 item:=by
  intro X hP hw hK hc i pins s σ H E I hf st hg
  subst hP hw hK
  obtain⟨f0,f1,f2,f3,f4,f5⟩:=hf it (by simp)
  refine mJ (c:=1) hg st fun v h' tk hv vz kk=>?_
  obtain⟨t,rfl⟩:=hv
  have I1:Inv X pins σ H { s with heap:=h',toks:=tk }:=I.turned (fun b o hb e=>kk b o (by simpa using hb) e) f0 f1 f3 f4 f5
  refine⟨_,rfl,Cq (s:={ s with heap:=h',toks:=tk }) (n:="range_iterator") vz rfl rfl (by decide) ⟨.int (lo+i),H,I1,⟨t,?_⟩,⟨rfl,rfl⟩,vz,fun b hb=>(hf b hb).1⟩⟩
  rw[aaM]
 done:=by
  intro X hP hw hK hc i pins s σ H E I hf st hg
  subst hP hw hK
  obtain⟨f0,f1,f2,f3,f4,f5⟩:=hf it (by simp)
  exact oV (I.Hv hc) st (by have:n<=i:=hg;omega) fun h' eb=>⟨rfl,I.turned (t':=s.toks) (fun b o hb e=>eb b o hb e) f0 f1 f3 f4 f5⟩
 self:=fun _ _ _ _ _ st h=>wpAny_pyIter_rangeiter st h
section
variable {X:Cx}{tg:Expr}
inductive Cr (K:W.Frag)(R:It->Hp->Prop)(x:V)(H1:Hp):Prop
 | mk:∀ a,(x=.ref a)->((∃ xs,aR K H1 a xs))->(R (Fq K a) H1)->Cr K R x H1
def HD (K:W.Frag)(tl:TE):TI:=fun σ H R=>tl σ H fun x H1=>Cr K R x H1
inductive HE (K:W.Frag)(R:It->Hp->Prop)(x:V)(H1:Hp):Prop
 | mk:∀ a,(x=.ref a)->((∃ xs,aO K H1 a xs))->(R (Fs K a) H1)->HE K R x H1
def Mv (K:W.Frag)(tl:TE):TI:=fun σ H R=>tl σ H fun x H1=>HE K R x H1
theorem FI {l:Expr}{tl:TE}(hl:PE X l tl):PI X tg l (HD X.K tl):=by
 intro pins s σ H R I h
 refine eD (hl pins s σ H _ I h) fun v s1 ⟨x,H1,I1,r1,q1⟩=>?_
 obtain⟨a,e,⟨xs,hq⟩,q⟩:=q1
 subst e
 cases r1
 obtain⟨aH,rv,p,hz⟩:=I1.list hq
 refine abq p.isList ?_
 refine⟨s1.heap.objs.size,[s1.heap.objs.size],_,_,H1,rfl,I1.kept (t':=s1.toks) fun b o e=>ZE _ e,si a _,⟨_,ZN _ rfl,rfl,rfl⟩,fun b hb=>?_,q⟩
 have e:b=s1.heap.objs.size:=by simpa using hb
 subst e
 exact I1.AN (ZL _) (I1.bh.fresh (ZL _))
theorem Jo {l:Expr}{tl:TE}(hl:PE X l tl):PI X tg l (Mv X.K tl):=by
 intro pins s σ H R I h
 refine eD (hl pins s σ H _ I h) fun v s1 ⟨x,H1,I1,r1,q1⟩=>?_
 obtain⟨a,e,⟨xs,hq⟩,q⟩:=q1
 subst e
 cases r1
 obtain⟨aH,rv,p,hz⟩:=I1.tuple hq
 refine adf (show s1.heap.IsTuple a aH.toArray from p) ?_
 refine⟨s1.heap.objs.size,[s1.heap.objs.size],_,_,H1,rfl,I1.kept (t':=s1.toks) fun b o e=>ZE _ e,pX a _,⟨_,ZN _ rfl,rfl,rfl⟩,fun b hb=>?_,q⟩
 have e:b=s1.heap.objs.size:=by simpa using hb
 subst e
 exact I1.AN (ZL _) (I1.bh.fresh (ZL _))
theorem Cs {pins:List (Addr × Obj)}{σ:St}{H:Hp}{s:Shared}{R:It->Hp->Prop}{E:Value->Shared->Prop}{lo hi:Int}{t u v:Tok}{tk:Nat}(I:Inv X pins σ H s)(h1:-(2^62)<=lo)(h2:lo<2^62)(h3:-(2^62)<=hi)(h4:hi<2^62)
  (q:R (HC lo (hi-lo).toNat) H):wpAny (model X.prog X.w) X.A (pyIter (.ref s.heap.objs.size)) (Ua X pins σ tg R) E { s with heap:=s.heap.push { cls:=.type "range",data:=.fields #[.int lo t,.int hi u,.int 1 v] },toks:=tk }:=by
 refine wpAny_pyIter_range (IsRange.new ..) (small_one h1 h2 h3 h4) ?_
 have I1:Inv X pins σ H { s with heap:=s.heap.push { cls:=.type "range",data:=.fields #[.int lo t,.int hi u,.int 1 v] },toks:=tk }:=I.kept fun b o e=>ZE _ e
 refine⟨(s.heap.push { cls:=.type "range",data:=.fields #[.int lo t,.int hi u,.int 1 v] }).objs.size,[(s.heap.push { cls:=.type "range",data:=.fields #[.int lo t,.int hi u,.int 1 v] }).objs.size],_,_,H,rfl,
  I1.kept (t':=tk) fun b o e=>ZE _ e,xG _ lo (hi-lo).toNat,?_,fun b hb=>?_,q⟩
 ·have e1:lo+((0:Nat):Int)*1=lo:=by simp
  have e2:(((hi-lo).toNat:Nat):Int)-((0:Nat):Int)=Builtin.Range.rangeSize lo hi 1:=by rw[rangeSize_one];split<;>omega
  show IsRangeIter _ _ (lo+((0:Nat):Int)*1) ((((hi-lo).toNat:Nat):Int)-((0:Nat):Int)) 1
  rw[e1,e2]
  exact ZN _ rfl
 ·have e:b=(s.heap.push { cls:=.type "range",data:=.fields #[.int lo t,.int hi u,.int 1 v] }).objs.size:=by simpa using hb
  subst e
  exact I1.AN (ZL _) (I1.bh.fresh (ZL _))
inductive Ct (R:It->Hp->Prop)(vs:List V)(H1:Hp):Prop
 | mk:∀ (j:Int),(vs=[.int j])->(-(2^62)<=j)->(j<2^62)->(R (HC 0 j.toNat) H1)->Ct R vs H1
def Mw (ta:TA):TI:=fun σ H R=>ta σ H fun vs H1=>Ct R vs H1
theorem eQ {a:Expr}{ta:TA}{p pos:Pos}(hg:Gl X "range")(hm:X.mg "range"=none)(ha:PA X [a] ta)(hs:starEach [a] X.env=[(false,eval a X.env)]:=by rfl):PI X tg (.Call (.Name "range" p) [a] [] pos) (Mw ta):=by
 intro pins s σ H R I h
 refine Call_ (mL I hg hm boot_range (acG (eD (ha pos pins s σ H _ I h) fun us s1 ⟨vs,H1,I1,r1,q1⟩=>?_) hs rfl))
 obtain⟨j,e,q1,q2,q⟩:=q1
 subst e
 cases r1 with
 | cons r rr=>
  cases rr
  obtain⟨t,rfl⟩:=r
  exact call_range_1 (Cs I1 (by omega) (by omega) q1 q2 (by simpa using q))
def QK (wi:TI)(g:TG)(tb:TS):TS:=fun D σ H=>wi σ H fun J H1=>∃ W:Nat->Nat->St->Hp->Prop,(∃ m,W 0 m σ H1)/\∀ i m σ H,W i m σ H ->
 (J.stop i H/\D.nx σ H)\/(J.go i H/\∃ N:St->Hp->Prop,(∀ σ' H',N σ' H'->∃ m',m'<m/\W (i+1) m' σ' H')/\∀ x H',J.zm i H x H'->g x σ H' fun σ2 H2=>tb { D with nx:=N,ct:=N,bk:=D.nx } σ2 H2)
def tL (fp:List Addr)(h:Heap):List (Addr × Obj):=fp.filterMap fun b=>(h.get? b).map fun o=>(b,o)
theorem cF {fp:List Addr}{h:Heap}{b:Addr}{o:Obj}(hb:b∈fp)(e:h.get? b=some o):(b,o)∈tL fp h:=acP.mpr ⟨b,hb,by rw[e];rfl⟩
theorem AO {fp:List Addr}{h:Heap}{p:Addr × Obj}(hp:p∈tL fp h):p.1∈fp/\h.get? p.1=some p.2:=by
 obtain⟨b,hb,e⟩:=acP.mp hp
 cases q:h.get? b with
 | none=>rw[q] at e;cases e
 | some o=>
  rw[q] at e
  have e':(b,o)=p:=ZG e
  subst e'
  exact⟨hb,q⟩
theorem Inv.pinned {pins:List (Addr × Obj)}{σ:St}{H:Hp}{s:Shared}{fp:List Addr}(I:Inv X pins σ H s)(hf:∀ b∈fp,kI X pins H b)(ho:∀ b∈fp,∃ o,s.heap.get? b=some o/\∀ v,o.data≠.cell v):Inv X (pins++tL fp s.heap) σ H s:=
 I.zi fun p hp=>(abo.mp hp).elim (fun z=>I.pin p (ZW _ z)) fun z=>by
  obtain⟨hb,e⟩:=AO z
  obtain⟨f0,f1,f2,_⟩:=hf p.1 hb
  obtain⟨o,e',d⟩:=ho p.1 hb
  rw[e] at e';cases e'
  exact⟨e,f0,f1,f2,d⟩
theorem Inv.gX {pins pl:List (Addr × Obj)}{σ:St}{H:Hp}{s:Shared}(I:Inv X (pins++pl) σ H s):Inv X pins σ H s:=I.zi fun p hp=>I.pin p (ZW _ (List.mem_append_left _ hp))
theorem gh {iter:Expr}{body:List Stmt}{wi:TI}{g:TG}{tb:TS}{pos:Pos}(hp:PassesOwn (model X.prog X.w) X.A X.env X.xe)(hc:X.cb=true)(hi:PI X tg iter wi)(hg:PG X tg g)(hb:kL X body tb)
  (hs:∀ x,foldedSetIterable iter X.env x=pure x:=by intro _;rfl):PS X (.For tg iter body [] pos) (QK wi g tb):=by
 intro pins s σ H D I h
 refine wpAny_For (eD (hi pins s σ H _ I h) fun v s1 h1=>eD h1 fun Pj s2 h2=>?_) hs
 obtain⟨it,fp,tn,J,H2,e,I2,T,FJ,f2,W,⟨m0,w0⟩,turn⟩:=h2
 subst e
 -- Qp stays true of Ca Jp objects through Ca loop
 have Jq:∀ {H':Hp},(∀ b∈fp,H' b=none)->∀ b∈fp,kI X pins H' b:=fun hn b hb=>⟨hn b hb,(f2 b hb).2⟩
 refine codeAny_forLoop_any (fun n s'=>∃ i σ' H',Inv X pins σ' H' s'/\tn i s'.heap/\(∀ b∈fp,H' b=none)/\W i n σ' H') ?_ m0 ⟨0,σ,H2,I2,FJ,fun b hb=>(f2 b hb).1,w0⟩
 rintro n s3 ⟨i,σ3,H3,I3,LF,Ub,w3⟩
 rcases turn i n σ3 H3 w3 with ⟨stop,qn⟩|⟨go,N,hN,step⟩
 ·refine ab5 hp (eD (T.done X rfl rfl rfl hc i pins s3 σ3 H3 X.xe I3 (Jq Ub) LF stop) fun r s4 ⟨hr,I4⟩=>?_)
  subst hr
  exact acx ⟨σ3,H3,I4,qn⟩
 ·refine ab5 hp (eD (T.item X rfl rfl rfl hc i pins s3 σ3 H3 X.xe I3 (Jq Ub) LF go) fun r s4 ⟨u,hr,h4⟩=>?_)
  subst hr
  refine ab5 hp (eD h4 fun _ s5 ⟨x,H5,I5,r5,y5,LG,VC⟩=>?_)
  have VD:=I5.pinned (Jq VC) (T.obj _ _ LG)
  refine ab5 hp (eD (hg _ s5 σ3 H5 x u _ VD r5 (step x H5 y5)) fun _ s6 ⟨σ6,H6,I6,q6⟩=>?_)
  refine ab5 hp (eD (hb _ s6 σ6 H6 _ I6 q6) fun f s7 q7=>?_)
  have again:∀ {σ7:St}{H7:Hp},Inv X (pins++tL fp s5.heap) σ7 H7 s7->N σ7 H7->∃ m,m<n/\∃ i σ' H',Inv X pins σ' H' s7/\tn i s7.heap/\(∀ b∈fp,H' b=none)/\W i m σ' H':=fun {σ7 H7} I7 n7=>by
   obtain⟨m',hm,w7⟩:=hN σ7 H7 n7
   refine⟨m',hm,i+1,σ7,H7,I7.gX,T.keep _ _ _ LG fun b hb o e=>(I7.pin (b,o) (ZW _ (ZW _ (cF hb e)))).1,fun b hb=>?_,w7⟩
   obtain⟨o,e,d⟩:=T.obj _ _ LG b hb
   exact (I7.pin (b,o) (ZW _ (ZW _ (cF hb e)))).2.1
  cases f with
  | next=>obtain⟨σ7,H7,I7,n7⟩:=q7;exact again I7 n7
  | cont=>obtain⟨σ7,H7,I7,n7⟩:=q7;exact again I7 n7
  | brk=>obtain⟨σ7,H7,I7,q7⟩:=q7;exact⟨σ7,H7,I7.gX,q7⟩
  | ret v=>obtain⟨x7,σ7,H7,I7,r7,q7⟩:=q7;exact⟨x7,σ7,H7,I7.gX,r7,q7⟩
end
theorem gY {K:W.Frag}{a:Addr}{xs:List V}{g:TG}{tb:TS}{D:Ends}{σ:St}{H:Hp}(Pv:Nat->St->Hp->Prop)(h0:Pv 0 σ H)(hl:∀ i σ H,i<=xs.length->Pv i σ H->aR K H a xs)
  (hs:∀ i x σ H,xs[i]?=some x->Pv i σ H->g x σ H fun σ2 H2=>tb { D with nx:=Pv (i+1),ct:=Pv (i+1),bk:=D.nx } σ2 H2) (hd:∀ σ H,Pv xs.length σ H->D.nx σ H) :
  ∃ W:Nat->Nat->St->Hp->Prop,(∃ m,W 0 m σ H)/\∀ i m σ H,W i m σ H ->
   ((Fq K a).stop i H/\D.nx σ H)\/((Fq K a).go i H/\∃ N:St->Hp->Prop,(∀ σ' H',N σ' H'->∃ m',m'<m/\W (i+1) m' σ' H')/\∀ x H',(Fq K a).zm i H x H'->g x σ H' fun σ2 H2=>tb { D with nx:=N,ct:=N,bk:=D.nx } σ2 H2):=by
 refine⟨fun i m σ H=>m=xs.length-i/\i<=xs.length/\Pv i σ H,⟨xs.length,by simp,aaH _,h0⟩,?_⟩
 rintro i m σ H ⟨rfl,hi,p⟩
 have q:=hl i σ H hi p
 by_cases fZ:i<xs.length
 ·refine .inr ⟨⟨xs,xs[i],q,by simp[fZ]⟩,Pv (i+1),fun σ' H' p'=>⟨xs.length-(i+1),by omega,rfl,fZ,p'⟩,fun x H' y=>?_⟩
  obtain⟨e,y⟩:=y
  subst e
  exact hs i x σ _ (y xs q) p
 ·have e:i=xs.length:=by omega
  subst e
  exact .inl ⟨⟨xs,q,ZL _⟩,hd σ H p⟩
theorem tM {K:W.Frag}{a:Addr}{xs:List V}{g:TG}{tb:TS}{D:Ends}{σ:St}{H:Hp}(Pv:Nat->St->Hp->Prop)(h0:Pv 0 σ H)(hl:∀ i σ H,i<=xs.length->Pv i σ H->aO K H a xs)
  (hs:∀ i x σ H,xs[i]?=some x->Pv i σ H->g x σ H fun σ2 H2=>tb { D with nx:=Pv (i+1),ct:=Pv (i+1),bk:=D.nx } σ2 H2) (hd:∀ σ H,Pv xs.length σ H->D.nx σ H) :
  ∃ W:Nat->Nat->St->Hp->Prop,(∃ m,W 0 m σ H)/\∀ i m σ H,W i m σ H ->
   ((Fs K a).stop i H/\D.nx σ H)\/((Fs K a).go i H/\∃ N:St->Hp->Prop,(∀ σ' H',N σ' H'->∃ m',m'<m/\W (i+1) m' σ' H')/\∀ x H',(Fs K a).zm i H x H'->g x σ H' fun σ2 H2=>tb { D with nx:=N,ct:=N,bk:=D.nx } σ2 H2):=by
 refine⟨fun i m σ H=>m=xs.length-i/\i<=xs.length/\Pv i σ H,⟨xs.length,by simp,aaH _,h0⟩,?_⟩
 rintro i m σ H ⟨rfl,hi,p⟩
 have q:=hl i σ H hi p
 by_cases fZ:i<xs.length
 ·refine .inr ⟨⟨xs,xs[i],q,by simp[fZ]⟩,Pv (i+1),fun σ' H' p'=>⟨xs.length-(i+1),by omega,rfl,fZ,p'⟩,fun x H' y=>?_⟩
  obtain⟨e,y⟩:=y
  subst e
  exact hs i x σ _ (y xs q) p
 ·have e:i=xs.length:=by omega
  subst e
  exact .inl ⟨⟨xs,q,ZL _⟩,hd σ H p⟩
theorem mR {lo:Int}{n:Nat}{g:TG}{tb:TS}{D:Ends}{σ:St}{H:Hp}(Pv:Nat->St->Hp->Prop)(h0:Pv 0 σ H)
  (hs:∀ i σ H,i<n->Pv i σ H->g (.int (lo+i)) σ H fun σ2 H2=>tb { D with nx:=Pv (i+1),ct:=Pv (i+1),bk:=D.nx } σ2 H2) (hd:∀ σ H,Pv n σ H->D.nx σ H) :
  ∃ W:Nat->Nat->St->Hp->Prop,(∃ m,W 0 m σ H)/\∀ i m σ H,W i m σ H ->
   ((HC lo n).stop i H/\D.nx σ H)\/((HC lo n).go i H/\∃ N:St->Hp->Prop,(∀ σ' H',N σ' H'->∃ m',m'<m/\W (i+1) m' σ' H')/\∀ x H',(HC lo n).zm i H x H'->g x σ H' fun σ2 H2=>tb { D with nx:=N,ct:=N,bk:=D.nx } σ2 H2):=by
 refine⟨fun i m σ H=>m=n-i/\i<=n/\Pv i σ H,⟨n,by simp,aaH _,h0⟩,?_⟩
 rintro i m σ H ⟨rfl,hi,p⟩
 by_cases fZ:i<n
 ·refine .inr ⟨fZ,Pv (i+1),fun σ' H' p'=>⟨n-(i+1),by omega,rfl,fZ,p'⟩,fun x H' y=>?_⟩
  obtain⟨e,y⟩:=y
  subst e y
  exact hs i σ _ fZ p
 ·have e:i=n:=by omega
  subst e
  exact .inl ⟨ZL _,hd σ H p⟩
abbrev R2:=V->V->Hp->VK->Prop
def oi (X:Cx)(f:Value->Value->Sem Value)(r:R2):Prop:=
 ∀ (pins:List (Addr × Obj)) (s:Shared) (σ:St) (H:Hp) (x y:V) (v u:Value) (Q:VK),Inv X pins σ H s->RelV x v->RelV y u->r x y H Q ->
  wpAny (model X.prog X.w) X.A (f v u) (EP X pins σ Q) X.xe s
def QL (X:Cx)(f:Value->Sem Value)(r:V->Hp->VK->Prop):Prop:=
 ∀ (pins:List (Addr × Obj)) (s:Shared) (σ:St) (H:Hp) (x:V) (v:Value) (Q:VK),Inv X pins σ H s->RelV x v->r x H Q ->
  wpAny (model X.prog X.w) X.A (f v) (EP X pins σ Q) X.xe s
def gI (X:Cx)(f:Value)(r:List V->Hp->VK->Prop):Prop:=
 ∀ (pins:List (Addr × Obj)) (s:Shared) (σ:St) (H:Hp) (xs:List V) (us:List Value) (Q:VK),Inv X pins σ H s->Vals xs us->r xs H Q ->
  wpAny (model X.prog X.w) X.A (call f us) (EP X pins σ Q) X.xe s
def Mx (r:R2)(ta tb:TE):TE:=fun σ H Q=>ta σ H fun x H1=>tb σ H1 fun y H2=>r x y H2 Q
def VE (r:V->Hp->VK->Prop)(ta:TE):TE:=fun σ H Q=>ta σ H fun x H1=>r x H1 Q
inductive rI (C:Int->Int->Prop)(g:Int->Int->V)(x:V)(y:V)(H:Hp)(Q:VK):Prop
 | mk:∀ i j,(x=.int i)->(y=.int j)->(C i j)->(Q (g i j) H)->rI C g x y H Q
inductive FK (g:Int->Int->V)(x:V)(y:V)(H:Hp)(Q:VK):Prop
 | mk:∀ i j,(x=.int i)->(y=.int j)->(Q (g i j) H)->FK g x y H Q
inductive rU (g:Int->V)(x:V)(H:Hp)(Q:VK):Prop
 | mk:∀ i,(x=.int i)->(Q (g i) H)->rU g x H Q
section
variable {X:Cx}{a b c:Expr}{ta tb tc:TE}{pos:Pos}
theorem Jr (ha:PE X a ta)(hb:PE X b tb){pins:List (Addr × Obj)}{s:Shared}{σ:St}{H:Hp}{R:V->V->Hp->Prop}(I:Inv X pins σ H s)
  (h:ta σ H fun x H1=>tb σ H1 fun y H2=>R x y H2) {Q:Value->Shared->Prop}{f:Value->Value->Sem Value}
  (hf:∀ v u s2 x y H2,Inv X pins σ H2 s2->RelV x v->RelV y u->R x y H2->wpAny (model X.prog X.w) X.A (f v u) Q X.xe s2) :
  wpAny (model X.prog X.w) X.A (eval a X.env) (fun v s₁=>wpAny (model X.prog X.w) X.A (eval b X.env) (fun u s₂=>wpAny (model X.prog X.w) X.A (f v u) Q X.xe s₂) X.xe s₁) X.xe s:=by
 refine eD (ha pins s σ H _ I h) fun v s1 ⟨x,H1,I1,r1,q1⟩=>?_
 refine eD (hb pins s1 σ H1 _ I1 q1) fun u s2 ⟨y,H2,I2,r2,q2⟩=>?_
 exact hf v u s2 x y H2 I2 r1 r2 q2
theorem av {op:Operator}{r:R2}(ho:oi X (binaryOp op) r)(ha:PE X a ta)(hb:PE X b tb):PE X (.BinOp a op b pos) (Mx r ta tb):=by
 intro pins s σ H Q I h
 exact wpAny_BinOp (Jr ha hb I h fun v u s2 x y H2 I2 rx ry q=>ho pins s2 σ H2 x y v u Q I2 rx ry q)
theorem fR {op:UnaryOp}{r:V->Hp->VK->Prop}(ho:QL X (unaryOp op) r)(ha:PE X a ta):PE X (.UnaryOp op a pos) (VE r ta):=by
 intro pins s σ H Q I h
 exact UnaryOp_ (eD (ha pins s σ H _ I h) fun v s1 ⟨x,H1,I1,r1,q1⟩=>ho pins s1 σ H1 x v Q I1 r1 q1)
theorem LH {f:Value->Value->Sem Value}{C:Int->Int->Prop}{g:Int->Int->Int}
  (rule:∀ (i j:Int) (t u:Tok) (s:Shared) (Q:Value->Shared->Prop) (E:Value->Shared->Prop),C i j->Q (.int (g i j) s.toks) { s with toks:=s.toks+1 }->wpAny (model X.prog X.w) X.A (f (.int i t) (.int j u)) Q E s) :
  oi X f (rI C fun i j=>.int (g i j)):=by
 intro pins s σ H x y v u Q I rx ry h
 obtain⟨i,j,rfl,rfl,hc,q⟩:=h
 obtain⟨t,rfl⟩:=rx
 obtain⟨t',rfl⟩:=ry
 exact rule i j t t' s _ _ hc ⟨.int (g i j),H,I.tok _,⟨_,rfl⟩,q⟩
theorem Js {f:Value->Value->Sem Value}{g:Int->Int->Int}
  (rule:∀ (i j:Int) (t u:Tok) (s:Shared) (Q:Value->Shared->Prop) (E:Value->Shared->Prop),Q (.int (g i j) s.toks) { s with toks:=s.toks+1 }->wpAny (model X.prog X.w) X.A (f (.int i t) (.int j u)) Q E s) :
  oi X f (FK fun i j=>.int (g i j)):=by
 intro pins s σ H x y v u Q I rx ry h
 obtain⟨i,j,rfl,rfl,q⟩:=h
 obtain⟨t,rfl⟩:=rx
 obtain⟨t',rfl⟩:=ry
 exact rule i j t t' s _ _ ⟨.int (g i j),H,I.tok _,⟨_,rfl⟩,q⟩
theorem Jt {f:Value->Value->Sem Value}{g:Int->Int->Bool}
  (rule:∀ (i j:Int) (t u:Tok) (s:Shared) (Q:Value->Shared->Prop) (E:Value->Shared->Prop),Q (.bool (g i j)) s->wpAny (model X.prog X.w) X.A (f (.int i t) (.int j u)) Q E s) :
  oi X f (FK fun i j=>.bl (g i j)):=by
 intro pins s σ H x y v u Q I rx ry h
 obtain⟨i,j,rfl,rfl,q⟩:=h
 obtain⟨t,rfl⟩:=rx
 obtain⟨t',rfl⟩:=ry
 exact rule i j t t' s _ _ ⟨.bl (g i j),H,I,rfl,q⟩
def QM (i j:Int):Prop:=0<j/\j<1073741824
theorem xH (k:Nat):(0:Int)<=2^k:=by
 rw[two_pow_cast]
 exact Int.natCast_nonneg _
theorem cW:oi X (binaryOp .Add) (FK fun i j=>.int (i+j)):=Js fun _ _ _ _ _ _ _ q=>add_int q
theorem d8:oi X (binaryOp .Sub) (FK fun i j=>.int (i-j)):=Js fun _ _ _ _ _ _ _ q=>sub_int q
theorem jh:oi X (binaryOp .FloorDiv) (rI QM fun i j=>.int (i / j)):=LH fun i j _ _ _ _ _ hc q=>by
 have h1:(0:Int)<j:=hc.1
 have h2:j<1073741824:=hc.2
 exact floordiv_int (by omega) (by rw[abr i (by omega)];exact q) (.inl (PyProof.noPylong_small (by omega)))
theorem aQ:oi X (binaryOp .Mod) (rI (fun _ j=>0<j) fun i j=>.int (i%j)):=LH fun i j _ _ _ _ _ hc q=>by
 have h1:(0:Int)<j:=hc
 exact mod_int' (by omega) (by rw[acL i (by omega)];exact q)
theorem zo:oi X (binaryOp .Mod) (rI (fun _ j=>j≠0) fun i j=>.int (i.fmod j)):=LH fun _ _ _ _ _ _ _ hc q=>mod_int' hc q
theorem Ju:oi X (binaryOp .RShift) (rI (fun _ j=>0<=j) fun i j=>.int (i / 2^j.toNat)):=LH fun i j _ _ _ _ _ hc q=>
 rshift_int hc (by rw[abr i (xH _)];exact q)
theorem Jv:oi X (binaryOp .BitAnd) (FK fun i j=>.int (Builtin.bitAnd i j)):=Js fun _ _ _ _ _ _ _ q=>and_int q
theorem VF {f:Value->Sem Value}{g:Int->Int}
  (rule:∀ (i:Int) (t:Tok) (s:Shared) (Q:Value->Shared->Prop) (E:Value->Shared->Prop),Q (.int (g i) s.toks) { s with toks:=s.toks+1 }->wpAny (model X.prog X.w) X.A (f (.int i t)) Q E s) :
  QL X f (rU fun i=>.int (g i)):=by
 intro pins s σ H x v Q I rx h
 obtain⟨i,rfl,q⟩:=h
 obtain⟨t,rfl⟩:=rx
 exact rule i t s _ _ ⟨.int (g i),H,I.tok _,⟨_,rfl⟩,q⟩
theorem dF:QL X (unaryOp .USub) (rU fun i=>.int (-i)):=VF fun _ _ _ _ _ q=>neg_int q
end
def My:V->V->Bool
 | .eB,.eB=>true|.eB,.int _=>true|.int _,.eB=>true|.eB,.bl _=>true|.bl _,.eB=>true|.eB,.str _=>true|.str _,.eB=>true
 | .int _,.int _=>true|.bl _,.bl _=>true|.str _,.str _=>true|.zh _,.zh _=>true
 | .int _,.str _=>true|.str _,.int _=>true|.bl _,.str _=>true|.str _,.bl _=>true
 | _,_=>false
def VG:R2:=fun x y H Q=>My x y=true/\Q (.bl (decide (x=y))) H
def VH:R2:=fun x y H Q=>My x y=true/\Q (.bl (!decide (x=y))) H
theorem zq {i j:Int}:decide (V.int i=V.int j)=(i==j):=by
 rw[abV]
 simp
theorem Cu {i j:Bool}:decide (V.bl i=V.bl j)=(i==j):=by
 rw[abV]
 simp
theorem zr {i j:Str}:decide (V.str i=V.str j)=(i==j):=by
 rw[abV]
 simp
theorem zt {i j:Array UInt8}:decide (V.zh i=V.zh j)=(i.toList==j.toList):=by
 rw[abV]
 cases i
 cases j
 simp
section
variable {X:Cx}{a b c:Expr}{ta tb tc:TE}{pos:Pos}
theorem bB {pins:List (Addr × Obj)}{σ:St}{H:Hp}{s:Shared}{Q:VK}{k k':Bool}(I:Inv X pins σ H s)(q:Q (.bl k) H)(e:k=k'):EP X pins σ Q (.bool k') s:=by
 subst e
 exact⟨.bl k,H,I,rfl,q⟩
theorem bE:oi X (compareOp .Eq) VG:=by
 intro pins s σ H x y v u Q I rx ry h
 obtain⟨hs,q⟩:=h
 cases x with
 | eB=>
  cases rx
  cases y with
  | eB=>cases ry;exact PySem.EqNone.eq_none_none (bB I q (by simp))
  | bl j=>cases ry;exact PySem.EqNone.eq_none_bool (bB I q (by simp))
  | int j=>obtain⟨t',rfl⟩:=ry;exact PySem.EqNone.eq_none_int (bB I q (by simp))
  | str j=>obtain⟨t',rfl⟩:=ry;exact PySem.EqNone.eq_none_str (bB I q (by simp))
  | _=>exact absurd (show false=true from hs) ZJ
 | bl i=>
  cases rx
  cases y with
  | eB=>cases ry;exact PySem.EqNone.eq_bool_none (bB I q (by simp))
  | bl j=>cases ry;exact eq_bool (bB I q Cu)
  | str j=>obtain⟨t',rfl⟩:=ry;exact PySem.EqMixed.eq_bool_str (bB I q (by simp))
  | _=>exact absurd (show false=true from hs) ZJ
 | int i=>
  obtain⟨t,rfl⟩:=rx
  cases y with
  | eB=>cases ry;exact PySem.EqNone.eq_int_none (bB I q (by simp))
  | int j=>obtain⟨t',rfl⟩:=ry;exact eq_int (bB I q zq)
  | str j=>obtain⟨t',rfl⟩:=ry;exact PySem.EqMixed.eq_int_str (bB I q (by simp))
  | _=>exact absurd (show false=true from hs) ZJ
 | str i=>
  obtain⟨t,rfl⟩:=rx
  cases y with
  | eB=>cases ry;exact PySem.EqNone.eq_str_none (bB I q (by simp))
  | bl j=>cases ry;exact PySem.EqMixed.eq_str_bool (bB I q (by simp))
  | int j=>obtain⟨t',rfl⟩:=ry;exact PySem.EqMixed.eq_str_int (bB I q (by simp))
  | str j=>obtain⟨t',rfl⟩:=ry;exact eq_str (bB I q zr)
  | _=>exact absurd (show false=true from hs) ZJ
 | zh i=>
  obtain⟨t,rfl⟩:=rx
  cases y with
  | zh j=>obtain⟨t',rfl⟩:=ry;exact W.eq_bytes (bB I q zt)
  | _=>exact absurd (show false=true from hs) ZJ
 | _=>cases y<;>exact absurd (show false=true from hs) ZJ
theorem iS:oi X (compareOp .NotEq) VH:=by
 intro pins s σ H x y v u Q I rx ry h
 obtain⟨hs,q⟩:=h
 cases x with
 | eB=>
  cases rx
  cases y with
  | eB=>cases ry;exact PySem.EqNone.ne_none_none (bB I q (by simp))
  | bl j=>cases ry;exact PySem.EqNone.ne_none_bool (bB I q (by simp))
  | int j=>obtain⟨t',rfl⟩:=ry;exact PySem.EqNone.ne_none_int (bB I q (by simp))
  | str j=>obtain⟨t',rfl⟩:=ry;exact PySem.EqNone.ne_none_str (bB I q (by simp))
  | _=>exact absurd (show false=true from hs) ZJ
 | bl i=>
  cases rx
  cases y with
  | eB=>cases ry;exact PySem.EqNone.ne_bool_none (bB I q (by simp))
  | bl j=>cases ry;exact ne_bool (bB I q (aai not Cu))
  | str j=>obtain⟨t',rfl⟩:=ry;exact PySem.EqMixed.ne_bool_str (bB I q (by simp))
  | _=>exact absurd (show false=true from hs) ZJ
 | int i=>
  obtain⟨t,rfl⟩:=rx
  cases y with
  | eB=>cases ry;exact PySem.EqNone.ne_int_none (bB I q (by simp))
  | int j=>obtain⟨t',rfl⟩:=ry;exact ne_int (bB I q (aai not zq))
  | str j=>obtain⟨t',rfl⟩:=ry;exact PySem.EqMixed.ne_int_str (bB I q (by simp))
  | _=>exact absurd (show false=true from hs) ZJ
 | str i=>
  obtain⟨t,rfl⟩:=rx
  cases y with
  | eB=>cases ry;exact PySem.EqNone.ne_str_none (bB I q (by simp))
  | bl j=>cases ry;exact PySem.EqMixed.ne_str_bool (bB I q (by simp))
  | int j=>obtain⟨t',rfl⟩:=ry;exact PySem.EqMixed.ne_str_int (bB I q (by simp))
  | str j=>obtain⟨t',rfl⟩:=ry;exact ne_str (bB I q (aai not zr))
  | _=>exact absurd (show false=true from hs) ZJ
 | zh i=>
  obtain⟨t,rfl⟩:=rx
  cases y with
  | zh j=>obtain⟨t',rfl⟩:=ry;exact W.ne_bytes (bB I q (aai not zt))
  | _=>exact absurd (show false=true from hs) ZJ
 | _=>cases y<;>exact absurd (show false=true from hs) ZJ
theorem jJ:oi X (compareOp .Lt) (FK fun i j=>.bl (decide (i<j))):=Jt fun _ _ _ _ _ _ _ q=>lt_int q
theorem vA:oi X (compareOp .LtE) (FK fun i j=>.bl (decide (i<=j))):=Jt fun _ _ _ _ _ _ _ q=>le_int q
theorem iq:oi X (compareOp .Gt) (FK fun i j=>.bl (decide (j<i))):=Jt fun _ _ _ _ _ _ _ q=>gt_int q
theorem aA (b:Expr){op:CmpOp}(h:op≠.In:=by decide)(h2:op≠.NotIn:=by decide):behindInMarks op b=false:=by
 have e1:(op==CmpOp.In)=false:=by cases op<;>first|rfl|exact absurd rfl h
 have e2:(op==CmpOp.NotIn)=false:=by cases op<;>first|rfl|exact absurd rfl h2
 cases b<;>simp[behindInMarks,e1,e2]
theorem bM {op:CmpOp}{r:R2}(ho:oi X (compareOp op) r)(ha:PE X a ta)(hb:PE X b tb)(hm:behindInMarks op b=false):PE X (.Compare a [op] [b] pos) (Mx r ta tb):=by
 intro pins s σ H Q I h
 exact wpAny_Compare1 (Jr ha hb I h fun v u s2 x y H2 I2 rx ry q=>ho pins s2 σ H2 x y v u Q I2 rx ry q) hm
inductive Cv (Q:Bool->Hp->Prop)(x:V)(H':Hp):Prop
 | mk:∀ k,(x=.bl k)->(Q k H')->Cv Q x H'
def Mz (t:TE):TT:=fun σ H Q=>t σ H fun x H'=>Cv Q x H'
theorem aB {op:CmpOp}{r:R2}(ho:oi X (compareOp op) r)(ha:PE X a ta)(hb:PE X b tb)(hm:behindInMarks op b=false):PT X (.Compare a [op] [b] pos) (Mz (Mx r ta tb)):=by
 intro pins s σ H Q I h
 refine wpAny_isTrue_Compare1 (eD (ha pins s σ H _ I h) fun v s1 ⟨x,H1,I1,r1,q1⟩=>eD (hb pins s1 σ H1 _ I1 q1) fun u s2 ⟨y,H2,I2,r2,q2⟩=>
  eD (ho pins s2 σ H2 x y v u _ I2 r1 r2 q2) fun c s3 ⟨z,H3,I3,r3,k,e,q3⟩=>?_) hm
 subst e
 cases r3
 exact aca ⟨H3,I3,q3⟩
theorem pY:(sizeLine:Nat)<2^63:=by rw[abR];decide
theorem vals1 {x:V}{us:List Value}(r:Vals [x] us):∃ u,us=[u]/\RelV x u:=by
 cases r with
 | cons r1 r2=>cases r2;exact⟨_,rfl,r1⟩
theorem vals2 {x y:V}{us:List Value}(r:Vals [x,y] us):∃ u w',us=[u,w']/\RelV x u/\RelV y w':=by
 cases r with
 | cons r1 r2=>
  cases r2 with
  | cons r3 r4=>cases r4;exact⟨_,_,rfl,r1,r3⟩
theorem bQ:gI X (.builtin "abs") (fun xs H Q=>∃ i,xs=[.int i]/\Q (.int (if i<0 then -i else i)) H):=by
 intro pins s σ H xs us Q I r h
 obtain⟨i,rfl,q⟩:=h
 obtain⟨u,rfl,t,rfl⟩:=vals1 r
 exact call_abs_int fun u tk=>⟨.int (if i<0 then -i else i),H,I.tok _,⟨_,rfl⟩,q⟩
theorem AQ (hc:X.calm=true):gI X (.builtin "min") (fun xs H Q=>∃ i j,xs=[.int i,.int j]/\Q (.int (if j<i then j else i)) H):=by
 intro pins s σ H xs us Q I r h
 obtain⟨i,j,rfl,q⟩:=h
 obtain⟨u,w',rfl,⟨t,rfl⟩,⟨t',rfl⟩⟩:=vals2 r
 refine min_two_ints (I.ok.hd hc) fun h' tk k=>⟨_,H,I.kept k,?_,q⟩
 by_cases hj:j<i
 ·rw[aag hj,aag hj];exact⟨_,rfl⟩
 ·rw[Z4 hj,Z4 hj];exact⟨_,rfl⟩
theorem ku:gI X (.type "int") (fun xs H Q=>(∃ i,xs=[.int i]/\Q (.int i) H)\/∃ k,xs=[.bl k]/\Q (.int (if k then 1 else 0)) H):=by
 intro pins s σ H xs us Q I r h
 rcases h with ⟨i,rfl,q⟩|⟨k,rfl,q⟩
 ·obtain⟨u,rfl,t,rfl⟩:=vals1 r
  exact call_int_int ⟨.int i,H,I,⟨_,rfl⟩,q⟩
 ·obtain⟨u,rfl,r1⟩:=vals1 r
  cases r1
  exact call_int_bool ⟨.int (if k then 1 else 0),H,I.tok _,⟨_,rfl⟩,q⟩
end
structure Jw (h:Heap)(x dx C:Addr)(mA:Str->Option Value):Prop where
 obj:h.get? x=some (W.instObj C dx)
 ns:h.Ns1 dx mA
 ne:dx≠x
theorem AR {h:Heap}{dx:Addr}{mA:Str->Option Value}(n:h.Ns1 dx mA):∃ od,h.get? dx=some od/\∀ name,W.lookIn name od=some (mA name):=by
 obtain⟨o,es,ep,ho,hd,hk,_,hm⟩:=n
 refine⟨o,ho,fun name=>?_⟩
 have e:=hm name
 unfold nsFind findBy at e
 rw[<- Array.find?_toList] at e
 unfold W.lookIn
 rw[hd]
 dsimp only
 split
 ·rename_i y q
  rw[q] at e
  exact aai some e
 ·rename_i q
  rw[q] at e
  have a:es.toList.any (·.refKey)=false:=by
   rw[List.any_eq_false]
   intro y hy
   obtain⟨z,t,xI⟩:=hk y (Array.mem_toList_iff.mp hy)
   simp[DictEntry.refKey,xI]
  have a':¬ es.toList.any (·.refKey)=true:=by rw[a];exact ZJ
  rw[Z4 a']
  exact aai some e
theorem Jw.look {h:Heap}{x dx C:Addr}{mA:Str->Option Value}(I:Jw h x dx C mA):∃ od,W.InstAt h x (W.instObj C dx) C (some od)/\∀ name,W.lookIn name od=some (mA name):=
 let ⟨od,ho,hl⟩:=AR I.ns
 ⟨od,⟨I.obj,rfl,rfl,ho⟩,hl⟩
section
variable {prog:Program}{w:World}{A:Around}{E:Value->Shared->Prop}{s:Shared}{K:W.Frag}{x dx C f:Addr}{mA:Str->Option Value}{name:Str}{v:Value}
end
theorem xB.some_of {v:V}{o:Option Value}(r:xB (some v) o):∃ u,o=some u/\RelV v u:=by
 cases o with
 | none=>exact (show False from r).elim
 | some u=>exact⟨u,rfl,r⟩
theorem AS {v:V}{u:Value}(r:RelV v u):W.handedIn u=true:=by
 cases v with
 | eB=>cases (show u=Value.none from r);rfl
 | bl b=>cases (show u=Value.bool b from r);rfl
 | int i=>obtain⟨t,e⟩:=(show ∃ t,u=Value.int i t from r);cases e;rfl
 | str x=>obtain⟨t,e⟩:=(show ∃ t,u=Value.str x t from r);cases e;rfl
 | zh b=>obtain⟨t,e⟩:=(show ∃ t,u=Value.bytes b t from r);cases e;rfl
 | FD b=>obtain⟨t,e⟩:=(show ∃ t,u=Value.float b t from r);cases e;rfl
 | ref a=>cases (show u=Value.ref a from r);rfl
 | ty n=>cases (show u=Value.type n from r);rfl
section
variable {P:Program}{w:World}{H H':Hp}{h h':Heap}{a C dx:Addr}{fs Lz:List (Str × V)}
theorem FL (bh:ki P w H h)(e:H a=some (.ins C dx fs)):∃ mA,Jw h a dx C mA/\(∀ f,xB (fs.lookup f) (mA f))/\PySem.Within mA (fs.map (·.1))/\fs.length<=1000/\H dx=some (.own a):=by
 obtain⟨d,z,ne,ob,mA,n,r,q⟩:=(show bI P w H h a (.ins C dx fs) from bh a _ e)
 exact⟨mA,⟨ob,n,ne⟩,r,q,z,d⟩
end
structure QN (K:W.Frag)(C:Addr):Prop where
 pg:W.plainGet K C Str.empty=true
 hd:W.hasDictIn K C=true
 po:W.plainOver K C=true
 sa:W.findIn K (.ref C) "__setattr__"=some (some (.builtin "object.__setattr__"))
theorem QN.get {K:W.Frag}{C:Addr}(c:QN K C)(f:Str):W.plainGet K C f=true:=c.pg
section
variable {X:Cx}{pins:List (Addr × Obj)}{σ:St}{H:Hp}{s:Shared}{a C dx:Addr}{fs:List (Str × V)}{f:Str}{v:V}{A:Around}{E:Value->Shared->Prop}
theorem FN {prog:Program}{w:World}{env:Env}{e:Expr}{f:Str}{pos:Pos}{s:Shared}{Q:Value->Shared->Prop}(hb:attributeBase e f env (eval e env)=eval e env)
  (h:wpAny (model prog w) A (eval e env) (fun o s₁=>wpAny (model prog w) A (getAttr o f true) Q E s₁) E s):wpAny (model prog w) A (eval (.Attribute e f pos) env) Q E s:=
 Attribute_any_ h (by rw[arm_eval_Attribute,hb])
end
section
variable {X:Cx}{o e value:Expr}{f:Str}{pos pos' QO:Pos}{ta tv:TE}
end
section
variable {X:Cx}{pins:List (Addr × Obj)}{σ:St}{H:Hp}{s:Shared}{A:Around}{E:Value->Shared->Prop}{Q:Value->Shared->Prop}{c:Value}{b:Bool}
inductive mS (K:W.Frag)(H:Hp):V->Value->Prop where
 | eB:mS K H .eB (.type "NoneType")
 | bl (x:Bool):mS K H (.bl x) (.type "bool")
 | int (i:Int):mS K H (.int i) (.type "int")
 | str (x:Str):mS K H (.str x) (.type "str")
 | FD (x:UInt64):mS K H (.FD x) (.type "float")
 | lst {a:Addr}{xs:List V} (e:H a=some (.lst xs)):mS K H (.ref a) (.type "list")
 | mK {a:Addr}{o:Obj}{xs:List V} (e:H a=some (.mK o (.lst xs))):mS K H (.ref a) (.type "list")
 | tup {a:Addr}{xs:List V} (e:H a=some (.tup xs)):mS K H (.ref a) (.type "tuple")
 | dK {a:Addr}{mC:List (Key × V)} (e:H a=some (.dK mC)):mS K H (.ref a) (.type "dict")
 | dT {a:Addr}{mC:List (List Key × V)} (e:H a=some (.dT mC)):mS K H (.ref a) (.type "dict")
 | ins {a C dx:Addr}{fs:List (Str × V)} (e:H a=some (.ins C dx fs)) (cl:QN K C) (ha:W.findIn K (.ref C) "__class__"=some (some (.builtin "object.__class__")))
   (hn:W.specialIn K (.builtin "object.__class__") "__get__"=some (some (.builtin "getset_descriptor.__get__"))) (Uc:W.takesIn K (.builtin "object.__class__")=some true)
   (hm:W.mroIn K C (.type "object")=some true):mS K H (.ref a) (.ref C)
theorem AU {x:V}{u t:Value}(I:Inv X pins σ H s)(rx:RelV x u)(ty:mS X.K H x t)(e:W.kitOne X.K t c=some b)(h:∀ tk,Q (.bool b) { s with toks:=tk }) :
  wpAny (model X.prog X.w) A (call (.builtin "isinstance") [u,c]) Q E s:=by
 cases ty with
 | eB=>cases (show u=Value.none from rx);exact ab6 W.kitx_none I.jw True.intro e (fun z=>nomatch z) h
 | bl y=>cases (show u=Value.bool y from rx);exact ab6 W.kitx_bool I.jw True.intro e (fun z=>nomatch z) h
 | int i=>obtain⟨t,q⟩:=(show ∃ t,u=Value.int i t from rx);cases q;exact ab6 W.kitx_int I.jw True.intro e (fun z=>nomatch z) h
 | str y=>obtain⟨t,q⟩:=(show ∃ t,u=Value.str y t from rx);cases q;exact ab6 W.kitx_str I.jw True.intro e (fun z=>nomatch z) h
 | FD y=>obtain⟨t,q⟩:=(show ∃ t,u=Value.float y t from rx);cases q;exact ab6 W.kitx_float I.jw True.intro e (fun z=>nomatch z) h
 | @lst a xs ea=>
  cases (show u=Value.ref a from rx)
  obtain⟨_,_,n,_,h1⟩:=(show bI X.prog X.w H s.heap a (.lst xs) from I.bh a _ ea)
  exact ab6 W.kitx_list I.jw ⟨_,h1,rfl⟩ e (fun z=>nomatch z) h
 | @mK a ob xs ea=>
  cases (show u=Value.ref a from rx)
  obtain⟨_,_,_,n,_,h1⟩:=(show bI X.prog X.w H s.heap a (.mK ob (.lst xs)) from I.bh a _ ea)
  exact ab6 W.kitx_list I.jw ⟨_,h1,rfl⟩ e (fun z=>nomatch z) h
 | @tup a xs ea=>
  cases (show u=Value.ref a from rx)
  obtain⟨_,_,_,p⟩:=(show bI X.prog X.w H s.heap a (.tup xs) from I.bh a _ ea)
  obtain⟨o,h1,h2,_⟩:=p
  exact ab6 W.kitx_tuple I.jw ⟨o,h1,h2⟩ e (fun z=>nomatch z) h
 | @dK a mC ea=>
  cases (show u=Value.ref a from rx)
  obtain⟨_,_,vs,_,p⟩:=(show bI X.prog X.w H s.heap a (.dK mC) from I.bh a _ ea)
  obtain⟨o,es,ep,h1,h2,_⟩:=p
  exact ab6 W.kitx_dict I.jw ⟨o,h1,h2.1⟩ e (fun z=>nomatch z) h
 | @dT a mC ea=>
  cases (show u=Value.ref a from rx)
  obtain⟨_,_,xs,_,o,es,ep,h1,h2,_⟩:=(show bI X.prog X.w H s.heap a (.dT mC) from I.bh a _ ea)
  exact ab6 W.kitx_dict I.jw ⟨o,h1,h2.1⟩ e (fun z=>nomatch z) h
 | @ins a C dx fs ea cl ha hn Uc hm=>
  cases (show u=Value.ref a from rx)
  obtain⟨mA,O,_⟩:=FL I.bh ea
  obtain⟨od,J,_⟩:=O.look
  exact ab6 (W.kitx_own (cl.get _) cl.hd ha hn Uc hm) I.jw J e (fun z=>nomatch z) h
end
structure dt (k:Nat)(A:Around):Prop where
 hd:A.handled=none
 dp:A.depth+3*k+5<recursionLimit
 un:A.units+16*k+200<cLine
theorem dt.mono {j k:Nat}{A:Around}(r:dt k A)(h:j<=k):dt j A:=⟨r.hd,by have:=r.dp;omega,by have:=r.un;omega⟩
theorem dt.deeper {k:Nat}{A:Around}(r:dt (k+1) A)(env:Env):dt k (A.deeper env):=
 ⟨r.hd,by have:=r.dp;show A.depth+1+3*k+5<_;omega,by have:=r.un;show A.units+3+16*k+200<_;omega⟩
theorem dt.in1 {k:Nat}{A:Around}(r:dt (k+1) A):dt k A.in1:=
 ⟨r.hd,by have:=r.dp;show A.depth+3*k+5<_;omega,by have:=r.un;show A.units+1+16*k+200<_;omega⟩
theorem xJ {A:Around}{C:Addr}{us:List Value}{kw:List (Str × Value)}:(A.under (.builtin "type.__call__" ⟨.ref C::us,kw⟩)).depth=A.depth+1:=by
 first|rfl|simp[Around.under,Code.weight,Code.isCreation,Code.isGuard,Code.isCaller,Code.frames,Code.isFrame,guardIds]
theorem xK {A:Around}{C:Addr}{us:List Value}{kw:List (Str × Value)}:(A.under (.builtin "type.__call__" ⟨.ref C::us,kw⟩)).units=A.units+1:=by
 first|rfl|simp[Around.under,Code.cUnits,Code.frames,Code.isFrame]
theorem dt.make {k:Nat}{A:Around}(r:dt (k+1) A)(C:Addr)(us:List Value)(kw:List (Str × Value)):dt k (A.under (.builtin "type.__call__" ⟨.ref C::us,kw⟩)):=
 ⟨r.hd,by have:=r.dp;rw[xJ];omega,by have:=r.un;rw[xK];omega⟩
theorem dt.depth {k:Nat}{A:Around}(r:dt k A):A.depth<recursionLimit:=by have:=r.dp;omega
def QP:TA:=fun _ H Q=>Q [] H
def MA (ta:TE)(tr:TA):TA:=fun σ H Q=>ta σ H fun x H1=>tr σ H1 fun xs H2=>Q (x::xs) H2
section
variable {X:Cx}{e:Expr}{es:List Expr}{te:TE}{t:TA}{pos:Pos}
theorem ag:PA X [] QP:=fun _ _ _ _ H Q I h=>Calls.spliced_nil ⟨[],H,I,.nil,h⟩
theorem ae (ha:PE X e te)(hr:PA X es t)(hs:starEach (e::es) X.env=(false,eval e X.env)::starEach es X.env:=by rfl):PA X (e::es) (MA te t):=by
 intro pos pins s σ H Q I h
 rw[hs]
 show wpAny _ _ (spliced ((false,eval e X.env)::backTo pos (starEach es X.env))) _ _ s
 refine Calls.spliced_cons (eD (ha pins s σ H _ I h) fun u s1 ⟨x,H1,I1,r1,q1⟩=>?_)
 exact eD (hr pos pins s1 σ H1 _ I1 q1) fun us s2 ⟨xs,H2,I2,r2,q2⟩=>⟨x::xs,H2,I2,.cons r1 r2,q2⟩
def QR (t:TA):TE:=fun σ H Q=>t σ H fun xs H1=>xs.length<=sizeLine/\∀ p,H1 p=none->Q (.ref p) (upd H1 p (.tup xs))
def QS (t:TA):TE:=fun σ H Q=>t σ H fun xs H1=>xs.length<=sizeLine/\∀ p,H1 p=none->Q (.ref p) (upd H1 p (.lst xs))
theorem aS {x1}(h:PA X es t):PE X (.Tuple es x1 pos) (QR t):=by
 intro pins s σ H Q I hq
 refine wpAny_Tuple_spliced (eD (h pos pins s σ H _ I hq) fun us s1 ⟨xs,H1,I1,r,z,q⟩=>⟨by rw[<- r.length];exact z,?_⟩)
 have hf:H1 s1.heap.objs.size=none:=I1.bh.fresh (ZL _)
 refine⟨.ref s1.heap.objs.size,upd H1 s1.heap.objs.size (.tup xs),I1.laid (t':=s1.toks) (fun b u e=>ZE _ e) (ZL _) ?_,rfl,q _ hf⟩
 exact⟨z,us,r,⟨_,ZN _ rfl,rfl,_,rfl⟩⟩
theorem bG (h:PA X es t):PE X (.List es pos) (QS t):=by
 intro pins s σ H Q I hq
 refine wpAny_List_spliced (eD (h pos pins s σ H _ I hq) fun us s1 ⟨xs,H1,I1,r,z,q⟩=>⟨by rw[<- r.length];exact z,?_⟩)
 have hf:H1 s1.heap.objs.size=none:=I1.bh.fresh (ZL _)
 refine⟨.ref s1.heap.objs.size,upd H1 s1.heap.objs.size (.lst xs),I1.laid (t':=s1.toks) (fun b u e=>ZE _ e) (ZL _) ?_,rfl,q _ hf⟩
 exact⟨z,us,0,r,ZN _ rfl⟩
end
abbrev Sp:=List V->Hp->VK->XK->Prop
abbrev sj:=List Env->Hp->Shared->XK->Value->Shared->Prop
structure rO (P:Program)(w:World)(K:W.Frag)(mg:Str->Option Value)(base:Heap)(A:Around)(outer:List Env)(s:Shared)(H:Hp):Prop where
 frames:A.frames=some outer
 mod:Mod K mg base
 bs:∀ b o,base.get? b=some o->s.heap.get? b=some o/\H b=none
 vn:base.objs.size<=s.heap.objs.size
 jy:s.heap.FunFrames base outer
 pU:∀ b∈eM outer,H b=none
 bh:ki P w H s.heap
 bare:AllBare s.gens
def CE (outer:List Env)(P:Program)(w:World)(H:Hp)(s:Shared)(Q:VK)(u:Value)(s':Shared):Prop:=
 ∃ v H',s'.os=s.os/\AllBare s'.gens/\Un (eM outer) [] H H' s.heap s'.heap/\ki P w H' s'.heap/\RelV v u/\Q v H'
def CR (CX:sj)(outer:List Env)(P:Program)(w:World)(H:Hp)(s:Shared)(Q:VK)(E:XK)(r:Result)(s':Shared):Prop:=
 match r with
 | .ok (.ret u)=>CE outer P w H s Q u s'
 | .ok _=>False
 | .error e=>CX outer H s E e s'
structure ji (P:Program)(w:World)(K:W.Frag)(mg:Str->Option Value)(base:Heap)(CX:sj)(k:Nat)(f:Addr)(fd:FuncData)(ps:List Str)(sp:Sp):Prop where
 len:∀ vs H Q E,sp vs H Q E->vs.length=ps.length
 run:∀ (A:Around) (outer:List Env) (s:Shared) (H:Hp) (args:Args) (us:List Value) (vs:List V) (Q:VK) (E:XK),dt k A->rO P w K mg base A outer s H->BindsTo s fd args (ps.zip us)->Vals vs us->sp vs H Q E ->
  codeAny (model P w) A (.call (.ref f) args) (CR CX outer P w H s Q E) s
theorem rO.make {P:Program}{w:World}{K:W.Frag}{mg:Str->Option Value}{base:Heap}{A:Around}{outer:List Env}{s:Shared}{H:Hp}(e:rO P w K mg base A outer s H)(C:Addr)(us:List Value)(kw:List (Str × Value)) :
  rO P w K mg base (A.under (.builtin "type.__call__" ⟨.ref C::us,kw⟩)) outer s H:=⟨by first|exact e.frames|(simpa [Around.under,Code.envs,Code.isFrame,pushEnvs] using e.frames),e.mod,e.bs,e.vn,e.jy,e.pU,e.bh,e.bare⟩
section
variable {X:Cx}{pins:List (Addr × Obj)}{σ:St}{H:Hp}{s s':Shared}
theorem Inv.FO (I:Inv X pins σ H s):rO X.prog X.w X.K X.mg X.base X.A X.stack s H:=
 ⟨I.ok.frames,I.ok.mod,I.bs,ZV I.ok.vn I.sz,I.stack,I.kj,I.bh,I.bare⟩
theorem Inv.after {Q:VK}{u:Value}(I:Inv X pins σ H s)(h:CE X.stack X.prog X.w H s Q u s'):EP X pins σ Q u s':=by
 obtain⟨v,H',os,bare,un,bh,r,q⟩:=h
 obtain⟨hh,g,d,t,QT⟩:=s'
 obtain rfl:QT=s.os:=os
 exact⟨v,H',I.call (h':=hh) (g':=g) (d':=d) (t':=t) (ch:=[]) un bh bare (fun b z=>absurd z (by simp)),r,q⟩
end
def zu (sp:Sp)(zv:List V)(E:XK)(t:TA):TE:=fun σ H Q=>t σ H fun vs H1=>sp (vs++zv) H1 Q E
def Binds (K:W.Frag)(fd:FuncData)(ps:List Str)(ds:List Value):Prop:=
 ∀ (s:Shared) (us:List Value),K.In s.heap->(us++ds).length=ps.length->BindsTo s fd ⟨us,[]⟩ (ps.zip (us++ds))
theorem Binds.all {K:W.Frag}{fd:FuncData}{ps:List Str}(h:∀ us:List Value,us.length=ps.length->bindArgs fd ⟨us,[]⟩=pure (ps.zip us)):Binds K fd ps []:=fun s us _ hl=>by
 rw[aa6] at hl ⊢
 exact .of_eq (h us hl)
def Passes (CX:sj)(X:Cx)(E:XK):Prop:=∀ (pins:List (Addr × Obj)) (σ:St) (H:Hp) (s:Shared) (e:Value) (s':Shared),Inv X pins σ H s->CX X.stack H s E e s'->X.xe e s'
section
variable {X:Cx}{CX:sj}{k:Nat}{f C:Addr}{fd:FuncData}{ps:List Str}{sp:Sp}{zv:List V}{ds:List Value}{E:XK}{x m:Str}{p pos apos:Pos}{e o:Expr}{es:List Expr}{ta:TE}{t:TA}
theorem Jx {pins:List (Addr × Obj)}{σ:St}{H:Hp}{s:Shared}{Q:VK}{us:List Value}{vs:List V}(F:ji X.prog X.w X.K X.mg X.base CX k f fd ps sp)(hr:dt k X.A)(hb:Binds X.K fd ps ds)(hd:Vals zv ds)(hx:Passes CX X E)
  (I:Inv X pins σ H s) (r:Vals vs us) (h:sp (vs++zv) H Q E):wpAny (model X.prog X.w) X.A (call (.ref f) us) (EP X pins σ Q) X.xe s:=by
 have r2:Vals (vs++zv) (us++ds):=r.append hd
 have hl:(us++ds).length=ps.length:=by rw[<- r2.length];exact F.len _ _ _ _ h
 refine abL (abO (F.run X.A X.stack s H ⟨us,[]⟩ (us++ds) (vs++zv) Q E hr I.FO (hb s us I.jw hl) r2 h) fun r s' hq=>?_)
 cases r with
 | error e=>exact hx pins σ H s e s' I hq
 | ok fl=>
  cases fl with
  | ret u=>exact I.after hq
  | next=>exact False.elim hq
  | brk=>exact False.elim hq
  | cont=>exact False.elim hq
theorem FP (F:ji X.prog X.w X.K X.mg X.base CX k f fd ps sp)(hr:dt k X.A)(hg:Gl X x)(hm:X.mg x=some (.ref f))(hk:W.keepIn X.K (.ref f)=true)(hb:Binds X.K fd ps ds)(hd:Vals zv ds)(hx:Passes CX X E)
  (ha:PA X (e::es) t) (oj:(x==("__debug__":Str))=false:=by decide) (he:starEach (e::es) X.env=(false,eval e X.env)::starEach es X.env:=by rfl) (ir:(backTo pos (starEach es X.env)).any (·.1)=false:=by rfl) :
  PE X (.Call (.Name x p) (e::es) [] pos) (zu sp zv E t):=by
 intro pins s σ H Q I h
 refine ab2 (eY I hg hm ?_ oj)
 refine W.callWith_K (h₀:=X.base) I.ok.mod.Hu hk (eD (ha pos pins s σ H _ I h) fun us s1 ⟨vs,H1,I1,r,q⟩=>⟨I1.jw,?_⟩) he ir
 exact Jx F hr hb hd hx I1 r q
end
section
variable {X:Cx}{CX:sj}{k:Nat}{f C:Addr}{fd:FuncData}{ps ks:List Str}{sp:Sp}{E:XK}{x m:Str}{p pos apos VI:Pos}{e o:Expr}{es:List Expr}{Y7:List Keyword}{te ta:TE}{t tk:TA}{nm:Option Str}
variable {g:List Value->List Value->List Value}{gV:List V->List V->List V}
end
structure ay (N P:List Str)(sc:Scope):Prop where
 kind:sc.kind=.function
 co:sc.isCoroutine=false
 gen:sc.isGenerator=false
 nd:N.Nodup
 pre:N.take P.length=P
 par:∀ x∈P,sc.names.lookup x=some .local\/sc.names.lookup x=some .cell
 Jy:∀ y∈sc.names,y.2≠.free
theorem sk {kindOf:Str->Option NameKind}{x:Str}:∀ {binds:List (Str × Value)}{m:Str->Option Value},(∀ v,(x,v)∉binds)->bindL kindOf binds m x=m x
 | [],_,_=>rfl
 | (n,v)::r,m,h=>by
  unfold bindL
  rw[sk fun w hw=>h w (aav _ hw)]
  split
  ·have:x≠n:=by rintro rfl;exact h v aaZ
   simp[this]
  ·rfl
theorem su {kindOf:Str->Option NameKind}{x:Str}:∀ {binds:List (Str × Value)}{m:Str->Option Value},(∀ v,(x,v)∉binds)->bindC kindOf binds m x=m x
 | [],_,_=>rfl
 | (n,v)::r,m,h=>by
  unfold bindC
  rw[su fun w hw=>h w (aav _ hw)]
  split
  ·rfl
  ·have:x≠n:=by rintro rfl;exact h v aaZ
   simp[this]
theorem sv {kindOf:Str->Option NameKind}{x:Str}{v:Value}:∀ {P:List Str}{vs:List Value}{i:Nat}{m:Str->Option Value},P.Nodup->P[i]?=some x->vs[i]?=some v->kindOf x=some .local ->
  bindL kindOf (P.zip vs) m x=some v
 | [],_,_,_,_,h,_,_=>by simp at h
 | _::_,[],_,_,_,_,h,_=>by simp at h
 | p::P,w::vs,0,m,nd,h1,h2,hk=>by
  simp at h1 h2;subst h1;subst h2
  show bindL kindOf ((p,w)::P.zip vs) m p=_
  unfold bindL
  rw[sk fun v hv=>(abz.mp nd).1 (adn hv).1,aag hk]
  simp
 | p::P,w::vs,i+1,m,nd,h1,h2,hk=>by
  show bindL kindOf ((p,w)::P.zip vs) m x=_
  unfold bindL
  exact sv (i:=i) (abz.mp nd).2 (by simpa using h1) (by simpa using h2) hk
theorem sA {kindOf:Str->Option NameKind}{x:Str}{v:Value}:∀ {P:List Str}{vs:List Value}{i:Nat}{m:Str->Option Value},P.Nodup->P[i]?=some x->vs[i]?=some v->kindOf x≠some .local ->
  bindC kindOf (P.zip vs) m x=some v
 | [],_,_,_,_,h,_,_=>by simp at h
 | _::_,[],_,_,_,_,h,_=>by simp at h
 | p::P,w::vs,0,m,nd,h1,h2,hk=>by
  simp at h1 h2;subst h1;subst h2
  show bindC kindOf ((p,w)::P.zip vs) m p=_
  unfold bindC
  rw[su fun v hv=>(abz.mp nd).1 (adn hv).1,Z4 hk]
  simp
 | p::P,w::vs,i+1,m,nd,h1,h2,hk=>by
  show bindC kindOf ((p,w)::P.zip vs) m x=_
  unfold bindC
  exact sA (i:=i) (abz.mp nd).2 (by simpa using h1) (by simpa using h2) hk
def start (N:List Str)(vs:List V):St:=vs.map some++List.replicate (N.length-vs.length) none
def cR (CX:sj)(P:Program)(w:World)(K:W.Frag)(mg:Str->Option Value)(base:Heap)(N:List Str)(qual:Str)(scope:Scope)(f:Addr)(cd:Value)(A:Around)(outer:List Env)(s:Shared)(H:Hp)(E:XK):Cx where
 prog:=P
 w:=w
 K:=K
 mg:=mg
 base:=base
 A:=A.deeper (envOfC qual scope s.heap.objs.size f cd)
 N:=N
 s₀:=s
 H₀:=H
 env:=envOfC qual scope s.heap.objs.size f cd
 outer:=outer
 stack:=envOfC qual scope s.heap.objs.size f cd::outer
 ex:=[]
 calm:=true
 cb:=true
 fz:=[]
 fn:=fun _=>true
 pn:=[]
 xe:=fun e s'=>wpAny (model P w) (A.deeper (envOfC qual scope s.heap.objs.size f cd)) (leaving (envOfC qual scope s.heap.objs.size f cd) e) (fun _ xr=>CX outer H s E e xr) (fun e' xr=>CX outer H s E e' xr) s'
theorem vB {sc:Scope}{n:Nat}{x:Str}(h:sc.names.lookup x=some .cell):∃ c,(cellsFrom n sc.names []).lookup x=some c:=by
 have q:=ad5 sc.names n [] (.inl h)
 exact aby.mp q
theorem sC {CX:sj}{P:Program}{w:World}{K:W.Frag}{mg:Str->Option Value}{base:Heap}{N ps:List Str}{qual:Str}{scope:Scope}{f:Addr}{cd:Value}{A:Around}{outer:List Env}{s s1:Shared}{H:Hp}{E:XK}{us:List Value}{vs:List V}
  (S:ay N ps scope) (hd:A.handled=none) (e0:rO P w K mg base A outer s H) (hl:vs.length=ps.length) (r:Vals vs us)
  (x:InCallC s s.heap.objs.size (bindL (envOfC qual scope s.heap.objs.size f cd).kindOf (ps.zip us) fun _=>none) (cellsFrom (s.heap.objs.size+1) scope.names []) (bindC (envOfC qual scope s.heap.objs.size f cd).kindOf (ps.zip us) fun _=>none) s1) :
  Inv (cR CX P w K mg base N qual scope f cd A outer s H E) [] (start N vs) H s1:=by
 have ir:ps.length<=N.length:=by have:=aai List.length S.pre;rw[abk] at this;omega
 obtain⟨h1,tk,rfl,hk⟩:=x.done
 have MB:∀ b:Addr,b∉(cR CX P w K mg base N qual scope f cd A outer s H E).ex:=fun b z=>absurd (show b∈([]:List Addr) from z) (by simp)
 refine⟨⟨e0.mod,S.kind,rfl,rfl,ZL _,fun y z c h1 h2=>?_,fun y hy=>?_,fun y c _ h=>?_,fun _=>hd,fun _=>.inl hd,adG e0.frames,.inr ⟨rfl,rfl⟩,fun b z=>absurd z (MB b),e0.bs,e0.vn,fun b _ _=>MB b,fun b z=>absurd z (MB b),e0.jy,e0.pU⟩,
  (fun p hp=>nomatch hp),rfl,e0.bare,Un.kept hk,⟨_,x.toInCall.ns,fun i y v h1 h2 h3=>?_⟩,fun y c h=>⟨_,x.cell y c h⟩,e0.bh.fresh (ZL _),fun y c h=>?_,fun p hp=>absurd (show p∈([]:List (Addr × Obj)) from hp) (by simp),e0.bh.kept hk,?_⟩
 ·exact name_of_addr x.apart (aaQ h1) (aaQ h2)
 ·have hy:scope.names.lookup y=some .cell\/scope.names.lookup y=some .free:=hy
  rcases hy with hy|hy
  ·exact vB hy
  ·exact absurd rfl (S.Jy _ (aaQ hy))
 ·exact acg (x.above y c (aaQ h))
 ·have hi:i<vs.length:=by
   unfold start at h2
   by_cases hi:i<vs.length
   ·exact hi
   ·rw[acK (by simpa using hi)] at h2
    rw[List.getElem?_replicate] at h2
    split at h2<;>cases h2
  have ha:vs[i]?=some v:=by
   unfold start at h2
   rw[List.getElem?_append_left (by simpa using hi),ZU] at h2
   cases e:vs[i]? with
   | none=>rw[e] at h2;cases h2
   | some a=>rw[e] at h2;cases h2;rfl
  obtain⟨u,hu,rv⟩:=r.get ha
  have hp:ps[i]?=some y:=by
   rw[<- S.pre,List.getElem?_take_of_lt (by omega)];exact h1
  have Ud:ps.Nodup:=by rw[<- S.pre];exact S.nd.sublist (List.take_sublist _ _)
  refine⟨u,rv,?_⟩
  rcases S.par y (aau hp) with k|k
  ·exact .inl ⟨k,sv Ud hp hu k⟩
  ·obtain⟨c,e⟩:=vB (n:=s.heap.objs.size+1) k
   refine .inr ⟨.inl k,c,e,?_⟩
   have q:=x.cell y c e
   rw[sA Ud hp hu (by show scope.names.lookup y≠_;rw[k];decide)] at q
   exact q
 ·exact e0.bh.fresh (acg (x.above y c (aaQ h)))
 ·unfold start
  show _=N.length
  rw[aaN,ZR,List.length_replicate]
  omega
theorem zw {CX:sj}{P:Program}{w:World}{K:W.Frag}{mg:Str->Option Value}{base:Heap}{k:Nat}{f:Addr}{name qual:Str}{params:Arguments}{body:List Stmt}{scope:Scope}{dV kV doc pm aZ ct oc:Value}{an od:Option Addr}
  {pF:Array (Option Value)}{N ps:List Str}{sp:Sp} (lk:K.lookup f=some ⟨oc,od,.func (W.fnOf name qual params body scope dV kV doc pm an aZ ct),pF⟩) (pD:W.codeIn K aZ qual=true) (S:ay N ps scope)
  (len:∀ vs H Q E,sp vs H Q E->vs.length=ps.length)
  (eF:∀ (A:Around) (outer:List Env) (s:Shared) (H:Hp) (vs:List V) (Q:VK) (E:XK),dt k (A.deeper (envOfC qual scope s.heap.objs.size f aZ))->sp vs H Q E ->
   ∃ t,kL (cR CX P w K mg base N qual scope f aZ A outer s H E) body t/\t { nx:=fun _ H'=>Q .eB H',rt:=Q } (start N vs) H) :
  ji P w K mg base CX (k+1) f (W.fnOf name qual params body scope dV kV doc pm an aZ ct) ps sp:=by
 refine⟨len,fun A outer s H args us vs Q E hr e0 hb r tN=>?_⟩
 have hl:=len _ _ _ _ tN
 have KX:K.In s.heap:=e0.mod.Hu.keeps fun b o e=>(e0.bs b o e).1
 have lim:s.heap.NoLimit:=e0.mod.nolimit.keeps fun b o e=>(e0.bs b o e).1
 have Cw:∀ y∈ps.zip us,scope.names.lookup y.1=some .local\/(scope.names.lookup y.1=some .cell/\((cellsFrom (s.heap.objs.size+1) scope.names []).lookup y.1).isSome=true):=fun ⟨n,v⟩ hy=>by
  rcases S.par n (adn hy).1 with q|q
  ·exact .inl q
  ·exact .inr ⟨q,ad5 _ _ _ (.inl q)⟩
 refine codeAny_call_function hr.depth (KX _ _ lk) rfl S.co S.gen rfl (W.codeRec_of KX pD) (hb _ _ _ _ ?_)
 refine wpAny_newFunctionEnv_cells S.kind Cw fun env he s1 x=>?_
 subst he
 refine⟨lim.keeps x.toInCall.keep,codeAny_func ?_⟩
 obtain⟨t,ht,hq⟩:=eF A outer s H vs Q E (hr.deeper _) tN
 have I:Inv (cR CX P w K mg base N qual scope f aZ A outer s H E) [] (start N vs) H s1:=sC S hr.hd e0 hl r x
 refine Z2 (ht [] s1 (start N vs) H _ I hq) (fun fl s' hs=>?_) fun e s' hs=>hs
 have fin:∀ {σ':St}{H':Hp}{v:V}{u:Value},Inv (cR CX P w K mg base N qual scope f aZ A outer s H E) [] σ' H' s'->RelV v u->Q v H'->CE outer P w H s Q u s':=
  fun {σ' H' v u} J rv q=>⟨v,H',J.os,J.bare,J.base,J.bh,rv,q⟩
 cases fl with
 | ret u=>
  obtain⟨v,σ',H',J,rv,q⟩:=hs
  exact fin J rv q
 | next=>
  obtain⟨σ',H',J,q⟩:=hs
  exact fin (v:=V.eB) (u:=Value.none) J rfl q
 | brk=>
  obtain⟨_,_,_,q⟩:=hs
  exact False.elim q
 | cont=>
  obtain⟨_,_,_,q⟩:=hs
  exact False.elim q
section
variable {X:Cx}{x:Str}{p pos:Pos}{e:Expr}{es:List Expr}{t:TA}{id T:String}{r:List V->Hp->VK->Prop}
def Ue (r:List V->Hp->VK->Prop)(t:TA):TE:=fun σ H Q=>t σ H fun vs H1=>r vs H1 Q
theorem aJ (hc:gI X (.builtin id) r)(hg:Gl X x)(hm:X.mg x=none)(hv:bootBuiltins x=some (.builtin id))(ha:PA X (e::es) t)(hn:x≠"__name__":=by decide)(oj:(x==("__debug__":Str))=false:=by decide)
  (he:starEach (e::es) X.env=(false,eval e X.env)::starEach es X.env:=by rfl) (ir:(backTo pos (starEach es X.env)).any (·.1)=false:=by rfl):PE X (.Call (.Name x p) (e::es) [] pos) (Ue r t):=by
 intro pins s σ H Q I h
 refine ab2 (mL I hg hm hv ?_ hn oj)
 exact PyProof.Rows.callWith_builtin1 (eD (ha pos pins s σ H _ I h) fun us s1 ⟨vs,H1,I1,r1,q1⟩=>hc pins s1 σ H1 vs us Q I1 r1 q1) he ir
theorem dW (hc:gI X (.type T) r)(hg:Gl X x)(hm:X.mg x=none)(hv:bootBuiltins x=some (.type T))(ha:PA X (e::es) t)(hn:x≠"__name__":=by decide)(oj:(x==("__debug__":Str))=false:=by decide)
  (he:starEach (e::es) X.env=(false,eval e X.env)::starEach es X.env:=by rfl) (ir:(backTo pos (starEach es X.env)).any (·.1)=false:=by rfl):PE X (.Call (.Name x p) (e::es) [] pos) (Ue r t):=by
 intro pins s σ H Q I h
 refine ab2 (mL I hg hm hv ?_ hn oj)
 exact acG (eD (ha pos pins s σ H _ I h) fun us s1 ⟨vs,H1,I1,r1,q1⟩=>hc pins s1 σ H1 vs us Q I1 r1 q1) he ir
end
end L2
namespace HT
open PySem PyProof.Rows
section
open PySem.SeqAt
open PySem.AutoSeq1 (wpAny_loadPart')
open PySem.MeetsSeq PySem.MeetsSeq2 PySem.MeetsSeq3
end
section
variable {prog:Program}{w:World}{A:Around}{E:Value->Shared->Prop}{s:Shared}
def vo (n d:Nat):Option Int->Nat
 | none=>d
 | some v=>if v<0 then (v+(n:Int)).toNat else min v.toNat n
theorem FQ (n d k:Nat):vo n d (some (k:Int))=min k n:=by
 show (if (k:Int)<0 then ((k:Int)+(n:Int)).toNat else min (k:Int).toNat n)=min k n
 rw[Z4 (by omega),aaE]
end
end HT
namespace L2
open PySem PySem.Spec PyProof.Rows
abbrev TO:=St->Hp->(Option Int->Hp->Prop)->Prop
def PO (X:Cx)(e:Option Expr)(t:TO):Prop:=
 ∀ (pins:List (Addr × Obj)) (s:Shared) (σ:St) (H:Hp) (Q:Option Int->Hp->Prop),Inv X pins σ H s->t σ H Q ->
  wpAny (model X.prog X.w) X.A (evalPart e X.env) (fun u s'=>∃ o H',Inv X pins σ H' s'/\IsPart u o/\Q o H') X.xe s
def FR:TO:=fun _ H Q=>Q none H
inductive Cy (Q:Option Int->Hp->Prop)(x:V)(H1:Hp):Prop
 | mk:∀ i,(x=.int i)->(Q (some i) H1)->Cy Q x H1
def MC (t:TE):TO:=fun σ H Q=>t σ H fun x H1=>Cy Q x H1
section
variable {X:Cx}{e:Expr}{te:TE}{lo hi:Option Expr}{tl th:TO}{pos p2:Pos}
theorem FT:PO X none FR:=by
 intro pins s σ H Q I h
 rw[evalPart_none]
 exact ZF ⟨none,H,I,.none,h⟩
theorem FU (h:PE X e te):PO X (some e) (MC te):=by
 intro pins s σ H Q I hw
 rw[evalPart_some]
 refine eD (h pins s σ H _ I hw) fun u s1 ⟨x,H1,I1,r1,q1⟩=>?_
 obtain⟨i,rfl,q⟩:=q1
 obtain⟨t,rfl⟩:=r1
 exact⟨some i,H1,I1,.int i t,q⟩
def Ug (X:Cx)(r:V->Option Int->Option Int->Hp->VK->Prop):Prop:=
 ∀ (pins:List (Addr × Obj)) (s:Shared) (σ:St) (H:Hp) (x:V) (v vl vu:Value) (lo hi:Option Int) (sl:Addr) (Q:VK),Inv X pins σ H s->RelV x v->s.heap.IsSliceOf sl vl vu .none->IsPart vl lo->IsPart vu hi->r x lo hi H Q ->
  ∃ T id,typeLookup (.type T) "__getitem__"=pure (some (.builtin id))/\s.TypeIs v T/\wpAny (model X.prog X.w) X.A (getItem v (.ref sl)) (EP X pins σ Q) X.xe s
def VJ (r:V->Option Int->Option Int->Hp->VK->Prop)(te:TE)(tl th:TO):TE:=fun σ H Q=>te σ H fun x H1=>tl σ H1 fun l H2=>th σ H2 fun u H3=>r x l u H3 Q
theorem Cz {r:V->Option Int->Option Int->Hp->VK->Prop}(hr:Ug X r)(he:PE X e te)(hl:PO X lo tl)(hu:PO X hi th):PE X (.Subscript e (.Slice lo hi none p2) pos) (VJ r te tl th):=by
 intro pins s σ H Q I h
 refine Subscript_ (eD (he pins s σ H _ I h) fun v s1 ⟨x,H1,I1,r1,q1⟩=>?_)
 refine wpAny_Slice (eD (hl pins s1 σ H1 _ I1 q1) fun vl s2 ⟨l,H2,I2,pl,q2⟩=>eD (hu pins s2 σ H2 _ I2 q2) fun vu s3 ⟨u,H3,I3,pu,q3⟩=>?_)
 rw[evalPart_none]
 refine ZF ?_
 have I4:Inv X pins σ H3 { s3 with heap:=s3.heap.push { cls:=.type "slice",data:=.fields #[vl,vu,.none] } }:=I3.kept (t':=s3.toks) fun b ob q=>ZE _ q
 obtain⟨T,id,hT,ht,hg⟩:=hr pins { s3 with heap:=s3.heap.push { cls:=.type "slice",data:=.fields #[vl,vu,.none] } } σ H3 x v vl vu l u s3.heap.objs.size Q I4 r1 (Heap.IsSliceOf.new ..) pl pu q3
 show wpAny (model X.prog X.w) X.A (subscriptTail e (.Slice lo hi none p2) v (.ref s3.heap.objs.size)) (EP X pins σ Q) X.xe { s3 with heap:=s3.heap.push { cls:=.type "slice",data:=.fields #[vl,vu,.none] } }
 exact tail_any (ops:=[.ref s3.heap.objs.size,v]) ht hT hg (by with_unfolding_all rfl)
def AV (xs:List V)(lo hi:Option Int):List V:=(xs.drop (HT.vo xs.length 0 lo)).take (HT.vo xs.length xs.length hi-HT.vo xs.length 0 lo)
theorem vC (xs:List V)(lo hi:Option Int):(AV xs lo hi).length<=xs.length:=by
 unfold AV
 rw[abk,List.length_drop]
 omega
end
def Jz (n:Nat)(i:Int):Option Nat:=if 0<=i then (if i<n then some i.toNat else none) else if -(n:Int)<=i then some (i+n).toNat else none
def pZ {α:Type}(xs:List α)(i:Int):Option α:=(Jz xs.length i).bind fun j=>xs[j]?
theorem zx {n:Nat}{i:Int}{j:Nat}(h:Jz n i=some j):seqIndex? i n=some j/\j<n/\-(n:Int)<=i/\i<n:=by
 unfold Jz at h
 by_cases h0:0<=i
 ·rw[aag h0] at h
  by_cases h1:i<n
  ·rw[aag h1] at h
   have e:i.toNat=j:=ZG h
   exact⟨by rw[seqIndex_of h0 h1,e],by omega,by omega,h1⟩
  ·rw[Z4 h1] at h;cases h
 ·rw[Z4 h0] at h
  by_cases h1:-(n:Int)<=i
  ·rw[aag h1] at h
   have e:(i+n).toNat=j:=ZG h
   exact⟨by rw[seqIndex_neg (by omega) h1,e],by omega,h1,by omega⟩
  ·rw[Z4 h1] at h;cases h
theorem tO {α:Type}{xs:List α}{i:Int}{v:α}(h:pZ xs i=some v):∃ j,seqIndex? i xs.length=some j/\xs[j]?=some v/\j<xs.length/\-(xs.length:Int)<=i/\i<xs.length:=by
 unfold pZ at h
 cases e:Jz xs.length i with
 | none=>rw[e] at h;cases h
 | some j=>
  rw[e] at h
  obtain⟨h1,h2,h3,h4⟩:=zx e
  exact⟨j,h1,h,h2,h3,h4⟩
theorem zy {α:Type}{xs:List α}{j:Nat}{v:α}(h:xs[j]?=some v):pZ xs (j:Int)=some v:=by
 have hj:j<xs.length:=(aae.mp h).1
 have e:Jz xs.length (j:Int)=some j:=by
  unfold Jz
  rw[aag (by omega),aag (by omega)];simp
 unfold pZ;rw[e];exact h
def zA (b:Expr):Prop:=∀ o i,subscripted b false o i=operate [o,i] (getItem o i)
def AW (X:Cx)(r:R2):Prop:=
 ∀ (value slice:Expr) (pins:List (Addr × Obj)) (s:Shared) (σ:St) (H:Hp) (x y:V) (v u:Value) (Q:VK),Inv X pins σ H s->RelV x v->RelV y u->r x y H Q ->
  subscripted slice false v u=operate [v,u] (getItem v u)->wpAny (model X.prog X.w) X.A (subscriptTail value slice v u) (EP X pins σ Q) X.xe s
def Uh (X:Cx)(id:String)(r:V->List V->Hp->VK->Prop):Prop:=
 ∀ (pins:List (Addr × Obj)) (s:Shared) (σ:St) (H:Hp) (x:V) (xs:List V) (v:Value) (us:List Value) (Q:VK),Inv X pins σ H s->RelV x v->Vals xs us->r x xs H Q ->
  wpAny (model X.prog X.w) X.A (call (.builtin id) (v::us)) (EP X pins σ Q) X.xe s
section
variable {X:Cx}{a b:Expr}{ta tb:TE}{pos:Pos}
theorem AW.or {r r':R2}(h:AW X r)(h':AW X r'):AW X (fun x y H Q=>r x y H Q\/r' x y H Q):=by
 intro value slice pins s σ H x y v u Q I rx ry q hs
 rcases q with q|q
 ·exact h value slice pins s σ H x y v u Q I rx ry q hs
 ·exact h' value slice pins s σ H x y v u Q I rx ry q hs
theorem MD {r:R2}(hr:AW X r)(ha:PE X a ta)(hb:PE X b tb)(hs:zA b):PE X (.Subscript a b pos) (Mx r ta tb):=by
 intro pins s σ H Q I h
 exact Subscript_ (Jr ha hb I h fun v u s2 x y H2 I2 rx ry q=>hr a b pins s2 σ H2 x y v u Q I2 rx ry q (hs _ _))
inductive FV (K:W.Frag)(x:V)(y:V)(H:Hp)(Q:VK):Prop
 | mk:∀ p xs i v,(x=.ref p)->(y=.int i)->(aR K H p xs)->(pZ xs i=some v)->(Q v H)->FV K x y H Q
inductive FW (K:W.Frag)(x:V)(y:V)(H:Hp)(Q:VK):Prop
 | mk:∀ p xs i v,(x=.ref p)->(y=.int i)->(aO K H p xs)->(pZ xs i=some v)->(Q v H)->FW K x y H Q
inductive JA (x:V)(y:V)(H:Hp)(Q:VK):Prop
 | mk:∀ z i c,(x=.str z)->(y=.int i)->(z.length<=sizeLine)->(pZ z.cps.toList i=some c)->(Q (.str ⟨#[c]⟩) H)->JA  x y H Q
theorem zB:AW X (FV X.K):=by
 intro value slice pins s σ H x y v u Q I rx ry h hs
 obtain⟨p,xs,i,z,rfl,rfl,hq,he,q⟩:=h
 cases rx
 obtain⟨t,rfl⟩:=ry
 obtain⟨aH,r,pl,hz⟩:=I.list hq
 obtain⟨j,h1,h2,h3,h4,h5⟩:=tO he
 obtain⟨w,ew,HB⟩:=r.get h2
 have hl:=r.length
 have hn:=pY
 have fin:EP X pins σ Q w s:=⟨z,H,I,HB,q⟩
 by_cases h0:0<=i
 ·have hj:i.toNat=j:=by
   rw[seqIndex_of h0 h5] at h1
   exact ZG h1
  exact item_listR pl.isList h0 (by omega) (by rw[hj];simpa using ew) fin hs
 ·have hj:(i+(aH.toArray.size:Int)).toNat=j:=by
   rw[seqIndex_neg (by omega) h4] at h1
   rw[ZQ,<- hl]
   exact ZG h1
  exact subscriptTail_builtinR (x:=w) pl.isList.typeIs slot_list_getitem.lookup
   (wpAny_getItem_list_neg (Q:=fun r s'=>r=w/\EP X pins σ Q r s') pl.isList (by omega) (by rw[ZQ]<;>omega) (by omega) (by rw[hj];simpa using ew) ⟨rfl,fin⟩) hs
theorem CA:AW X (FW X.K):=by
 intro value slice pins s σ H x y v u Q I rx ry h hs
 obtain⟨p,xs,i,z,rfl,rfl,hq,he,q⟩:=h
 cases rx
 obtain⟨t,rfl⟩:=ry
 obtain⟨aH,r,pl,hz⟩:=I.tuple hq
 obtain⟨j,h1,h2,h3,h4,h5⟩:=tO he
 obtain⟨w,ew,HB⟩:=r.get h2
 have hl:=r.length
 have hn:=pY
 have fin:EP X pins σ Q w s:=⟨z,H,I,HB,q⟩
 exact subscriptTail_builtinR (x:=w) pl.typeIs slot_tuple_getitem.lookup
  (getItem_tuple (j:=j) (Q:=fun r s'=>r=w/\EP X pins σ Q r s') pl (by omega) (by omega) (by rw[ZQ,<- hl];exact h1) (by simpa using ew) ⟨rfl,fin⟩) hs
theorem JB:AW X JA:=by
 intro value slice pins s σ H x y v u Q I rx ry h hs
 obtain⟨z,i,c,rfl,rfl,hz,he,q⟩:=h
 obtain⟨t,rfl⟩:=rx
 obtain⟨t',rfl⟩:=ry
 obtain⟨j,h1,h2,h3,h4,h5⟩:=tO he
 have hl:z.cps.toList.length=z.length:=by simp[Str.length]
 rw[hl] at h1 h4 h5
 have hn:=pY
 exact tail_any (typeIs_str s z t) slot_str_getitem.lookup (getItem_str (c:=c) (by
  have e1:decide (i < -(2^63:Int))=false:=aao (by omega)
  have e2:decide (i >= 2^63)=false:=aao (by omega)
  rw[e1,e2,Bool.or_false]) (by rw[h1];simpa using h2) ⟨.str ⟨#[c]⟩,H,I.tok _,⟨_,rfl⟩,q⟩) hs
def QU (K:W.Frag):R2:=fun x y H Q=>FV K x y H Q\/FW K x y H Q\/JA x y H Q
theorem JC:AW X (QU X.K):=zB.or (CA.or JB)
theorem xM (aH:List Value)(n j:Nat)(u:Value):Obj.mapSeq (·.setIfInBounds j u) { cls:=.type "list",data:=.seq aH.toArray n }={ cls:=.type "list",data:=.seq (aH.set j u).toArray n }:=by
 simp[Obj.mapSeq]
theorem Inv.lst {pins:List (Addr × Obj)}{σ:St}{H:Hp}{s:Shared}{p:Addr}{xs:List V}(I:Inv X pins σ H s)(h:H p=some (.lst xs)) :
  ∃ (aH:List Value) (n:Nat),Vals xs aH/\s.heap.get? p=some { cls:=.type "list",data:=.seq aH.toArray n }/\xs.length<=sizeLine:=by
 obtain⟨z,aH,n,r,e⟩:=I.bh p _ h
 exact⟨aH,n,r,e,z⟩
theorem Inv.JD {pins:List (Addr × Obj)}{σ:St}{H:Hp}{s:Shared}{p:Addr}{xs ys:List V}{aH its':List Value}{n n':Nat}{f:Obj->Obj}(I:Inv X pins σ H s)(h:H p=some (.lst xs))
  (ho:s.heap.get? p=some { cls:=.type "list",data:=.seq aH.toArray n }) (hf:f { cls:=.type "list",data:=.seq aH.toArray n }={ cls:=.type "list",data:=.seq its'.toArray n' }) (r:Vals ys its') (hz:ys.length<=sizeLine) (t:Nat) :
  Inv X pins σ (upd H p (.lst ys)) { s with heap:=s.heap.update p f,toks:=t }:=by
 have e:(s.heap.update p f).get? p=some { cls:=.type "list",data:=.seq its'.toArray n' }:=by
  rw[aaq f ho (by rw[hf]<;>rfl),hf]
 refine I.write (x:=p) (e:=p) (by rw[h];trivial) (.inl rfl) (fun b u hb q=>(aaC _ _ (Ne.symm hb)).trans q) ⟨_,e⟩ ?_
 exact⟨hz,its',n',r,e⟩
inductive HF (o:V)(i:V)(v:V)(H:Hp)(Q:Hp->Prop):Prop
 | mk:∀ p xs k j,(o=.ref p)->(i=.int k)->(H p=some (.lst xs))->(Jz xs.length k=some j)->(Q (upd H p (.lst (xs.set j v))))->HF  o i v H Q
theorem set_list:Mt X HF:=by
 intro pins s σ H o i v ov iv u Q I ro ri rv h
 obtain⟨p,xs,k,j,rfl,rfl,hp,hj,q⟩:=h
 cases ro
 obtain⟨t,rfl⟩:=ri
 obtain⟨aH,n,r,ho,hz⟩:=I.lst hp
 obtain⟨h1,h2,h3,h4⟩:=zx hj
 have hl:=r.length
 have hn:=pY
 have I':Inv X pins σ (upd H p (.lst (xs.set j v))) { s with heap:=s.heap.update p (Obj.mapSeq (·.setIfInBounds j u)) }:=
  I.JD hp ho (xM aH n j u) (r.set rv j) (by rw[List.length_set];exact hz) s.toks
 by_cases h0:0<=k
 ·have hk:k.toNat=j:=by
   rw[seqIndex_of h0 h4] at h1
   exact ZG h1
  exact W.ki_setAt ho h0 (by omega) (by rw[ZQ,<- hl];exact h4) (by rw[hk];exact⟨_,I',q⟩)
 ·have hk:(k+(aH.toArray.size:Int)).toNat=j:=by
   rw[seqIndex_neg (by omega) h3] at h1
   rw[ZQ,<- hl]
   exact ZG h1
  exact W.ki_setBack ho (by omega) (by rw[ZQ,<- hl];exact h3) (by omega) (by rw[hk];exact⟨_,I',q⟩)
theorem tP (lo hi:Option Int)(n:Nat):(sliceBounds lo hi none n).1=((HT.vo n 0 lo:Nat):Int)/\(sliceBounds lo hi none n).2.1=((HT.vo n n hi:Nat):Int)/\(sliceBounds lo hi none n).2.2=1:=by
 refine⟨?_,?_,rfl⟩
 ·cases lo with
  | none=>simp[sliceBounds,HT.vo]
  | some i=>
   simp only[sliceBounds,HT.vo,Option.getD_none,show (1:Int) > 0 by decide,acR]
   by_cases h:i<0
   ·simp only[h,acR]<;>omega
   ·simp only[h,abX]<;>omega
 ·cases hi with
  | none=>simp[sliceBounds,HT.vo]
  | some i=>
   simp only[sliceBounds,HT.vo,Option.getD_none,show (1:Int) > 0 by decide,acR]
   by_cases h:i<0
   ·simp only[h,acR]<;>omega
   ·simp only[h,abX]<;>omega
theorem rP (aH:List Value)(lo hi:Option Int):slicePick aH.toArray lo hi none=((aH.drop (HT.vo aH.length 0 lo)).take (HT.vo aH.length aH.length hi-HT.vo aH.length 0 lo)).toArray:=by
 obtain⟨h1,h2,h3⟩:=tP lo hi aH.toArray.size
 unfold slicePick
 rw[h1,h2,h3]
 simp only[sliceRange_one,pick_run,ZQ]<;>rfl
inductive ME (K:W.Frag)(x:V)(lo:Option Int)(hi:Option Int)(H:Hp)(Q:VK):Prop
 | mk:∀ a xs,(x=.ref a)->(aR K H a xs)->(∀ p,H p=none->Q (.ref p) (upd H p (.lst (AV xs lo hi))))->ME K x lo hi H Q
theorem FX:Ug X (ME X.K):=by
 intro pins s σ H x v vl vu lo hi sl Q I rx hs pl pu h
 obtain⟨a,xs,rfl,hx,q⟩:=h
 cases rx
 obtain⟨aH,r,ht,hz⟩:=I.list hx
 have hlen:=r.length
 refine⟨"list",_,slot_list_getitem.lookup,ht.isList.typeIs,?_⟩
 refine wpAny_getItem_list_slice ht.isList hs pl pu .none (by simp) ?_ (by rw[ZQ]<;>omega)
 rw[rP,<- hlen]
 refine⟨.ref s.heap.objs.size,_,I.laid (t':=s.toks) (o:=.lst (AV xs lo hi)) (fun b ob q=>ZE _ q) (ZL _) ?_,rfl,q _ (I.bh.fresh (ZL _))⟩
 exact⟨ZV (vC xs lo hi) hz,_,0,(r.drop (HT.vo xs.length 0 lo)).take (HT.vo xs.length xs.length hi-HT.vo xs.length 0 lo),ZN _ rfl⟩
def om:V->Bool
 | .eB=>true
 | .bl _=>true
 | .int _=>true
 | .str _=>true
 | _=>false
def FY:V->V->Bool
 | .eB,.eB=>true
 | .bl a,.bl b=>a==b
 | .bl a,.int b=>(if a then 1 else 0)==b
 | .int a,.bl b=>a==(if b then 1 else 0)
 | .int a,.int b=>a==b
 | .str a,.str b=>a==b
 | _,_=>false
theorem JE {A:Around}{s:Shared}{y x:V}{u v:Value}(ry:RelV y u)(rx:RelV x v)(fy:om y=true)(fx:om x=true):SeqAt.EqAt A s u v (FY y x):=by
 cases y with
 | eB=>
  cases ry
  cases x with
  | eB=>cases rx;exact SeqAt.EqAt.same _
  | bl b=>cases rx;exact SeqAt.EqAt.none_bool b
  | int b=>obtain⟨t,rfl⟩:=rx;exact SeqAt.EqAt.none_int b t
  | str b=>obtain⟨t,rfl⟩:=rx;exact SeqAt.EqAt.none_str b t
  | _=>exact absurd (show false=true from fx) ZJ
 | bl a=>
  cases ry
  cases x with
  | eB=>cases rx;exact SeqAt.EqAt.bool_none a
  | bl b=>cases rx;exact SeqAt.EqAt.bool_bool a b
  | int b=>obtain⟨t,rfl⟩:=rx;exact SeqAt.EqAt.bool_int a b t
  | str b=>obtain⟨t,rfl⟩:=rx;exact SeqAt.EqAt.bool_str a b t
  | _=>exact absurd (show false=true from fx) ZJ
 | int a=>
  obtain⟨t',rfl⟩:=ry
  cases x with
  | eB=>cases rx;exact SeqAt.EqAt.int_none a t'
  | bl b=>cases rx;exact SeqAt.EqAt.int_bool a t' b
  | int b=>obtain⟨t,rfl⟩:=rx;exact SeqAt.EqAt.int_int a t' b t
  | str b=>obtain⟨t,rfl⟩:=rx;exact SeqAt.EqAt.int_str a t' b t
  | _=>exact absurd (show false=true from fx) ZJ
 | str a=>
  obtain⟨t',rfl⟩:=ry
  cases x with
  | eB=>cases rx;exact SeqAt.EqAt.str_none a t'
  | bl b=>cases rx;exact SeqAt.EqAt.str_bool a t' b
  | int b=>obtain⟨t,rfl⟩:=rx;exact SeqAt.EqAt.str_int a t' b t
  | str b=>obtain⟨t,rfl⟩:=rx;exact SeqAt.EqAt.str_str a t' b t
  | _=>exact absurd (show false=true from fx) ZJ
 | _=>exact absurd (show false=true from fy) ZJ
def FZ (x:V)(u:Value):Bool:=match u with
 | .none=>FY .eB x
 | .bool b=>FY (.bl b) x
 | .int i _=>FY (.int i) x
 | .str z _=>FY (.str z) x
 | _=>false
theorem CB {x y:V}{u:Value}(r:RelV y u)(f:om y=true):FZ x u=FY y x:=by
 cases y with
 | eB=>cases r;rfl
 | bl b=>cases r;rfl
 | int i=>obtain⟨t,rfl⟩:=r;rfl
 | str z=>obtain⟨t,rfl⟩:=r;rfl
 | _=>exact absurd (show false=true from f) ZJ
theorem tQ {x:V}:∀ {xs:List V}{us:List Value},Vals xs us->xs.all om=true->us.any (FZ x)=xs.any fun y=>FY y x
 | _,_,.nil,_=>rfl
 | y::xs,u::us,.cons r t,f=>by
  rw[List.all_cons,aaW] at f
  rw[List.any_cons,List.any_cons,CB r f.1,tQ t f.2]
theorem p7 {A:Around}{s:Shared}{x:V}{v:Value}(rx:RelV x v)(fx:om x=true):∀ {xs:List V}{us:List Value},Vals xs us->xs.all om=true->∀ u∈us,SeqAt.EqAt A s u v (FZ x u)
 | _,_,.nil,_=>fun u hu=>by cases hu
 | y::xs,u::us,.cons r t,f=>fun u' hu=>by
  rw[List.all_cons,aaW] at f
  rcases ZI.mp hu with rfl|hu
  ·rw[CB r f.1];exact JE r rx f.1 fx
  ·exact p7 rx fx t f.2 u' hu
def HG (x:V)(xs:List V):Bool:=xs.any fun y=>FY y x
inductive Ui (K:W.Frag)(neg:Bool)(x:V)(y:V)(H:Hp)(Q:VK):Prop
 | mk:∀ p xs,(y=.ref p)->((aR K H p xs\/aO K H p xs))->(om x=true)->(xs.all om=true)->(Q (.bl (if neg then !HG x xs else HG x xs)) H)->Ui K neg x y H Q
theorem sD:oi X (compareOp .In) (Ui X.K false):=by
 intro pins s σ H x y v u Q I rx ry h
 obtain⟨p,xs,rfl,hq,fx,fs,q⟩:=h
 cases ry
 rcases hq with hq|hq
 ·obtain⟨aH,r,pl,hz⟩:=I.list hq
  refine SeqAt.in_listAt (FZ x) pl.isList (fun w hw=>p7 rx fx r fs w (by simpa using hw)) ⟨.bl _,H,I,rfl,?_⟩
  rw[show aH.toArray.any (FZ x)=aH.any (FZ x) by simp,tQ r fs]
  exact q
 ·obtain⟨aH,r,pl,hz⟩:=I.tuple hq
  refine SeqAt.in_tupleAt (FZ x) pl (fun w hw=>p7 rx fx r fs w (by simpa using hw)) ⟨.bl _,H,I,rfl,?_⟩
  rw[show aH.toArray.any (FZ x)=aH.any (FZ x) by simp,tQ r fs]
  exact q
theorem lT:gI X (.builtin "len") (fun xs H Q=>∃ p ys,xs=[.ref p]/\(aR X.K H p ys\/aO X.K H p ys)/\Q (.int ys.length) H):=by
 intro pins s σ H xs us Q I r h
 obtain⟨p,ys,rfl,hq,q⟩:=h
 obtain⟨u,rfl,rx⟩:=vals1 r
 cases rx
 have hn:=pY
 rcases hq with hq|hq
 ·obtain⟨aH,r',pl,hz⟩:=I.list hq
  have hlen:=r'.length
  exact Calls.call_len_list pl.isList (by simp only[ZQ]<;>omega) ⟨.int ys.length,H,I.tok _,⟨s.toks+1,by rw[ZQ,hlen]⟩,q⟩
 ·obtain⟨aH,r',pl,hz⟩:=I.tuple hq
  have hlen:=r'.length
  exact len_tuple pl (by simp only[ZQ]<;>omega) ⟨.int ys.length,H,I.tok _,⟨s.toks+1,by rw[ZQ,hlen]⟩,q⟩
theorem lU:gI X (.type "list") (fun xs H Q=>∃ p ys,xs=[.ref p]/\(aR X.K H p ys\/aO X.K H p ys)/\∀ l,H l=none->Q (.ref l) (upd H l (.lst ys))):=by
 intro pins s σ H xs us Q I r h
 obtain⟨p,ys,rfl,hq,q⟩:=h
 obtain⟨u,rfl,rx⟩:=vals1 r
 cases rx
 have fin:∀ (aH:List Value),Vals ys aH->ys.length<=sizeLine->∀ (h':Heap) (c':Nat),(∀ b o',s.heap.get? b=some o'->h'.get? b=some o') ->
   h'.get? s.heap.objs.size=some { cls:=.type "list",dict:=none,data:=.seq aH.toArray c',slots:=#[] }->EP X pins σ Q (.ref s.heap.objs.size) { s with heap:=h' }:=fun aH r' hz h' c' kp e=>
  ⟨.ref s.heap.objs.size,_,I.laid (t':=s.toks) kp (ZL _) (show bI X.prog X.w _ h' _ (.lst ys) from ⟨hz,aH,c',r',e⟩),rfl,q _ (I.bh.fresh (ZL _))⟩
 rcases hq with hq|hq
 ·obtain⟨aH,r',pl,hz⟩:=I.list hq
  have hlen:=r'.length
  obtain⟨o,ho,hc,n,hd⟩:=pl.isList
  exact call_list_seq p (.inl rfl) ho hc hd (fun h' c' kp e=>fin aH r' hz h' c' kp e) (by simp only[ZQ]<;>omega)
 ·obtain⟨aH,r',pl,hz⟩:=I.tuple hq
  have hlen:=r'.length
  obtain⟨o,ho,hc,n,hd⟩:=pl
  exact call_list_seq p (.inr rfl) ho hc hd (fun h' c' kp e=>fin aH r' hz h' c' kp e) (by simp only[ZQ]<;>omega)
theorem rQ:gI X (.type "tuple") (fun xs H Q=>∃ p ys,xs=[.ref p]/\((aR X.K H p ys/\∀ l,H l=none->Q (.ref l) (upd H l (.tup ys)))\/(aO X.K H p ys/\Q (.ref p) H))):=by
 intro pins s σ H xs us Q I r h
 obtain⟨p,ys,rfl,h⟩:=h
 obtain⟨u,rfl,rx⟩:=vals1 r
 cases rx
 rcases h with ⟨hq,q⟩|⟨hq,q⟩
 ·obtain⟨aH,r',pl,hz⟩:=I.list hq
  have hlen:=r'.length
  refine call_tuple_list pl.isList (fun h' kp=>?_) (by simp only[ZQ]<;>omega)
  have I1:Inv X pins σ H { s with heap:=h' }:=I.kept (t':=s.toks) kp
  have I2:Inv X pins σ (upd H h'.objs.size (.tup ys)) { s with heap:=h'.push { cls:=.type "tuple",data:=.seq aH.toArray } }:=
   I1.laid (t':=s.toks) (fun b o e=>ZE _ e) (ZL _) (show bI X.prog X.w _ _ _ (.tup ys) from ⟨hz,aH,r',IsTup.new _ _⟩)
  exact⟨.ref h'.objs.size,_,I2,rfl,q _ (I1.bh.fresh (ZL _))⟩
 ·obtain⟨aH,r',pl,hz⟩:=I.tuple hq
  exact call_tuple_same pl ⟨.ref p,H,I,rfl,q⟩
def Uj (K:W.Frag)(T:String)(x:V)(H:Hp):Prop:=match x with
 | .str _=>T="str"
 | .int _=>T="int"
 | .ref p=>(T="list"/\∃ xs,aR K H p xs)\/(T="tuple"/\∃ o,K.lookup p=some o/\o.cls=.type "tuple"/\o.dict=none) \/
   (T="dict"/\((∃ mC,H p=some (.dK mC))\/∃ mC,H p=some (.dT mC)))\/(T="set"/\∃ S n,H p=some (.set S n))
 | _=>False
theorem JF {pins:List (Addr × Obj)}{σ:St}{H:Hp}{s:Shared}{T:String}{x:V}{v:Value}(I:Inv X pins σ H s)(r:RelV x v)(ty:Uj X.K T x H) :
  s.TypeIs v T/\∀ a,v=.ref a->∃ ob,s.heap.get? a=some ob/\ob.dict=none:=by
 cases x with
 | str z=>
  obtain⟨t,rfl⟩:=r
  cases (show T="str" from ty)
  exact⟨typeIs_str s z t,fun _ e=>nomatch e⟩
 | int i=>
  obtain⟨t,rfl⟩:=r
  cases (show T="int" from ty)
  exact⟨typeIs_int s i t,fun _ e=>nomatch e⟩
 | ref p=>
  cases r
  rcases ty with ⟨rfl,xs,hq⟩|⟨rfl,o,hk,hc,hd⟩|⟨rfl,hk⟩|⟨rfl,S,n,hk⟩
  ·obtain⟨aH,_,pl,_⟩:=I.list hq
   refine⟨pl.isList.typeIs,fun a e=>?_⟩
   cases e
   obtain⟨o,n,e,c,hd,_⟩:=pl
   exact⟨o,e,hd⟩
  ·refine⟨⟨o,I.jw p o hk,hc⟩,fun a e=>?_⟩
   cases e
   exact⟨o,I.jw _ o hk,hd⟩
  ·have z:∃ o,s.heap.get? p=some o/\o.ExactDict:=by
    rcases hk with ⟨mC,hk⟩|⟨mC,hk⟩
    ·obtain⟨_,_,_,_,o,_,_,e,ex,_⟩:=I.bh p _ hk
     exact⟨o,e,ex⟩
    ·obtain⟨_,_,_,_,o,_,_,e,ex,_⟩:=I.bh p _ hk
     exact⟨o,e,ex⟩
   obtain⟨o,e,ex⟩:=z
   refine⟨⟨o,e,ex.1⟩,fun a e2=>?_⟩
   cases e2
   exact⟨o,e,ex.2.1⟩
  ·obtain⟨o,_,_,_,e,ex,_⟩:=I.bh p _ hk
   refine⟨⟨o,e,ex.1⟩,fun a e2=>?_⟩
   cases e2
   exact⟨o,e,ex.2.1⟩
 | _=>exact False.elim ty
def VL (K:W.Frag)(T:String)(r:V->List V->Hp->VK->Prop)(to:TE)(t:TA):TE:=fun σ H Q=>to σ H fun x H1=>Uj K T x H1/\t σ H1 fun xs H2=>r x xs H2 Q
variable {o e:Expr}{es:List Expr}{to:TE}{t:TA}{name:Str}{apos gL:Pos}{T id:String}{r:V->List V->Hp->VK->Prop}
theorem vD (pa:PlainAttrs T)(slot:Slot T name id)(VM:typeOf (.builtin id)=pure (.type "method_descriptor"))(hm:Uh X id r)(ho:PE X o to)(ha:PA X (e::es) t)
  (vE:attributeBase o name X.env (eval o X.env)=eval o X.env:=by rfl)
  (QV:((backTo gL (starEach (e::es) X.env)).all (fun x=>!x.1)&&(backToKw gL (keywordEach [] X.env)).all (fun x=>x.1.isSome)
  &&decide ((e::es).length+([]:List Keyword).length+(if ([]:List Keyword).isEmpty then 0 else 1)<30))=true:=by rfl)
  (MF:(apos.endLine==gL.line)=true:=by rfl) (hs:starEach (e::es) X.env=(false,eval e X.env)::starEach es X.env:=by rfl) (xO:(backTo gL (starEach es X.env)).any (·.1)=false:=by rfl) :
  PE X (.Call (.Attribute o name apos) (e::es) [] gL) (VL X.K T r to t):=by
 intro pins s σ H Q I h
 refine wpAny_Call_method_late vE QV MF rfl (eD (ho pins s σ H _ I h) fun v s1 ⟨x,H1,I1,r1,ty,q1⟩=>?_)
 obtain⟨h1,h2⟩:=JF I1 r1 ty
 refine⟨T,id,pa,slot,VM,h1,h2,?_⟩
 have hA:=ha gL pins s1 σ H1 _ I1 q1
 rw[hs] at hA ⊢
 refine Calls.callWith_builtin (by show (false || (backTo gL (starEach es X.env)).any (·.1))=false;rw[xO]<;>rfl) (adF ?_)
 exact eD hA fun us s2 ⟨vs,H2,I2,r2,q2⟩=>hm pins s2 σ H2 x vs v us Q I2 r1 r2 q2
/- xs.append(e),list.index on a MG tuple .. are Uh facts of 06m -/
end
def Uk (X:Cx)(id:String)(r:V->List V->Hp->VK->Prop):Prop:=
 ∀ (pins:List (Addr × Obj)) (s:Shared) (σ:St) (H:Hp) (x:V) (xs:List V) (v:Value) (us:List Value) (Q:VK),Inv X pins σ H s->RelV x v->Vals xs us->r x xs H Q ->
  wpAny (model X.prog X.w) X.A (call (.builtin id) (v::us)) (EP X pins σ Q) X.xe s
theorem Vals.one:∀ {x:V}{us:List Value},Vals [x] us->∃ u,us=[u]/\RelV x u
 | _,_,.cons r .nil=>⟨_,rfl,r⟩
theorem Vals.two:∀ {x y:V}{us:List Value},Vals [x,y] us->∃ u v,us=[u,v]/\RelV x u/\RelV y v
 | _,_,_,.cons r (.cons q .nil)=>⟨_,_,rfl,r,q⟩
theorem Vals.rep {xs:List V}{us:List Value}(h:Vals xs us):∀ k:Nat,Vals (List.replicate k xs).flatten (List.replicate k us).flatten
 | 0=>.nil
 | k+1=>by
  rw[acd,acd,ac2,ac2]
  exact Vals.append h (Vals.rep h k)
theorem foldl_rep (aH:List Value):∀ (k:Nat) (acc:List Value),
  List.foldl (fun x1 x2=>x1++x2) acc.toArray (List.replicate k aH.toArray)=(acc++(List.replicate k aH).flatten).toArray
 | 0,acc=>by simp
 | k+1,acc=>by
  have e:acc.toArray++aH.toArray=(acc++aH).toArray:=by simp
  have e2:(acc++aH)++(List.replicate k aH).flatten=acc++(List.replicate (k+1) aH).flatten:=by
   rw[acd,ac2,List.append_assoc]
  rw[<- e2,<- foldl_rep aH k (acc++aH),<- e,acd,List.foldl_cons]
section
variable {X:Cx}{pins:List (Addr × Obj)}{σ:St}{H:Hp}{s:Shared}{l b:Addr}{xs ys zs:List V}
theorem Inv.MH {aH its':List Value}{n:Nat}{f:Array Value->Array Value}{t':Nat}(I:Inv X pins σ H s)(hH:H l=some (.lst xs))
  (e:s.heap.get? l=some { cls:=.type "list",data:=.seq aH.toArray n }) (hf:f aH.toArray=its'.toArray) (hv:Vals ys its') (hz:ys.length<=sizeLine) :
  Inv X pins σ (upd H l (.lst ys)) { s with heap:=s.heap.update l (Obj.mapSeq f),toks:=t' }:=by
 have q:=PySem.IsL.update e f
 rw[hf] at q
 refine I.write (x:=l) (e:=l) (by rw[hH];exact trivial) (.inl rfl) (fun b' u hb hu=>(aaC s.heap (Obj.mapSeq f) (Ne.symm hb)).trans hu) ⟨_,q⟩ ?_
 exact⟨hz,its',_,hv,q⟩
theorem Inv.MI {aH:List Value}{t':Nat}(I:Inv X pins σ H s)(hv:Vals ys aH)(hz:ys.length<=sizeLine) :
  Inv X pins σ (upd H s.heap.objs.size (.lst ys)) { s with heap:=s.heap.push { cls:=.type "list",data:=.seq aH.toArray },toks:=t' }:=
 I.laid (fun _ _ q=>ZE _ q) (ZL _) ⟨hz,aH,0,hv,ZN _ rfl⟩
theorem Inv.fresh (I:Inv X pins σ H s):H s.heap.objs.size=none:=I.bh.fresh (ZL _)
theorem Inv.rR (I:Inv X pins σ H s)(hH:H l=some (.lst xs)):xs.length<=sizeLine/\∃ (aH:List Value) (n:Nat),Vals xs aH/\xs.length=aH.length/\s.heap.get? l=some { cls:=.type "list",data:=.seq aH.toArray n }:=by
 obtain⟨z,aH,n,r,e⟩:=I.bh l _ hH
 exact⟨z,aH,n,r,r.length,e⟩
theorem vF {n:Nat}(h:n<=sizeLine):Builtin.List.listTooLong n=false:=by
 unfold Builtin.List.listTooLong
 exact aao (by omega)
end
section
variable {X:Cx}
inductive zC (x:V)(vs:List V)(H:Hp)(Q:VK):Prop
 | mk:∀ l xs y,(x=.ref l)->(vs=[y])->(H l=some (.lst xs))->(xs.length<sizeLine)->(Q .eB (upd H l (.lst (xs++[y]))))->zC  x vs H Q
theorem iT:Uk X "list.append" zC:=by
 intro pins s σ H x vs v us Q I rx rv h
 obtain⟨l,xs,y,rfl,rfl,hH,hz,q⟩:=h
 cases rx
 obtain⟨u,rfl,ru⟩:=rv.one
 obtain⟨z,aH,n,r,hl,e⟩:=I.rR hH
 refine call_meets F.slot_list_append ⟨_,e,rfl⟩ F.entry_list_append (F.args_list_append_2 _ _) (PySem.list_append l aH.toArray n u (by rw[ZQ];omega)) ⟨e,?_⟩
 refine⟨.eB,_,I.MH (its':=aH++[u]) hH e (by simp) (r.append (.cons ru .nil)) ?_,rfl,q⟩
 rw[aaN,List.length_singleton]
 omega
inductive zD (x:V)(vs:List V)(H:Hp)(Q:VK):Prop
 | mk:∀ l b xs zs,(x=.ref l)->(vs=[.ref b])->(H l=some (.lst xs))->(H b=some (.lst zs))->(xs.length+zs.length<=sizeLine)->(Q .eB (upd H l (.lst (xs++zs))))->zD  x vs H Q
theorem sE:Uk X "list.extend" zD:=by
 intro pins s σ H x vs v us Q I rx rv h
 obtain⟨l,b,xs,zs,rfl,rfl,hH,hB,hz,q⟩:=h
 cases rx
 obtain⟨u,rfl,ru⟩:=rv.one
 cases ru
 obtain⟨z,aH,n,r,hl,e⟩:=I.rR hH
 obtain⟨z2,xP,n2,r2,tR,e2⟩:=I.rR hB
 have zE:aH.toArray.size+xP.toArray.size<=sizeLine:=by rw[ZQ,ZQ];omega
 have CC:¬ (!aH.toArray.isEmpty&&Builtin.List.listTooLong (aH.toArray.size+xP.toArray.size))=true:=by
  rw[vF zE,ad3]
  exact ZJ
 refine call_meets F.slot_list_extend ⟨_,e,rfl⟩ F.entry_list_extend (F.args_list_extend_2 _ _)
  (AutoSeq1.list_extend_list_list_0 l aH.toArray n b xP.toArray n2 CC (by rw[ZQ];omega) (by omega)) ⟨e,e2,?_⟩
 refine⟨.eB,_,I.MH (its':=aH++xP) hH e (by simp) (r.append r2) ?_,rfl,q⟩
 rw[aaN]
 omega
inductive JG (x:V)(y:V)(H:Hp)(Q:VK):Prop
 | mk:∀ l b xs zs,(x=.ref l)->(y=.ref b)->(H l=some (.lst xs))->(H b=some (.lst zs))->(xs.length+zs.length<=sizeLine)->(∀ p,H p=none->Q (.ref p) (upd H p (.lst (xs++zs))))->JG  x y H Q
theorem p8:oi X (binaryOp .Add) JG:=by
 intro pins s σ H x y v u Q I rx ry h
 obtain⟨l,b,xs,zs,rfl,rfl,hH,hB,hz,q⟩:=h
 cases rx
 cases ry
 obtain⟨z,aH,n,r,hl,e⟩:=I.rR hH
 obtain⟨z2,xP,n2,r2,tR,e2⟩:=I.rR hB
 refine PySem.P.add_list e e2 ?_ (by rw[ZQ,ZQ];omega)
 have ea:aH.toArray++xP.toArray=(aH++xP).toArray:=by simp
 rw[ea]
 exact⟨.ref _,_,I.MI (t':=s.toks) (r.append r2) (by rw[aaN];omega),rfl,q _ I.fresh⟩
inductive MJ (x:V)(y:V)(H:Hp)(Q:VK):Prop
 | mk:∀ l k xs,(x=.ref l)->(y=.int k)->(H l=some (.lst xs))->(-(2^63)<=k)->(k<2^63)->(xs.length*k.toNat<=sizeLine)->(∀ p,H p=none->Q (.ref p) (upd H p (.lst (List.replicate k.toNat xs).flatten)))->MJ  x y H Q
theorem len_rep {α:Type}(xs:List α)(k:Nat):(List.replicate k xs).flatten.length=k*xs.length:=by
 induction k with
 | zero=>simp
 | succ k ih=>rw[acd,ac2,aaN,ih,Nat.succ_mul,adL]
theorem JH:oi X (binaryOp .Mult) MJ:=by
 intro pins s σ H x y v u Q I rx ry h
 obtain⟨l,k,xs,rfl,rfl,hH,h1,h2,hz,q⟩:=h
 cases rx
 obtain⟨t,rfl⟩:=ry
 obtain⟨z,aH,n,r,hl,e⟩:=I.rR hH
 have hlen:aH.toArray.size*k.toNat<=sizeLine:=by rw[ZQ,<- hl];exact hz
 have QW:¬ aH.toArray.size*k.toNat > (2^63-1) / 8:=by
  have:(sizeLine:Nat)<=(2^63-1) / 8:=by decide
  omega
 have QX:¬ (!Builtin.List.listFitsIndex k)=true:=by
  rw[fitsIndex_both h1 h2]
  exact ZJ
 have CC:¬ Builtin.List.listTooLong (aH.toArray.size*k.toNat)=true:=by
  rw[vF hlen]
  exact ZJ
 have QY:List.foldl (fun x1 x2=>x1++x2) #[] (List.replicate (if aH.toArray.isEmpty=true then 0 else k.toNat) aH.toArray)=(List.replicate k.toNat aH).flatten.toArray:=by
  have f0:∀ m:Nat,List.foldl (fun x1 x2=>x1++x2) #[] (List.replicate m aH.toArray)=(List.replicate m aH).flatten.toArray:=fun m=>by
   have:=foldl_rep aH m []
   rw[List.nil_append] at this
   exact this
  rw[f0]
  cases aH with
  | nil=>simp
  | cons a r'=>rw[Z4 (by simp)]
 refine wpAny_binaryOp_repeat_ref (T:="list") (U:="int") (by decide) ⟨_,e,rfl⟩ (fun s'=>typeIs_int s' k t) noFill_list_mul F.fills_int_mul F.slot_int_rmul repeat_list F.slot_int_index.lookup
  (call_meets F.slot_int_rmul (typeIs_int s k t) F.entry_int_rmul (F.args_int_rmul_2 _ _) (int___rmul___int_list k t l aH.toArray n)
   ⟨e,rfl,⟨_,e,rfl⟩,call_meets F.slot_list_mul ⟨_,e,rfl⟩ F.entry_list_mul (F.args_list_mul_2 _ _) (AutoListH.list___mul___list_int_3 l aH.toArray n k t QX QW CC) ⟨e,?_⟩⟩)
 rw[QY]
 exact⟨.ref _,_,I.MI (t':=s.toks) (r.rep k.toNat) (by rw[len_rep,acM];exact hz),rfl,q _ I.fresh⟩
end
section
variable {prog:Program}{w:World}{A:Around}{E:Value->Shared->Prop}{s:Shared}
end
section
variable {X:Cx}
end
end L2
namespace QZ
open PySem PySem.W PySem.Calls PyProof.Rows
theorem oX {P:Params}{h:Heap}:∀ (ns:List Int) (vs:List Value),WellAll P h vs (ns.map WData.int)->IntsAre vs ns:=by
 intro ns
 induction ns with
 | nil=>
  intro vs w
  rw[List.map_nil] at w
  cases w
  exact .nil
 | cons n ns ih=>
  intro vs w
  rw[ab0] at w
  cases w with
  | cons a b=>
   cases a
   exact .cons _ _ (ih _ b)
theorem AX {l:OpenLaw}{n:Nat}(hn:l.most=some n){P:Params}{h:Heap}{args:List WData}{vals:List Value}
  (F0:l.row.toRowW.claim.pre args=true) (Q0:WellAll P h vals args) :
  ∃ a vs ns,vals=[Value.ref a]/\args=[WData.list (ns.map WData.int)]/\h.get? a=some { cls:=.type "list",data:=.seq vs.toArray }/\IntsAre vs ns/\ns.length<=n:=by
 have VN:WShape.hasAll [] args [.list .int]=true:=(pre_splitW F0).1
 have hc:l.pre.holds [] { args:=args }=true:=(pre_splitW F0).2
 obtain⟨d,r,rfl,h1,h2⟩:=hasAllW_cons VN
 obtain rfl:=hasAllW_nil h2
 obtain⟨xs,rfl,h3⟩:=hasW_list h1
 obtain⟨ns,rfl⟩:=items_int h3
 have hlen:ns.length<=n:=by
  unfold OpenLaw.pre at hc
  have h4:(WTm.not (.lt (.lit (.int (n:Int))) (.len (.arg 0)))).holds [] { args:=[.list (ns.map .int)] }=true:=by
   have h4:=(holds_andW hc).1
   rw[hn] at h4
   exact h4
  have h5:=condW_of h4 (w_not (w_lt w_lit (w_len_list (w_arg rfl))))
  rw[ZR] at h5
  refine Nat.le_of_not_lt fun q=>?_
  have q':(n:Int)<((ns.length:Nat):Int):=by omega
  first
   | (rw[aay q'] at h5;exact absurd h5 (by decide))
   | (simp at h5;omega)
 cases Q0 with
 | cons w1 w2=>
  cases w2
  cases w1 with
  | list ho JI=>exact⟨_,_,ns,rfl,rfl,ho,oX ns _ JI,hlen⟩
theorem AY (l:OpenLaw)(args:List WData):l.row.toRowW.claim.post args (.bool true) args=true:=
 postW_of (r:=l.row.toRowW) (X:=(true==true))
  (show WShape.has [] (.bool true) .bool=true by first|rfl|decide|simp[WShape.has,WShape.arms,WShape.armsAll])
  (show (WTm.eq .res (.lit (.bool true))).value [] { args:=args,res:=some (.bool true),after:=args }=some (.bool (true==true)) from w_eq_bool (w_res rfl) w_lit) rfl
section
variable {prog:Program}{w:World}{A:Around}{E:Value->Shared->Prop}{s:Shared}{K:Frag}
end
end QZ
namespace L2
open PySem PySem.Spec PyProof.Rows
theorem sF:∀ {vs:List Value}{ns:List Int},IntsAre vs ns->Vals (ns.map V.int) vs
 | _,_,.nil=>.nil
 | _,_,.cons n t h=>.cons ⟨t,rfl⟩ (sF h)
def inClass (s:Stmt)(j:Nat):Stmt:=match s with
 | .ClassDef _ _ _ body _ _ _ _ _ _ _=>body.getD j (.Pass ⟨0,0,0,0⟩)
 | _=>.Pass ⟨0,0,0,0⟩
def fM (s:Stmt):Arguments:=match s with
 | .FunctionDef _ a _ _ _ _ _ _ _ _=>a
 | _=>{ posonlyargs:=[],args:=[],vararg:=none,kwonlyargs:=[],kw_defaults:=[],kwarg:=none,defaults:=[] }
def aP (s:Stmt):List Stmt:=match s with
 | .FunctionDef _ _ b _ _ _ _ _ _ _=>b
 | _=>[]
def ar (s:Stmt):Scope:=match s with
 | .FunctionDef _ _ _ _ _ _ sc _ _ _=>sc
 | _=>{ kind:=.function,names:=[],isGenerator:=false,isCoroutine:=false }
abbrev aU:sj:=fun _ _ _ _ _ _=>False
abbrev E0:XK:=fun _ _ _=>False
theorem aD {X:Cx}:Passes aU X E0:=fun _ _ _ _ _ _ _ h=>h.elim
structure zF (K:W.Frag)(x qual:Str)(st:Stmt)(f:Addr)(fd:FuncData):Prop where
 ex:∃ (oc:Value) (od:Option Addr) (kV doc pm:Value) (an:Option Addr) (aZ ct:Value) (pF:Array (Option Value)),
  fd=W.fnOf x qual (fM st) (aP st) (ar st) .none kV doc pm an aZ ct/\K.lookup f=some ⟨oc,od,.func fd,pF⟩/\W.codeIn K aZ qual=true
 kp:W.keepIn K (.ref f)=true
section
variable {P:Program}{w:World}{K:W.Frag}{mg:Str->Option Value}{base:Heap}
theorem zF.ok {x qual:Str}{st:Stmt}{f:Addr}{fd:FuncData}{N ps:List Str}{k:Nat}{sp:Sp}(F:zF K x qual st f fd)(S:ay N ps (ar st))(len:∀ vs H Q E,sp vs H Q E->vs.length=ps.length)
  (eF:∀ (aZ:Value) (A:Around) (outer:List Env) (s:Shared) (H:Hp) (vs:List V) (Q:VK) (E:XK),dt k (A.deeper (envOfC qual (ar st) s.heap.objs.size f aZ))->sp vs H Q E ->
   ∃ t,kL (cR aU P w K mg base N qual (ar st) f aZ A outer s H E).vt (aP st) t/\t { nx:=fun _ H'=>Q .eB H',rt:=Q } (start N vs) H):ji P w K mg base aU (k+1) f fd ps sp:=by
 obtain⟨oc,od,kV,doc,pm,an,aZ,ct,pF,rfl,lk,pD⟩:=F.ex
 refine zw lk pD S len fun A outer s H vs Q E hr tN=>?_
 obtain⟨t,h,q⟩:=eF aZ A outer s H vs Q E hr tN
 exact⟨t,h.vt,q⟩
theorem zF.binds {x qual:Str}{st:Stmt}{f:Addr}{fd:FuncData}{ps:List Str}(F:zF K x qual st f fd)
  (h:∀ (kV doc pm:Value) (an:Option Addr) (aZ ct:Value) (us:List Value),us.length=ps.length->bindArgs (W.fnOf x qual (fM st) (aP st) (ar st) .none kV doc pm an aZ ct) ⟨us,[]⟩=pure (ps.zip us)):Binds K fd ps []:=by
 obtain⟨oc,od,kV,doc,pm,an,aZ,ct,pF,rfl,lk,pD⟩:=F.ex
 exact .all (h kV doc pm an aZ ct)
theorem xQ {x qual:Str}{st:Stmt}{f:Addr}{oc:Value}{od an:Option Addr}{pF:Array (Option Value)}{kV doc pm aZ ct:Value}(l:K.lookup f=some ⟨oc,od,.func (W.fnOf x qual (fM st) (aP st) (ar st) .none kV doc pm an aZ ct),pF⟩)
  (c:W.codeIn K aZ qual=true) (k:W.keepIn K (.ref f)=true):zF K x qual st f (W.fnOf x qual (fM st) (aP st) (ar st) .none kV doc pm an aZ ct):=⟨⟨oc,od,kV,doc,pm,an,aZ,ct,pF,rfl,l,c⟩,k⟩
end
section
variable {X:Cx}
theorem pv (i:Nat){x:Str}{pos:Pos}(hN:X.N[i]?=some x:=by rfl)(hv:Ml X.env.scope x:=by first|exact Or.inl rfl|exact Or.inr (Or.inl rfl)|exact Or.inr (Or.inr rfl))(hd:(x==("__debug__":Str))=false:=by decide)
  (pD:(x==("__classdict__":Str))=false:=by decide):PE X (.Name x pos) (Jg i):=Jh hN hv hd pD
end
theorem ik {A B:Prop}(h:B):if false=true then A else B:=by
 rw[Z4 ZJ]
 exact h
theorem jK {A B:Prop}(h:A):if true=true then A else B:=by
 rw[aag rfl]
 exact h
theorem bJ {c A B:Prop} [Decidable c] (h1:c->A)(h2:¬ c->B):if c then A else B:=by
 by_cases h:c
 ·rw[aag h]
  exact h1 h
 ·rw[Z4 h]
  exact h2 h
theorem zG {c A B:Prop} [Decidable c] (hc:c)(h:B):if (!decide c)=true then A else B:=by
 rw[aay hc]
 exact ik h
def aw (H H':Hp):Prop:=∀ b o,H b=some o->H' b=some o
theorem aw.refl (H:Hp):aw H H:=fun _ _ h=>h
theorem aw.trans {H H1 H2:Hp}(a:aw H H1)(b:aw H1 H2):aw H H2:=fun c o h=>b c o (a c o h)
theorem aw.free {H H':Hp}(e:aw H H'){l:Addr}(h:H' l=Option.none):H l=Option.none:=by
 cases q:H l with
 | none=>rfl
 | some o=>
  rw[e l o q] at h
  cases h
theorem aw.seq {K:W.Frag}{H H':Hp}{a:Addr}{xs:List V}(e:aw H H')(h:aR K H a xs):aR K H' a xs:=by
 rcases h with (h|⟨o,h⟩)|h
 ·exact .inl (.inl (e _ _ h))
 ·exact .inl (.inr ⟨o,e _ _ h⟩)
 ·exact .inr h
section
variable {X:Cx}
theorem az:oi X (binaryOp .Mult) (rI IntMulOk fun i j=>.int (i*j)):=LH fun _ _ _ _ _ _ _ hc q=>mul_int q hc
def MK (_ j:Int):Prop:=j≠0/\j.natAbs.log2<9000
theorem de:oi X (binaryOp .FloorDiv) (rI MK fun i j=>.int (i.fdiv j)):=
 LH fun _ _ _ _ _ _ _ hc q=>floordiv_int hc.1 q (.inl (PyProof.noPylong_of_log2 hc.2))
end
section
variable {P:Program}{w:World}{H H1 H2:Hp}{h h1 h2:Heap}{a:Addr}{o:HO}
theorem bI.there (x:bI P w H h a o):∃ ob,h.get? a=some ob:=by
 cases o with
 | lst xs=>obtain⟨_,_,_,_,e⟩:=x;exact⟨_,e⟩
 | tup xs=>obtain⟨_,_,_,ob,e,_⟩:=x;exact⟨_,e⟩
 | dK mC=>obtain⟨_,_,_,_,ob,_,_,e,_⟩:=x;exact⟨_,e⟩
 | dT mC=>obtain⟨_,_,_,_,ob,_,_,e,_⟩:=x;exact⟨_,e⟩
 | set S n=>obtain⟨ob,_,_,_,e,_⟩:=x;exact⟨_,e⟩
 | ins C dx fs=>obtain⟨_,_,_,e,_⟩:=x;exact⟨_,e⟩
 | own y=>exact x
 | xd fs=>obtain⟨_,⟨ob,_,_,e,_⟩,_⟩:=x;exact⟨_,e⟩
 | Hr lo hi=>obtain⟨_,_,_,e⟩:=x;exact⟨_,e⟩
 | mK ob u=>obtain⟨e,_⟩:=x;exact⟨_,e⟩
 | Hs ps=>exact⟨_,(show h.get? a=some _ from x)⟩
 | met f y=>exact⟨_,(show h.get? a=some _ from x)⟩
 | ext φ=>obtain⟨_,⟨ob,e⟩,_⟩:=x;exact⟨_,e⟩
theorem ki.eZ (x : ki P w H h1)(k : ∀ b ob, H b≠none -> h1.get? b = some ob -> h2.get? b = some ob) : ki P w H h2 := fun c u e =>
  (x c u e).rN (fun b v hb q => k b v (by rcases hb with rfl|hb <;> first | (rw[e];simp;done) | (rw[hb];simp;done)) q) (fun _ q => q) fun _ _ q => q
theorem Un.eZ {fs:List Addr}(u:Un fs [] H H1 h h1)(keep:∀ b ob,h1.get? b=some ob->b∉fs->(∃ o',h.get? b=some o')->h2.get? b=some ob)
  (slot:∀ b ob,h1.get? b=some ob->b∈fs->(∃ o',h.get? b=some o')->∃ sl,h2.get? b=some { ob with slots:=sl }):Un fs [] H H1 h h2 where
 keep:=fun b ob e n hb hx=>keep b ob (u.keep b ob e n hb hx) hb ⟨ob,e⟩
 slot:=fun b ob e n hb hx=>by
  obtain⟨sl,e1⟩:=u.slot b ob e n hb hx
  obtain⟨Q1,e2⟩:=slot b _ e1 hb ⟨ob,e⟩
  exact⟨Q1,e2⟩
 free:=u.free
 there:=fun b ob e hx=>by
  obtain⟨o1,e1⟩:=u.there b ob e hx
  by_cases hb:b∈fs
  ·obtain⟨sl,e2⟩:=slot b o1 e1 hb ⟨ob,e⟩
   exact⟨_,e2⟩
  ·exact⟨_,keep b o1 e1 hb ⟨ob,e⟩⟩
 je:=u.je
 iF:=u.iF
 jf:=u.jf
theorem Un.andThen {fs Ul:List Addr}(a:Un fs [] H H1 h h1)(b:Un Ul [] H1 H2 h1 h2)(hs:∀ c ob,h.get? c=some ob->c∈Ul->c∈fs):Un fs [] H H2 h h2 where
 keep:=fun c ob q n hc hx=>b.keep c ob (a.keep c ob q n hc hx) (a.free c ob q n hx) (fun z=>hc (hs c ob q z)) hx
 slot:=fun c ob q n hc hx=>by
  obtain⟨sl,e1⟩:=a.slot c ob q n hc hx
  obtain⟨Q1,e2⟩:=b.any e1 (a.free c ob q n hx) hx
  exact⟨Q1,e2⟩
 free:=fun c ob q n hx=>by
  obtain⟨o1,e1⟩:=a.there c ob q hx
  exact b.free c o1 e1 (a.free c ob q n hx) hx
 there:=fun c ob q hx=>by
  obtain⟨o1,e1⟩:=a.there c ob q hx
  exact b.there c o1 e1 hx
 je:=fun c xs q=>b.je c xs (a.je c xs q)
 iF:=fun c ob u q=>b.iF c ob u (a.iF c ob u q)
 jf:=fun c ps q=>by
  obtain⟨m1,e1⟩:=a.jf c ps q
  obtain⟨m2,e2⟩:=b.jf c _ e1
  exact⟨m1++m2,by rw[e2,Array.append_assoc]⟩
end
structure zH (P:Program)(w:World)(outer:List Env)(H:Hp)(s:Shared)(cls a0:Value)(ea:Addr)(B:Heap)(H':Hp)(s':Shared):Prop where
 os:s'.os=s.os
 bare:AllBare s'.gens
 un:Un (eM outer) [] H H' s.heap s'.heap
 bh:ki P w H' s'.heap
 jk:Heap.FlyingW B outer ea cls a0 s'.heap
 pU:∀ b∈eM outer,H' b=none
 CD:∀ b o,s'.heap.get? b=some o->b∉eM outer->(H' b≠none\/∃ o',s.heap.get? b=some o')->B.get? b=some o
def XF (P:Program)(w:World):sj:=fun outer H s E e s'=>∃ (ea:Addr) (cls a0:Value) (B:Heap) (H':Hp),e=.ref ea/\zH P w outer H s cls a0 ea B H' s'/\E cls none H'
section
variable {P:Program}{w:World}{K:W.Frag}{mg:Str->Option Value}{base:Heap}{N:List Str}{qual:Str}{scope:Scope}{f:Addr}{cd:Value}{A:Around}{outer:List Env}{s0 s1:Shared}{H0 H1:Hp}{E:XK}
 {pins:List (Addr × Obj)}{σ:St}
theorem fT {env:Env}{l:List Env}{b:Addr}(h:b∈eM l):b∈eM (env::l):=by
 unfold eM at h ⊢
 rw[acH]
 split
 ·exact h
 ·exact aav _ h
theorem CF {h':Heap}{e:Addr}{cls:Value}{args:List Value}(I:Inv (cR (XF P w) P w K mg base N qual scope f cd A outer s0 H0 E) pins σ H1 s1)(hx:Heap.MadeExcOf s1.heap h' e cls args)(hE:E cls none H1) :
  (cR (XF P w) P w K mg base N qual scope f cd A outer s0 H0 E).xe (.ref e) { s1 with heap:=h' }:=by
 have st:s1.heap.FunFrames base (envOfC qual scope s0.heap.objs.size f cd::outer):=I.stack
 have fz:∀ b∈eM (envOfC qual scope s0.heap.objs.size f cd::outer),H1 b=none:=I.kj
 have sub:∀ b∈eM (envOfC qual scope s0.heap.objs.size f cd::outer),b=(envOfC qual scope s0.heap.objs.size f cd).locals\/b∈eM outer:=fun b hb=>ZI.mp (I.f7 b hb)
 have above:s0.heap.objs.size<=(envOfC qual scope s0.heap.objs.size f cd).locals:=I.ok.above
 have old:∀ b o,s0.heap.get? b=some o->b∉eM outer->b∉eM (envOfC qual scope s0.heap.objs.size f cd::outer):=fun b o q nb z=>by
  rcases sub b z with z|z
  ·subst z
   exact absurd (ZM (ZH q) above) (aaT _)
  ·exact nb z
 show wpAny (model P w) (A.deeper (envOfC qual scope s0.heap.objs.size f cd)) (leaving (envOfC qual scope s0.heap.objs.size f cd) (.ref e)) _ _ _
 refine wpAny_leaves_madeW (base:=W.hideAll s1.heap (eM (envOfC qual scope s0.heap.objs.size f cd::outer))) (h:=s1.heap) I.ok.frames rfl (fun b o q=>W.of_hideAll _ q)
  (W.funFrames_hide st fun JJ he a ha=>acP.mpr ⟨JJ,he,ha⟩) hx fun ML t fl tup bt ups=>?_
 have kept:∀ b o,s1.heap.get? b=some o->b∉eM (envOfC qual scope s0.heap.objs.size f cd::outer)->ML.get? b=some o:=fun b o q nb=>fl.1 b o (ads _ q nb)
 have u:Un (eM outer) [] H0 H1 s0.heap s1.heap:=I.base
 refine⟨e,cls,.ref t,_,H1,rfl,⟨I.os,I.bare,u.eZ (fun b o q nb qc=>?_) (fun b o q hb qc=>?_),I.bh.eZ fun b o hb q=>kept b o q fun z=>hb (fz b z),fl,fun b hb=>fz b (fT hb),fun b o q nb hc=>?_⟩,hE⟩
 ·obtain⟨o',q'⟩:=qc
  exact kept b o q (old b o' q' nb)
 ·obtain⟨_,o',mD,nf⟩:=st.mem (fT hb)
  rw[q] at mD;cases mD
  exact ups b o (hx.keeps b o q) nf
 ·have key:∃ o1,s1.heap.get? b=some o1/\b∉eM (envOfC qual scope s0.heap.objs.size f cd::outer):=by
   rcases hc with hc|⟨o',q'⟩
   ·cases e1:H1 b with
    | none=>exact absurd e1 hc
    | some u1=>
     obtain⟨o1,q1⟩:=(I.bh b u1 e1).there
     exact⟨o1,q1,fun z=>hc (fz b z)⟩
   ·obtain⟨o1,q1⟩:=u.there b o' q' (by simp)
    exact⟨o1,q1,old b o' q' nb⟩
  obtain⟨o1,q1,n1⟩:=key
  have z:=kept b o1 q1 n1
  have q2:ML.get? b=some o:=q
  rw[q2] at z;cases z
  exact ads _ q1 n1
theorem MN:Passes (XF P w) (cR (XF P w) P w K mg base N qual scope f cd A outer s0 H0 E) E:=by
 rintro pins σ H s e s' I ⟨ea,cls,a0,B,H',rfl,x,hE⟩
 have sub:∀ b∈eM (envOfC qual scope s0.heap.objs.size f cd::outer),b=(envOfC qual scope s0.heap.objs.size f cd).locals\/b∈eM outer:=fun b hb=>ZI.mp (I.f7 b hb)
 have above:s0.heap.objs.size<=(envOfC qual scope s0.heap.objs.size f cd).locals:=I.ok.above
 have xR:∀ b o,s0.heap.get? b=some o->b∈eM (envOfC qual scope s0.heap.objs.size f cd::outer)->b∈eM outer:=fun b o q z=>by
  rcases sub b z with z|z
  ·subst z
   exact absurd (ZM (ZH q) above) (aaT _)
  ·exact z
 have x':zH P w (envOfC qual scope s0.heap.objs.size f cd::outer) H s cls a0 ea B H' s':=x
 have u0:Un (eM outer) [] H0 H s0.heap s.heap:=I.base
 have u:Un (eM outer) [] H0 H' s0.heap s'.heap:=u0.andThen x'.un xR
 show wpAny (model P w) (A.deeper (envOfC qual scope s0.heap.objs.size f cd)) (leaving (envOfC qual scope s0.heap.objs.size f cd) (.ref ea)) _ _ _
 refine wpAny_leaves_onW I.ok.frames rfl x'.jk fun h' fl ups=>?_
 have kept:∀ b o,s'.heap.get? b=some o->b∉eM (envOfC qual scope s0.heap.objs.size f cd::outer)->(H' b≠none\/∃ o',s.heap.get? b=some o')->h'.get? b=some o:=fun b o q nb hc=>fl.1 b o (x'.CD b o q nb hc)
 refine⟨ea,cls,a0,B,H',rfl,⟨x'.os.trans I.os,x'.bare,u.eZ (fun b o q nb qc=>?_) (fun b o q hb qc=>?_),x'.bh.eZ fun b o hb q=>kept b o q (fun z=>hb (x'.pU b z)) (.inl hb),fl,fun b hb=>x'.pU b (fT hb),fun b o q nb hc=>?_⟩,hE⟩
 ·obtain⟨o',q'⟩:=qc
  obtain⟨o1,q1⟩:=u0.there b o' q' (by simp)
  exact kept b o q (fun z=>nb (xR b o' q' z)) (.inr ⟨o1,q1⟩)
 ·obtain⟨_,o',mD,nf⟩:=x'.jk.2.2.1.mem (fT hb)
  rw[q] at mD;cases mD
  exact ups b o q nf
 ·have key:∃ o1,s'.heap.get? b=some o1/\b∉eM (envOfC qual scope s0.heap.objs.size f cd::outer)/\(H' b≠none\/∃ o',s.heap.get? b=some o'):=by
   rcases hc with hc|⟨o',q'⟩
   ·cases e1:H' b with
    | none=>exact absurd e1 hc
    | some u1=>
     obtain⟨o1,q1⟩:=(x'.bh b u1 e1).there
     exact⟨o1,q1,fun z=>hc (x'.pU b z),.inl (by rw[e1] at hc;exact hc)⟩
   ·obtain⟨o1,q1⟩:=u.there b o' q' (by simp)
    obtain⟨o2,q2⟩:=u0.there b o' q' (by simp)
    exact⟨o1,q1,fun z=>nb (xR b o' q' z),.inr ⟨o2,q2⟩⟩
  obtain⟨o1,q1,n1,c1⟩:=key
  have z:=kept b o1 q1 n1 c1
  have q2:h'.get? b=some o:=q
  rw[q2] at z;cases z
  exact x'.CD b _ q1 n1 c1
end
end L2
namespace L2
open PySem PySem.Spec PyProof.Rows PySem.W PySem.Calls Builtin Builtin.ObjectAttr Builtin.Getset_descriptor
def ExcAt (C e:Addr)(h:Heap):Prop:=∃ o,h.get? e=some o/\o.cls=.ref C/\notCls o=true
theorem ExcAt.stays {C e:Addr}{h1 h2:Heap}(x:ExcAt C e h1)(k:∀ o,h1.get? e=some o->h2.get? e=some o):ExcAt C e h2:=
 let ⟨o,a,b⟩:=x
 ⟨o,k o a,b⟩
theorem ExcAt.type {C e:Addr}{h:Heap}{M:Model}(x:ExcAt C e h):Looks M h (typeOf (.ref e)) (.ref C):=by
 obtain⟨o,a,b,_⟩:=x
 exact b▸(Looks.ld a).andThen .now
structure jn (K:Frag)(C:Addr):Prop where
 cls:(clsIn K C).isSome=true
 ga:findIn K (.ref C) "__getattribute__"=some (some (.builtin "BaseException.__getattribute__"))
 gt:findIn K (.ref C) "__getattr__"=some none
 cl:findIn K (.ref C) "__class__"=some (some (.builtin "object.__class__"))
 get:specialIn K (.builtin "object.__class__") "__get__"=some (some (.builtin "getset_descriptor.__get__"))
 tk:takesIn K (.builtin "object.__class__")=some true
 ob:mroIn K C (.type "object")=some true
 be:mroIn K C (.type "BaseException")=some true
section
variable {prog:Program}{w:World}{A:Around}{E:Value->Shared->Prop}{s:Shared}{K:Frag}{e C:Addr}
theorem CG {M:Model}{h:Heap}(X:K.In h)(T:jn K C):Looks M h (Builtin.ObjectAttr.find (.ref e) (.ref C) "__class__") (.bind (.builtin "getset_descriptor.__get__") (.builtin "object.__class__")):=by
 have d:Looks M h (Builtin.ObjectAttr.dataDescriptor? (some (.builtin "object.__class__")) (some (.builtin "getset_descriptor.__get__"))) (some (.builtin "getset_descriptor.__get__",.builtin "object.__class__")):=(looks_takesIn X T.tk).andThen .now
 exact (acv X T.cl).andThen ((looks_specialIn X T.get).andThen (d.andThen (Looks.tag .now)))
theorem rS {R:Result->Shared->Prop}{tp:Value}(X:K.In s.heap)(I:ExcAt C e s.heap)(hm:mroIn K C (.type "object")=some true)
  (h:R (.ok (.ret (.ref C))) s):codeAny (model prog w) A (.call (.builtin "getset_descriptor.__get__") ⟨[.builtin "object.__class__",.ref e,tp],[]⟩) R s:=by
 obtain⟨hp,gs,dr,tk,os⟩:=s
 have l0:=I.type (M:=model prog w)
 have l1:=looks_mroIn (M:=model prog w) X hm
 refine abH KF.slot_gs.plain KF.entry_gs ?_
 refine KF.slot_gs.check _ _ _ _ _ _ _ _ KF.type_class (KF.args_gs _ _ _) ?_
 unfold Builtin.«getset_descriptor.__get__» descrGet
 rw[dga_obj]
 refine ZD (ZF ?_)
 unfold descrGetter descrCheckInstance descrNameAndClass isInstance
 simp only[KF.owner_class]
 repeat lk
 refine⟨adg _ (by decide +kernel),abM KF.entry_class ?_⟩
 unfold Builtin.«object.__class__» shownTypeOf
 repeat lk
 exact h
theorem AZ {tk:Tok}{Q:PySem.Fin->Shared->Prop}(X:K.In s.heap)(T:jn K C)(I:ExcAt C e s.heap)(h:Q (.done (.ret (.ref C))) s) :
  wpAny (model prog w) A (Builtin.«object.__getattribute__» ⟨[.ref e,.str "__class__" tk],[]⟩) Q E s:=by
 obtain⟨hp,gs,dr,t,os⟩:=s
 have l0:=I.type (M:=model prog w)
 have l1:=CG (e:=e) (M:=model prog w) X T
 unfold Builtin.«object.__getattribute__»
 repeat (first|with_reducible refine abL ?_|lk)
 refine rS X I T.ob ?_
 repeat lk
 exact h
theorem A3 {Q:Option Value->Shared->Prop}(X:K.In s.heap)(T:jn K C)(I:ExcAt C e s.heap)(h:Q (some (.ref C)) { s with toks:=s.toks+1 }):wpAny (model prog w) A (getAttr? (.ref e) "__class__") Q E s:=by
 obtain⟨hp,gs,dr,t,os⟩:=s
 have l0:=I.type (M:=model prog w)
 have l1:=acv (M:=model prog w) X T.ga
 have l2:=acv (M:=model prog w) X T.gt
 have l3:=looks_mroIn (M:=model prog w) X T.be
 unfold getAttr? getAttrBy? getAttrBy
 refine ZD (wpAny_mkText (ZD (abb (aaj (ZD (l0.at (ZD (l1.at ?_))))))))
 dsimp only
 have ne:(Value.builtin "BaseException.__getattribute__"==Value.builtin "object.__getattribute__")=false:=by decide +kernel
 rw[Z4 (by rw[ne,ad3];exact ZJ)]
 unfold getAttrByItsOwn hookBefore
 repeat (first|with_reducible refine abL ?_|with_reducible refine abb ?_|lk)
 have hk:builtinKind "BaseException.__getattribute__"=some .slot:=by decide +kernel
 have xS:splitId "BaseException.__getattribute__"=some ("BaseException","__getattribute__"):=by decide +kernel
 refine abH (by decide +kernel) F.entry_bexc_ga ?_
 have ha:=F.args_bexc_ga (.ref e) (.str (Str.ofString "__class__") t)
 show wpAny _ _ (checkBuiltinCall "BaseException.__getattribute__" ⟨[.ref e,.str (Str.ofString "__class__") t],[]⟩) _ _ _
 simp only[checkBuiltinCall,hk,xS]
 unfold isInstance
 refine ZD (ZD (l0.at (l3.at ?_)))
 simp only[adb,aaO,abX]
 refine adp (show _=pure () from ha) ?_
 refine Z2 (AZ (E:=fun _ _=>False) (Q:=fun fin s'=>fin=.done (.ret (.ref C))/\s'=⟨hp,gs,dr,t+1,os⟩) X T I ⟨rfl,rfl⟩) (fun fin s' z=>?_) fun _ _ z=>z.elim
 obtain⟨rfl,rfl⟩:=z
 exact ZF (ZF h)
end
theorem vG {K:Frag}{e C:Addr}(T:jn K C):KitX K (.ref e) (.ref C) (ExcAt C e) where
 ty:=fun _ _ _ I=>I.type
 it:=fun M h X _=>by
  obtain⟨cd,hc⟩:=aby.mp T.cls
  unfold clsIn at hc
  split at hc
  ·rename_i c' d' MO Qw ho
   intro A' Q' E' s' k q
   unfold isType loadHead
   exact ZD (adH (k _ _ (X _ _ ho)) (ZF q))
  ·cases hc
 ne:=fun h tp dd aH n sl X VO=>by
  obtain⟨cd,hc⟩:=aby.mp T.cls
  refine ac3.mpr fun q=>?_
  have ee:C=tp:=Value.ref.inj (aa4.mp q)
  subst ee
  unfold clsIn at hc
  split at hc
  ·rename_i c' d' MO Qw ho
   have z:=(X _ _ ho).symm.trans VO
   cases z
  ·cases hc
 ca:=fun X I k=>A3 X T I k
end L2
namespace L2
open PySem PySem.Spec PyProof.Rows
structure iU (k:Nat)(A:Around):Prop where
 dp:A.depth+3*k+5<recursionLimit
 un:A.units+16*k+200<cLine
theorem dt.q {k:Nat}{A:Around}(r:dt k A):iU k A:=⟨r.dp,r.un⟩
theorem iU.mono {j k:Nat}{A:Around}(r:iU k A)(h:j<=k):iU j A:=⟨by have:=r.dp;omega,by have:=r.un;omega⟩
theorem iU.deeper {k:Nat}{A:Around}(r:iU (k+1) A)(env:Env):iU k (A.deeper env):=
 ⟨by have:=r.dp;show A.depth+1+3*k+5<_;omega,by have:=r.un;show A.units+3+16*k+200<_;omega⟩
section
variable {P:Program}{w:World}{K:W.Frag}{mg:Str->Option Value}{base:Heap}
theorem zF.Q3 {x qual:Str}{st:Stmt}{f:Addr}{fd:FuncData}{N ps:List Str}{k:Nat}{sp:Sp}(F:zF K x qual st f fd)(S:ay N ps (ar st))(len:∀ vs H Q E,sp vs H Q E->vs.length=ps.length)
  (eF:∀ (aZ:Value) (A:Around) (outer:List Env) (s:Shared) (H:Hp) (vs:List V) (Q:VK) (E:XK),dt k (A.deeper (envOfC qual (ar st) s.heap.objs.size f aZ))->sp vs H Q E ->
   ∃ t,kL (cR (XF P w) P w K mg base N qual (ar st) f aZ A outer s H E) (aP st) t/\t { nx:=fun _ H'=>Q .eB H',rt:=Q } (start N vs) H):ji P w K mg base (XF P w) (k+1) f fd ps sp:=by
 obtain⟨oc,od,kV,doc,pm,an,aZ,ct,pF,rfl,lk,pD⟩:=F.ex
 exact zw lk pD S len fun A outer s H vs Q E hr tN=>eF aZ A outer s H vs Q E hr tN
end
section
variable {X:Cx}{k:Nat}{f:Addr}{fd:FuncData}{ps:List Str}{sp:Sp}{zv:List V}{ds:List Value}{x:Str}{p pos:Pos}{e:Expr}{es:List Expr}{t:TA}
end
theorem PS.vt {X:Cx}{st:Stmt}{t:TS}(h:PS X.vt st t):PS X st t:=fun pins s σ H D I hw=>
 Z2 (h pins s σ H D (I.kU _) hw) (fun _ _ q=>q.gf) fun _ _ z=>z.elim
theorem pG {K:W.Frag}{h:Heap}{C:Addr}{MP:List Value}{newId:String}(X:K.In h)(q:W.excIn K C MP newId=true) :
  ∃ bm N nm qn bs hdct sn sub ab col dd k0 k1 k2 k3 k5 mN,h.get? C=some (excClassObj nm qn C N bs bm hdct sn sub ab col dd k0 k1 k2 k3 k5 newId)/\h.Ns N mN/\mN "__init__"=none/\OwnTail h MP bm:=by
 unfold W.excIn at q
 split at q
 ·rename_i dd cd sl ho
  split at q
  ·rename_i C' bm k0 k1 k2 k3 n k5 hm hs
   simp only[aaW,aa4,acu] at q
   obtain⟨⟨⟨⟨⟨c1,c2⟩,c3⟩,c4⟩,c5⟩,c6⟩:=q
   subst c1 c2
   obtain⟨nm,bs,mro,ns,qn,hd,sn,sub,ab,col,del⟩:=cd
   dsimp only at hm c3 c5 c6
   subst hm c3
   obtain⟨l⟩:=sl
   have mI:l=[k0,k1,k2,k3,some (.builtin n),k5]:=hs
   subst mI
   exact⟨bm,ns,nm,qn,bs,hd,sn,sub,ab,col,dd,k0,k1,k2,k3,k5,_,X _ _ ho,.of_isNs (ad4 X c5),W.nsMap_none_of_in X c5 c6,W.tail_of_in X c4⟩
  ·cases q
 ·cases q
abbrev eG:List Value:=[.type "ValueError",.type "Exception",.type "BaseException",.type "object"]
def JK (C:Addr)(E:XK)(ta:TA):TS:=fun _ σ H=>ta σ H fun vs H1=>vs.length<=sizeLine/\E (.ref C) none H1
section
variable {P:Program}{w:World}{K:W.Frag}{mg:Str->Option Value}{base:Heap}{N:List Str}{qual:Str}{scope:Scope}{f:Addr}{cd:Value}{A:Around}{outer:List Env}{s0:Shared}{H0:Hp}{E:XK}
 {x:Str}{C:Addr}{np gL pos:Pos}{e:Expr}{es:List Expr}{t:TA}
theorem CH (hm:mg x=some (.ref C))(hq:W.excIn K C eG "ValueError.__new__"=true)(hg:Gl (cR (XF P w) P w K mg base N qual scope f cd A outer s0 H0 E) x)
  (ha:PA (cR (XF P w) P w K mg base N qual scope f cd A outer s0 H0 E) (e::es) t) (oj:(x==("__debug__":Str))=false:=by decide)
  (he:starEach (e::es) (cR (XF P w) P w K mg base N qual scope f cd A outer s0 H0 E).env=(false,eval e (cR (XF P w) P w K mg base N qual scope f cd A outer s0 H0 E).env)::starEach es (cR (XF P w) P w K mg base N qual scope f cd A outer s0 H0 E).env:=by rfl)
  (ir:(backTo gL (starEach es (cR (XF P w) P w K mg base N qual scope f cd A outer s0 H0 E).env)).any (·.1)=false:=by rfl) :
  PS (cR (XF P w) P w K mg base N qual scope f cd A outer s0 H0 E) (.Raise (some (.Call (.Name x np) (e::es) [] gL)) none pos) (JK C E t):=by
 intro pins s σ H D I h
 obtain⟨bm,Nn,nm,qn,bs,hdct,sn,sub,ab,col,dd,k0,k1,k2,k3,k5,mN,hC,hN,HH,TL⟩:=pG I.mod.Hu hq
 have JL:(backTo gL (starEach (e::es) (cR (XF P w) P w K mg base N qual scope f cd A outer s0 H0 E).env)).any (·.1)=false:=by
  rw[he]
  show (false || (backTo gL (starEach es _)).any (·.1))=false
  rw[ir]
  rfl
 refine wpAny_Raise_call_subT (C:=C) (nm:=nm) (q:=qn) (N:=Nn) (bs:=bs) (bm:=bm) (hdct:=hdct) (sn:=sn) (sub:=sub) (ab:=ab) (col:=col) (dd:=dd) (k0:=k0) (k1:=k1) (k2:=k2) (k3:=k3) (k5:=k5)
  acJ (mN:=mN) (TL.hasType PySem.F.excBase_ValueError.hasBase) (I.ok.hd rfl) JL HH (eY I hg hm ⟨rfl,?_⟩ oj)
 have h2:=ha gL pins s σ H _ I h
 rw[he] at h2 ⊢
 exact adF (Z2 h2 (fun us s1 ⟨vs,H1,I1,r,z,q⟩=>⟨rfl,by show us.length<=_;rw[<- r.length];exact z,I1.bk _ _ hC,hN.keeps I1.bk,TL.keeps I1.bk,fun h' ea Q4=>CF I1 Q4 q⟩) fun _ _ y=>y)
end
abbrev Cx.marked (X:Cx)(e:Addr):Cx:={ X with A:=X.A.mark (some (.ref e)),calm:=false,cb:=false,xe:=fun _ _=>False }
theorem Cx.Ok.marked {X:Cx}(ok:X.Ok)(e:Addr):(X.marked e).Ok:=
 ⟨ok.mod,ok.kind,ok.glob,ok.blt,ok.above,ok.inj,ok.has,ok.Fo,(fun h=>by cases h),(fun h=>by cases h),ok.frames,ok.FF,ok.Jf,ok.bs,ok.vn,ok.pT,ok.tF,ok.jy,ok.pU⟩
section
variable {X:Cx}{pins:List (Addr × Obj)}{σ:St}{H H':Hp}{s s':Shared}{e:Addr}
theorem Inv.marked (I:Inv X pins σ H s)(e:Addr):Inv (X.marked e) pins σ H s:=⟨I.ok.marked e,I.vq,I.os,I.bare,I.base,I.loc,I.cell,I.free,I.eW,I.pin,I.bh,I.len⟩
theorem Inv.unmarked (ok:X.Ok)(I:Inv (X.marked e) pins σ H s):Inv X pins σ H s:=⟨ok,I.vq,I.os,I.bare,I.base,I.loc,I.cell,I.free,I.eW,I.pin,I.bh,I.len⟩
theorem Un.more {fs:List Addr}{H H1:Hp}{h h1:Heap}{a:Addr}{o:HO}(u:Un fs [] H H1 h h1)(n:h.get? a=none)(n1:H1 a=none):Un fs [] H (upd H1 a o) h h1 where
 keep:=u.keep
 slot:=u.slot
 free:=fun b ob q m hx=>by
  have ne:b≠a:=fun z=>by subst z;rw[n] at q;cases q
  rw[aG ne]
  exact u.free b ob q m hx
 there:=u.there
 je:=fun b xs q=>by
  have z:=u.je b xs q
  rw[aG (aI z n1)]
  exact z
 iF:=fun b ob v q=>by
  have z:=u.iF b ob v q
  rw[aG (aI z n1)]
  exact z
 jf:=fun b ps q=>by
  obtain⟨m,z⟩:=u.jf b ps q
  exact⟨m,by rw[aG (aI z n1)];exact z⟩
theorem ki.more {P:Program}{w:World}{H1:Hp}{h1:Heap}{a:Addr}{o:HO}(x:ki P w H1 h1)(n1:H1 a=none)(new:bI P w (upd H1 a o) h1 a o):ki P w (upd H1 a o) h1:=fun b u e=>by
 by_cases hb:b=a
 ·subst hb;rw[ah] at e;cases e;exact new
 ·rw[aG hb] at e
  exact (x b u e).rN (fun _ _ _ q=>q) (fun c q=>by rw[aG (aI q n1)];exact q) fun c xs q=>by rw[aG (aI q n1)];exact q
variable {cls a0:Value}{ea C:Addr}{B h':Heap}{t':Nat}
theorem zH.MQ (x:zH X.prog X.w X.stack H s cls a0 ea B H' s')(k:B.StaysIn h')(ups:s'.heap.UpToSlots h'):Un (eM X.stack) [] H H' s.heap h':=
 x.un.eZ (fun b o q nb old=>k b o (x.CD b o q nb (.inr old))) fun b o q hb old=>by
  obtain⟨_,o',mD,nf⟩:=x.jk.2.2.1.mem hb
  rw[q] at mD;cases mD
  exact ups b o q nf
theorem zH.CI (x:zH X.prog X.w X.stack H s cls a0 ea B H' s')(k:B.StaysIn h'):ki X.prog X.w H' h':=
 x.bh.eZ fun b o hb q=>k b o (x.CD b o q (fun z=>hb (x.pU b z)) (.inl hb))
theorem zH.vH (x:zH X.prog X.w X.stack H s cls a0 ea B H' s'):ea∉eM X.stack:=fun z=>by
 obtain⟨_,o',mD,nf⟩:=x.jk.2.2.1.mem z
 obtain⟨oe,vs,he,_,hd,_⟩:=x.jk.first
 rw[he] at mD;cases mD
 exact nf vs hd
theorem zH.new (x:zH X.prog X.w X.stack H s cls a0 ea B H' s'):s.heap.get? ea=none/\H' ea=none:=by
 obtain⟨oe,vs,he,_,hd,_⟩:=x.jk.first
 constructor
 ·cases q:s.heap.get? ea with
  | none=>rfl
  | some o'=>
   have z:=x.CD ea oe he x.vH (.inr ⟨o',q⟩)
   rw[x.jk.2.1] at z;cases z
 ·cases q:H' ea with
  | none=>rfl
  | some u=>
   have z:=x.CD ea oe he x.vH (.inl (by rw[q];simp))
   rw[x.jk.2.1] at z;cases z
theorem Inv.landed (I:Inv X pins σ H s)(x:zH X.prog X.w X.stack H s cls a0 ea B H' s')(k:B.StaysIn h')(ups:s'.heap.UpToSlots h'):Inv X pins σ H' { s' with heap:=h',toks:=t' }:=
 I.og (s':={ s' with heap:=h',toks:=t' }) (ch:=[]) x.os (x.MQ k ups) (x.CI k) x.bare fun b z=>absurd z (by simp)
theorem Inv.zI (I:Inv X pins σ H s)(x:zH X.prog X.w X.stack H s (.ref C) a0 ea B H' s'){l:List Env}(fl:Heap.FlyingW B l ea (.ref C) a0 h')(ups:s'.heap.UpToSlots h') :
  Inv X pins σ (upd H' ea (.ext (ExcAt C ea))) { s' with heap:=h',toks:=t' }:=by
 obtain⟨oe,vs,he,hc,hd,_⟩:=fl.first
 have at_:ExcAt C ea h':=⟨oe,he,hc,by unfold W.notCls;rw[hd]⟩
 exact I.og (s':={ s' with heap:=h',toks:=t' }) (ch:=[]) x.os ((x.MQ fl.1 ups).more x.new.1 x.new.2) ((x.CI fl.1).more x.new.2 ⟨at_,⟨oe,he⟩,fun h1 h2 p q=>p.stays q⟩) x.bare fun b z=>absurd z (by simp)
theorem ck {M:Model}{A:Around}{E:Value->Shared->Prop}{i:Nat}{n:Str}{pos:Pos}{Q:Unit->Shared->Prop}(I:Inv X pins σ H s)(hN:X.N.Nodup)(hi:X.N[i]?=some n)(hk:X.env.scope.names.lookup n=some .local)
  (h:∀ s',Inv X pins (σ.set i none) H s'->Q () s'):wpAny M A (do bindName X.env n .none;unbindBehindTheSuite X.env n pos) Q E s:=by
 obtain⟨m,hn,hl⟩:=id I.loc
 have xC:(X.env.scope.kind==.class || (X.env.scope.kind==.module&&X.env.locals != X.env.globals))=false:=by rw[I.ok.kind];rfl
 have Cj:=I.Cj
 obtain⟨oL,_,_,AM,_⟩:=id hn
 refine wpAny_nameGoes_keeps hk hn xC fun h' v LC hs=>?_
 have old:∀ b o,X.s₀.heap.get? b=some o->h'.get? b=s.heap.get? b:=fun b o e=>hs.2 b (ZP (ZM (ZH e) I.ok.above))
 refine h _ ⟨I.ok,I.vq,I.os,I.bare,⟨fun b o e k hb hx=>(old b o e).trans (I.base.keep b o e k hb hx),fun b o e k hb hx=>?_,I.base.free,fun b o e hx=>?_,I.base.je,I.base.iF,I.base.jf⟩,⟨_,LC,fun j y v' e1 e2 e3=>?_⟩,fun y c e=>?_,I.free,I.eW,fun p hp=>?_,fun b ob e=>?_,by simpa using I.len⟩
 ·obtain⟨sl,e1⟩:=I.base.slot b o e k hb hx
  exact⟨sl,(old b o e).trans e1⟩
 ·obtain⟨o',e1⟩:=I.base.there b o e hx
  exact⟨o',(old b o e).trans e1⟩
 ·by_cases hj:j=i
  ·subst hj
   exfalso
   have fZ:j<σ.length:=by rw[I.len];exact (aae.mp hi).1
   rw[adm fZ] at e2
   cases e2
  ·rw[adu (Ne.symm hj)] at e2
   obtain⟨u',r',q⟩:=hl j y v' e1 e2 e3
   refine⟨u',r',?_⟩
   rcases q with ⟨k,e⟩|⟨k,c,e,z⟩
   ·refine .inl ⟨k,?_⟩
    have ne:y≠n:=fun z=>hj (pV hN e1 (z▸hi))
    show (if y=n then v else m y)=some u'
    rw[Z4 ne]
    exact e
   ·exact .inr ⟨k,c,e,z.sameBut hs (Cj y c e)⟩
 ·obtain⟨w',z⟩:=I.cell y c e
  exact⟨w',z.sameBut hs (Cj y c e)⟩
 ·obtain⟨e,k,ne,nf,d⟩:=I.pin p hp
  exact⟨(hs.2 p.1 ne).trans e,k,ne,nf,d⟩
 ·refine (I.bh b ob e).rN (fun c w' hc q=>(hs.2 c ?_).trans q) (fun _ q=>q) fun _ _ q=>q
  rintro rfl
  rcases hc with rfl|hc
  ·rw[I.free] at e;cases e
  ·rw[I.free] at hc;cases hc
def qd (D:Ends)(i:Nat):Ends:={ nx:=fun σ H=>D.nx (σ.set i none) H,rt:=D.rt,bk:=fun σ H=>D.bk (σ.set i none) H,ct:=fun σ H=>D.ct (σ.set i none) H }
end
section
variable {X:Cx}{k:Nat}{f C:Addr}{fd:FuncData}{ps:List Str}{sp:Sp}{g x n:Str}{p pos mT rT np mU:Pos}{e:Expr}{es:List Expr}{t:TA}{ts:TS}{b₀:Stmt}{fu:List Stmt}{i:Nat}
end
inductive Pm (K:W.Frag)(H:Hp):V->Value->Prop where
 | of {x:V}{t:Value} (h:mS K H x t):Pm K H x t
 | exc {e C:Addr} (T:jn K C) (h:H e=some (.ext (ExcAt C e))):Pm K H (.ref e) (.ref C)
def valOf:V->Value
 | .ref a=>.ref a
 | .ty n=>.type n
 | _=>.none
inductive MR (K:W.Frag)(xs:List V)(H:Hp)(Q:VK):Prop
 | mk:∀ x c t b,(xs=[x,c])->(((∃ a,c=.ref a)\/∃ n,c=.ty n))->(Pm K H x t)->(W.kitOne K t (valOf c)=some b)->(Q (.bl b) H)->MR K xs H Q
theorem lV {X:Cx}:gI X (.builtin "isinstance") (MR X.K):=by
 intro pins s σ H xs us Q I rv h
 obtain⟨x,c,t,b,rfl,hc,ty,e,q⟩:=h
 obtain⟨u,uc,rfl,ru,rc⟩:=rv.two
 have Q8:uc=valOf c:=by
  rcases hc with ⟨a,rfl⟩|⟨n,rfl⟩
  ·exact rc
  ·exact rc
 subst Q8
 have fin:∀ tk,EP X pins σ Q (.bool b) { s with toks:=tk }:=fun tk=>⟨.bl b,H,I.tok tk,rfl,q⟩
 cases ty with
 | of ty=>exact AU I ru ty e fin
 | @exc ea C T he=>
  have Q9:u=Value.ref ea:=ru
  subst Q9
  obtain⟨p,_,_⟩:=(show bI X.prog X.w H s.heap ea (.ext (ExcAt C ea)) from I.bh ea _ he)
  exact ab6 (vG T) I.jw p e (fun z=>nomatch z) fin
theorem vI {ns:List Int}(h:W.WData.layableAll [W.WData.list (ns.map W.WData.int)]=true):∀ n∈ns,Builtin.Int.intBits n<=1048576:=fun n hn=>by
 have h1:=(W.layW_cons h).1
 have h2:=W.layableW_item h1 (.int n) (abm.mpr ⟨n,hn,rfl⟩)
 have h3:PyData.layable0 (.int n)=true:=h2
 exact PyData.bits_of_layable h3
inductive MS (t u:TS)(D:Ends)(σ:St)(H:Hp):Prop
 | mk:∀ (R:St->Hp->Prop),(t { D with nx:=R } σ H)->(∀ σ' H',R σ' H'->u D σ' H')->MS t u D σ H
theorem cu {X:Cx}{st:Stmt}{rest:List Stmt}{t u:TS}(h1:PS X st t)(h2:kL X rest u):kL X (st::rest) (MS t u):=by
 intro pins s σ H D I h
 obtain⟨R,h,k⟩:=h
 refine adv (eD (h1 pins s σ H { D with nx:=R } I h) fun f s1 q=>?_)
 cases f with
 | next=>
  obtain⟨σ',H',I',q⟩:=q
  exact h2 pins s1 σ' H' D I' (k _ _ q)
 | ret v=>exact q
 | brk=>exact q
 | cont=>exact q
theorem CJ {i:Int}{k:Nat}(h:i.natAbs<2^k)(hk:k<=1048576):Builtin.Int.intBits i<=1048576:=ZV (intBits_le h) hk
theorem MT {a b:Int}(ha:Builtin.Int.intBits a<=1048576)(hb:Builtin.Int.intBits b<=1048576):IntMulOk a b:=IntMulOk.of_bits ha hb
theorem log2_lt_of {i:Int}{k:Nat}(h:i.natAbs<2^k)(hk:0<k):i.natAbs.log2<k:=by
 by_cases h0:i.natAbs=0
 ·rw[h0];exact hk
 ·exact (Nat.log2_lt h0).mpr h
theorem cell_in {ns:List Int}{k:Int}(h0:0<=k)(h:k<((ns.map V.int).length:Nat)):pZ (ns.map V.int) k=some (.int (ns.getD k.toNat 0)):=by
 rw[ZR] at h
 have hk:k.toNat<ns.length:=by omega
 have ek:k=((k.toNat:Nat):Int):=by omega
 have q:pZ (ns.map V.int) ((k.toNat:Nat):Int)=some (.int (ns.getD k.toNat 0)):=zy (by
  rw[ZU,ZK hk,aad,ZK hk]
  rfl)
 rw[<- ek] at q
 exact q
inductive tT (vs:List V)(H:Hp)(Q:VK)(bK:XK):Prop
 | mk:∀ n,(vs=[.int n])->(Q (.bl true) H)->tT  vs H Q bK
theorem au {H:Hp}{p:Addr}(h:H p=none)(o:HO):aw H (upd H p o):=fun b u q=>by rw[aG (aI q h)];exact q
inductive aV (P:Program)(w:World)(K:W.Frag)(mg:Str->Option Value)(base:Heap)(CX:sj)(k:Nat)(x:Str)(ps:List Str)(sp:Sp):Prop
 | mk:∀ (f:Addr) (fd:FuncData),(ji P w K mg base CX k f fd ps sp)->(Binds K fd ps [])->(W.keepIn K (.ref f)=true)->(mg x=some (.ref f))->aV P w K mg base CX k x ps sp
theorem bX {p:Prop} [Decidable p] (h:decide p=true):p:=acq h
theorem du {p:Prop} [Decidable p] (h:¬ decide p=true):¬ p:=of_decide_eq_false (ac3.mpr h)
theorem aL {a b:Int}(h:V.int a=V.int b):a=b:=V.int.inj h
inductive vJ:List Expr->List Int->Prop where
 | nil:vJ [] []
 | cons {i:Int}{j:Nat}{pos:Pos}{es:List Expr}{ns:List Int} (h:vJ es ns):vJ (.Constant (.int i) j pos::es) (i::ns)
theorem F1 {X:Cx}{es:List Expr}{ns:List Int}(h:vJ es ns):PA X es (fun _ H Q=>Q (ns.map V.int) H):=by
 induction h with
 | nil=>exact ag
 | cons h ih=>exact ae af ih
theorem CK (o:Obj)(f:Array Value->Array Value):(o.mapFields f).dict=o.dict:=by
 unfold Obj.mapFields
 split<;>rfl
def VP (h base:Heap)(e:Addr)(cls:Value)(dx:Option Addr)(fl:Value):Prop:=
 ∃ oe vs T oT ts,h.get? e=some oe/\(oe.cls=cls/\oe.dict=dx)/\oe.data=.fields vs/\vs[1]?=some (.ref T)/\vs[2]?=some .none/\base.get? T=none/\T≠e/\h.get? T=some oT/\oT.data=.fields ts/\ts[3]?=some fl
structure iu (base:Heap)(l:List Env)(e:Addr)(cls:Value)(dx:Option Addr)(fl:Value)(h:Heap):Prop where
 (stays:base.StaysIn h) (new:base.get? e=none) (Po:h.FunFrames base l) (tr:VP h base e cls dx fl)
theorem iu.there {base h:Heap}{l:List Env}{e:Addr}{cls fl:Value}{dx:Option Addr}(x:iu base l e cls dx fl h):∃ ob,h.get? e=some ob/\ob.cls=cls/\ob.dict=dx/\∃ vs,ob.data=.fields vs:=by
 obtain⟨oe,vs,_,_,_,he,hc,hd,_⟩:=x.tr
 exact⟨oe,he,hc.1,hc.2,vs,hd⟩
section
variable {M:Model}{A:Around}{E:Value->Shared->Prop}{s:Shared}
theorem CL {base:Heap}{env:Env}{outer:List Env}{L e:Addr}{oe:Obj}{vs:Array Value}{head:Value}{more:Bool}{Q:Unit->Shared->Prop}
  (fr:A.frames=some (env::outer)) (fl:s.heap.FunFrames base (env::outer)) (ef:env.frame=some L) (zJ:s.heap.get? e=some oe) (sb:base.StaysIn s.heap) (nb:base.get? e=none) (od:oe.data=.fields vs) (z1:1<vs.size) (v2:vs[2]?=some .none)
  (k:∀ h',iu base (env::outer) e oe.cls oe.dict (rawInt L) h'->s.heap.UpToSlots h'->Q () { s with heap:=h' }) :
  wpAny M A (do let a <- frameOf env;let pl <- entryPlaceOf L more;let b <- EntryCells.newEntry head a .none (rawInt L) .none pl;setField (.ref e) 1 b) Q E s:=by
 have nf:e∉(env::outer).filterMap (·.frame):=fun m=>by
  obtain⟨_,o,h1,h2⟩:=fl.mem m
  rw[zJ] at h1
  cases h1
  exact h2 vs od
 refine ZD (wpAny_frameOf_fun fr fl ef fun h1 q1=>ZD (wpAny_entryPlaceOf fun pl sp=>?_))
 unfold EntryCells.newEntry newFields
 refine ZD (aa0 ?_ (sp.sizeOk5 _ _ _ _ _))
 generalize xt:([head,Value.ref L,.none,rawInt L,.none]++(if pl.isEmpty then List.replicate 6 Value.none else pl)).toArray=tb
 have e1:h1.get? e=some oe:=(q1.2.1 e nf).trans zJ
 have s1:base.StaysIn h1:=fun b o x=>(q1.2.1 b fun m=>by rw[(fl.mem m).1] at x;cases x).trans (sb b o x)
 have e2:=ZE (h:=h1) { cls:=.type "traceback",dict:=none,data:=.fields tb } e1
 have ne:h1.objs.size≠e:=ace (ZH e1)
 have d3:=aan od (·.setIfInBounds 1 (Value.ref h1.objs.size))
 have e3:=aaq (Obj.mapFields (·.setIfInBounds 1 (Value.ref h1.objs.size))) e2 (aa5 d3)
 have t3:=(aaC (h1.push { cls:=.type "traceback",dict:=none,data:=.fields tb }) (Obj.mapFields (·.setIfInBounds 1 (Value.ref h1.objs.size))) (Ne.symm ne)).trans (ZN h1 rfl)
 have kp:∀ b o,b≠e->h1.get? b=some o->((h1.push { cls:=.type "traceback",dict:=none,data:=.fields tb }).update e (Obj.mapFields (·.setIfInBounds 1 (Value.ref h1.objs.size)))).get? b=some o:=fun b o ne' x=>by
  rw[aaC _ _ (Ne.symm ne')]
  exact ZE _ x
 have nr:∀ b o,s.heap.get? b=some o->(∀ vs,o.data≠.fields vs)->b≠e:=fun b o x y z=>by
  rw[z,zJ] at x
  cases x
  exact y vs od
 have f3:tb[3]?=some (rawInt L):=by
  rw[<- xt]
  first|(simp;done)|(rcases sp with rfl|⟨_,_,_,_,_,_,_,rfl⟩<;>simp)
 refine aa9 e2 od z1 (k _ ⟨fun b o x=>kp b o (fun z=>by rw[z,nb] at x;cases x) (s1 b o x),nb,fl.of_keeps fun b o x y=>?_,⟨_,_,h1.objs.size,_,_,e3,⟨acb _ _,CK _ _⟩,d3,by simp[z1],by simpa [Array.getElem?_setIfInBounds] using v2,s1.fresh,ne,t3,rfl,f3⟩⟩ fun b o x y=>?_)
 ·obtain⟨sl,z⟩:=q1.2.2 b o x
  exact⟨_,kp b _ (nr b o x y) z,rfl⟩
 ·obtain⟨sl,z⟩:=q1.2.2 b o x
  exact⟨sl,kp b _ (nr b o x y) z⟩
theorem xT {base:Heap}{env:Env}{outer:List Env}{L e:Addr}{oe:Obj}{vs:Array Value}{Q:Unit->Shared->Prop}
  (fr:A.frames=some (env::outer)) (fl:s.heap.FunFrames base (env::outer)) (ef:env.frame=some L) (zJ:s.heap.get? e=some oe) (sb:base.StaysIn s.heap) (nb:base.get? e=none) (od:oe.data=.fields vs) (v1:vs[1]?=some .none) (v2:vs[2]?=some .none)
  (k:∀ h',iu base (env::outer) e oe.cls oe.dict (rawInt L) h'->s.heap.UpToSlots h'->Q () { s with heap:=h' }):wpAny M A (noteFrame (.ref e) env) Q E s:=by
 unfold noteFrame
 simp only[ef]
 refine ZD (aaG zJ od v1 ?_)
 rw[Z4 (by decide)]
 exact CL fr fl ef zJ sb nb od (abu.mp v1).1 v2 k
theorem sG {base:Heap}{env:Env}{outer:List Env}{L e:Addr}{cls:Value}{dx:Option Addr}{Q:Unit->Shared->Prop}
  (fr:A.frames=some (env::outer)) (ef:env.frame=some L) (x:iu base (env::outer) e cls dx .none s.heap)
  (k:∀ h',iu base (env::outer) e cls dx (rawInt L) h'->s.heap.UpToSlots h'->Q () { s with heap:=h' }):wpAny M A (noteFrame (.ref e) env) Q E s:=by
 obtain⟨sb,nb,fl,oe,vs,T,oT,ts,zJ,⟨rfl,rfl⟩,od,v1,v2,nT,ne,hT,dT,t3⟩:=x
 unfold noteFrame
 simp only[ef]
 refine ZD (aaG zJ od v1 ?_)
 rw[aag (show (Value.ref T != Value.none)=true by simp)]
 refine ZD (aaG hT dT t3 ?_)
 rw[Z4 (show ¬ ((Value.none==rawInt L)=true) by simp[rawInt])]
 refine ZD (aa9 hT dT (abu.mp t3).1 ?_)
 have ot:∀ b,b≠T->(s.heap.update T (Obj.mapFields (·.setIfInBounds 3 Value.none))).get? b=s.heap.get? b:=fun b z=>aaC _ _ (Ne.symm z)
 have nr:∀ b o,s.heap.get? b=some o->(∀ vs,o.data≠.fields vs)->b≠T:=fun b o x y z=>by
  rw[z,hT] at x
  cases x
  exact y ts dT
 exact CL fr (fl.of_keeps fun b o x y=>⟨o,(ot b (nr b o x y)).trans x,rfl⟩) ef ((ot e (Ne.symm ne)).trans zJ) (fun b o x=>(ot b fun z=>by rw[z,nT] at x;cases x).trans (sb b o x)) nb od (abu.mp v1).1 v2
  fun h' a b=>k h' a fun c o x y=>b c o ((ot c (nr c o x y)).trans x) y
theorem zK {base:Heap}{l:List Env}{e:Addr}{cls fl:Value}{dx:Option Addr}{Q:Unit->Shared->Prop}(x:iu base l e cls dx fl s.heap)
  (k:∀ h',iu base l e cls dx .none h'->s.heap.UpToSlots h'->Q () { s with heap:=h' }):wpAny M A (setFlight (.ref e) none) Q E s:=by
 obtain⟨sb,nb,Po,oe,vs,T,oT,ts,zJ,hc,od,v1,v2,nT,ne,hT,dT,t3⟩:=x
 have z3:3<ts.size:=(abu.mp t3).1
 have ot:∀ b,b≠T->(s.heap.update T (Obj.mapFields (·.setIfInBounds 3 ((none:Option Addr).elim Value.none fun f=>rawInt f)))).get? b=s.heap.get? b:=fun b z=>aaC _ _ (Ne.symm z)
 have nr:∀ b o,s.heap.get? b=some o->(∀ vs,o.data≠.fields vs)->b≠T:=fun b o x y z=>by
  rw[z,hT] at x
  cases x
  exact y ts dT
 unfold setFlight
 refine ZD (aaG zJ od v1 ?_)
 rw[aag (show (Value.ref T != Value.none)=true by simp)]
 exact aa9 hT dT z3 (k _ ⟨fun b o x=>(ot b fun z=>by rw[z,nT] at x;cases x).trans (sb b o x),nb,Po.of_keeps fun b o x y=>⟨o,(ot b (nr b o x y)).trans x,rfl⟩,
  ⟨oe,vs,T,_,_,(ot e (Ne.symm ne)).trans zJ,hc,od,v1,v2,nT,ne,aaq _ hT (aa5 (aan dT _)),aan dT _,by simp[z3]⟩⟩ fun b o x y=>⟨o.slots,(ot b (nr b o x y)).trans x⟩)
theorem vK {base:Heap}{env:Env}{outer:List Env}{L e:Addr}{oe:Obj}{vs:Array Value}{Q:Unit->Shared->Prop}
  (fr:A.frames=some (env::outer)) (fl:s.heap.FunFrames base (env::outer)) (ef:env.frame=some L) (zJ:s.heap.get? e=some oe) (sb:base.StaysIn s.heap) (nb:base.get? e=none) (od:oe.data=.fields vs) (v1:vs[1]?=some .none) (v2:vs[2]?=some .none)
  (k:∀ h',iu base outer e oe.cls oe.dict .none h'->s.heap.UpToSlots h'->Q () { s with heap:=h' }):wpAny M A (leaving env (.ref e)) Q E s:=by
 unfold leaving
 refine ZD (xT fr fl ef zJ sb nb od v1 v2 fun h1 x1 u1=>?_)
 refine zK (s:={ s with heap:=h1 }) x1 fun h2 x2 u2=>?_
 obtain⟨a,b,⟨_,_,c⟩,d⟩:=x2
 exact k h2 ⟨a,b,c,d⟩ (u1.trans u2)
theorem xU {base:Heap}{env:Env}{outer:List Env}{L e:Addr}{cls:Value}{dx:Option Addr}{Q:Unit->Shared->Prop}
  (fr:A.frames=some (env::outer)) (ef:env.frame=some L) (x:iu base (env::outer) e cls dx .none s.heap)
  (k:∀ h',iu base outer e cls dx .none h'->s.heap.UpToSlots h'->Q () { s with heap:=h' }):wpAny M A (leaving env (.ref e)) Q E s:=by
 unfold leaving
 refine ZD (sG fr ef x fun h1 x1 u1=>?_)
 refine zK (s:={ s with heap:=h1 }) x1 fun h2 x2 u2=>?_
 obtain⟨a,b,⟨_,_,c⟩,d⟩:=x2
 exact k h2 ⟨a,b,c,d⟩ (u1.trans u2)
end
end L2
namespace L2
open PySem PySem.Spec PyProof.Rows PySem.W PySem.Calls Builtin Builtin.ObjectAttr
def jz (C e dx:Addr)(h:Heap):Prop:=∃ o,h.get? e=some o/\o.cls=.ref C/\o.dict=some dx/\notCls o=true
theorem jz.exc {C e dx:Addr}{h:Heap}(x:jz C e dx h):ExcAt C e h:=let ⟨o,a,b,_,c⟩:=x;⟨o,a,b,c⟩
structure mV (K:Frag)(C:Addr)(f:Str):Prop where
 cls:jn K C
 no:findIn K (.ref C) f=some none
 hd:(clsIn K C).map (·.hasDict)=some true
section
variable {prog:Program}{w:World}{A:Around}{E:Value->Shared->Prop}{s:Shared}{K:Frag}{e C dx:Addr}{f:Str}
theorem CM {M:Model}{h:Heap}{mA:Str->Option Value}{v:Value}(X:K.In h)(T:mV K C f)(I:jz C e dx h)(N:h.Ns dx mA)(hv:mA f=some v):Looks M h (Builtin.ObjectAttr.find (.ref e) (.ref C) f) (.value v):=by
 obtain⟨cd,hc⟩:∃ cd,clsIn K C=some cd:=by
  cases q:clsIn K C with
  | none=>have:=T.hd;rw[q] at this;cases this
  | some cd=>exact⟨cd,rfl⟩
 have hd:cd.hasDict=true:=by
  have:=T.hd
  rw[hc] at this
  exact ZG this
 obtain⟨o,he,ho,oY,hn⟩:=I
 intro A Q E s k q
 have lc:=looks_clsIn (M:=M) X hc
 unfold Builtin.ObjectAttr.find
 refine ZD (acv (M:=M) X T.no A _ E s k ?_)
 unfold getOf dataDescriptor? ownThenClass inOwnDict ObjectAttr.ownDict
 refine ZD (ZF (ZD (ZF ?_)))
 refine ZD (ZD (ZD ?_))
 unfold loadHead
 refine adH (k _ _ he) ?_
 have key:wpAny M A (instanceDict e false) (fun d s'=>d=some dx/\s'=s) E s:=by
  unfold instanceDict
  refine ZD (adH (k _ _ he) ?_)
  rw[ho]
  refine ZD (lc A _ E s k ?_)
  simp only[hd,oY,adb,aaO,abX]
  exact ZF ⟨rfl,rfl⟩
 have Ra:wpAny M A (instanceDict e false) (fun d s'=>wpAny M A (inDict f d) (fun r xr=>wpAny M A (match r with|some v=>do rule "getattr.instance-dict";pure (Found.value v)|none=>do copiedAttributeGuard f (.ref e);byTheClass none none) Q E xr) E s') E s:=by
  refine Z2 key (fun d s' z=>?_) fun _ _ z=>z
  obtain⟨rfl,rfl⟩:=z
  unfold inDict
  refine wpAny_nsGet (let ⟨o',es,ep,a,b⟩:=N;⟨o',es,ep,k _ _ a,b⟩) ?_
  rw[hv]
  exact ZD (abK (ZF q))
 unfold notCls at hn
 split at hn
 ·cases hn
 ·rename_i VQ
  split
  ·rename_i c xD
   exact absurd xD (VQ c)
  ·exact Ra
theorem A4 {tk:Tok}{Q:PySem.Fin->Shared->Prop}{mA:Str->Option Value}{v:Value}(X:K.In s.heap)(T:mV K C f)(I:jz C e dx s.heap)(N:s.heap.Ns dx mA)(hv:mA f=some v)(h:Q (.done (.ret v)) s) :
  wpAny (model prog w) A (Builtin.«object.__getattribute__» ⟨[.ref e,.str f tk],[]⟩) Q E s:=by
 obtain⟨hp,gs,dr,t,os⟩:=s
 have l0:=I.exc.type (M:=model prog w)
 have l1:=CM (M:=model prog w) X T I N hv
 unfold Builtin.«object.__getattribute__»
 repeat (first|with_reducible refine abL ?_|lk)
 exact h
theorem A5 {Q:Value->Shared->Prop}{mA:Str->Option Value}{v:Value}(X:K.In s.heap)(T:mV K C f)(I:jz C e dx s.heap)(N:s.heap.Ns dx mA)(hv:mA f=some v)(hh:handedOut v=pure v)
  (h:Q v { s with toks:=s.toks+1 }):wpAny (model prog w) A (getAttr (.ref e) f true) Q E s:=by
 obtain⟨hp,gs,dr,t,os⟩:=s
 have l0:=I.exc.type (M:=model prog w)
 have l1:=acv (M:=model prog w) X T.cls.ga
 have l2:=acv (M:=model prog w) X T.cls.gt
 have l3:=looks_mroIn (M:=model prog w) X T.cls.be
 unfold getAttr getAttrBy
 refine ZD (wpAny_mkText (aaj (ZD (l0.at (ZD (l1.at ?_))))))
 dsimp only
 have ne:(Value.builtin "BaseException.__getattribute__"==Value.builtin "object.__getattribute__")=false:=by decide +kernel
 rw[Z4 (by rw[ne,ad3];exact ZJ)]
 unfold getAttrByItsOwn hookBefore
 repeat (first|with_reducible refine abL ?_|with_reducible refine abb ?_|lk)
 have hk:builtinKind "BaseException.__getattribute__"=some .slot:=by decide +kernel
 have xS:splitId "BaseException.__getattribute__"=some ("BaseException","__getattribute__"):=by decide +kernel
 refine abH (by decide +kernel) F.entry_bexc_ga ?_
 have ha:=F.args_bexc_ga (.ref e) (.str f t)
 show wpAny _ _ (checkBuiltinCall "BaseException.__getattribute__" ⟨[.ref e,.str f t],[]⟩) _ _ _
 simp only[checkBuiltinCall,hk,xS]
 unfold isInstance
 refine ZD (ZD (l0.at (l3.at ?_)))
 simp only[adb,aaO,abX]
 refine adp (show _=pure () from ha) ?_
 refine Z2 (A4 (E:=fun _ _=>False) (Q:=fun fin s'=>fin=.done (.ret v)/\s'=⟨hp,gs,dr,t+1,os⟩) X T I N hv ⟨rfl,rfl⟩) (fun fin s' z=>?_) fun _ _ z=>z.elim
 obtain⟨rfl,rfl⟩:=z
 exact adp hh h
end
def qe:List Value->Bool
 | .ref _::r=>qe r
 | l=>l==eG
theorem sH (self:Value):∀ {l:List Value},qe l=true->refuseLoop self "__setattr__" l=pure ()
 | .ref c::r,e=>by rw[refuseLoop_ref];exact sH self e
 | [],e=>by cases e
 | .type n::r,e=>by
  have:(Value.type n::r)=eG:=aa4.mp e
  rw[this]
  exact PySem.F.store_ValueError.passes self
 | .none::r,e=>by have:(Value.none::r)=eG:=aa4.mp e;cases this
 | .bool _::r,e=>by have:(_::r)=eG:=aa4.mp e;cases this
 | .int _ _::r,e=>by have:(_::r)=eG:=aa4.mp e;cases this
 | .str _ _::r,e=>by have:(_::r)=eG:=aa4.mp e;cases this
 | .bytes _ _::r,e=>by have:(_::r)=eG:=aa4.mp e;cases this
 | .float _ _::r,e=>by have:(_::r)=eG:=aa4.mp e;cases this
 | .ellipsis::r,e=>by have:(_::r)=eG:=aa4.mp e;cases this
 | .notImplemented::r,e=>by have:(_::r)=eG:=aa4.mp e;cases this
 | .builtin _::r,e=>by have:(_::r)=eG:=aa4.mp e;cases this
structure tU (K:Frag)(C:Addr)(f:Str):Prop where
 fld:mV K C f
 sa:findIn K (.ref C) "__setattr__"=some (some (.builtin "object.__setattr__"))
 over:(clsIn K C).any (fun cd=>qe cd.mro)=true
section
variable {prog:Program}{w:World}{A:Around}{E:Value->Shared->Prop}{s:Shared}{K:Frag}{e C:Addr}{f:Str}{R:Result->Shared->Prop}
theorem sI {M:Model}{h:Heap}{o:Obj}(he:h.get? e=some o)(hc:o.cls=.ref C):Looks M h (typeOf (.ref e)) (.ref C):=hc▸(Looks.ld he).andThen .now
theorem Rb {vs:Array Value}{sl:Array (Option Value)}{tk:Tok}{v:Value}(X:K.In s.heap)(T:tU K C f)(he:s.heap.get? e=some ⟨.ref C,none,.fields vs,sl⟩)
  (h:∀ h',h'.get? e=some ⟨.ref C,some s.heap.objs.size,.fields vs,sl⟩->h'.Ns1 s.heap.objs.size (fun y=>if y=f then some v else none)->(∀ b o,b≠e->s.heap.get? b=some o->h'.get? b=some o)->R (.ok (.ret .none)) { s with heap:=h',toks:=s.toks+1 }) :
  codeAny (model prog w) A (.call (.builtin "object.__setattr__") ⟨[.ref e,.str f tk,v],[]⟩) R s:=by
 have SF:=PySem.F.store_object
 obtain⟨cd,hc,ho⟩:=any_some T.over
 have hd:cd.hasDict=true:=by
  have:=T.fld.hd
  rw[hc] at this
  exact ZG this
 have l0:Looks (model prog w) s.heap (typeOf (.ref e)) (.ref C):=sI he rfl
 have sub:Looks (model prog w) s.heap (isInstance (.ref e) (.type "object")) true:=l0.andThen (looks_mroIn X T.fld.cls.ob)
 refine abH SF.slot.plain SF.entry (@check_slot (model prog w) _ _ s "object.__setattr__" "object" "__setattr__" (.ref e) [.str f tk,v] [] _ SF.kind SF.split sub (SF.args (.ref e) (.str f tk) v) ?_)
 have hm:Looks (model prog w) s.heap (mroOf (.ref C)) cd.mro:=(looks_clsIn X hc).andThen .now
 rw[osa_eq,refuse_eq]
 refine ZD (ZD (l0.here (ZD (hm.here ?_))))
 rw[sH _ ho]
 refine ZF (ZD (l0.here (ZD ((acv X T.fld.no).here (ZD (ZF ?_))))))
 have ns:e≠s.heap.objs.size:=ZP (ZH he)
 have h1:(s.heap.push { cls:=.type "dict",data:=.dict #[] }).get? e=some ⟨.ref C,none,.fields vs,sl⟩:=ZE _ he
 show wpAny _ _ (storeInOwnDict (.ref e) (.ref C) (.str f tk) f v _) _ _ _
 unfold storeInOwnDict ownDictForStores instanceDict
 refine ZD (ZF (ZD (ZD (adH he (ZD ((looks_clsIn X hc).here ?_))))))
 simp only[hd,adb,aaO,abX,typeHasDict,Bool.or_self]
 refine ZD (wpAny_alloc' ?_)
 refine ZD (wpAny_update' h1 ?_)
 have gd:((s.heap.push { cls:=.type "dict",data:=.dict #[] }).update e fun o=>{ cls:=o.cls,dict:=some s.heap.objs.size,data:=o.data,slots:=o.slots }).get? s.heap.objs.size=some { cls:=.type "dict",data:=.dict #[] }:=
  (acW _ _ _ _ (Ne.symm ns)).trans (acE rfl rfl)
 have nd:((s.heap.push { cls:=.type "dict",data:=.dict #[] }).update e fun o=>{ cls:=o.cls,dict:=some s.heap.objs.size,data:=o.data,slots:=o.slots }).Ns s.heap.objs.size (fun _=>none):=
  ⟨_,#[],_,gd,rfl,fun x hx=>absurd hx (by simp),fun _=>rfl⟩
 refine ZF ?_
 show wpAny _ _ (storeInDict s.heap.objs.size (.str f tk) f v) _ _ _
 unfold storeInDict newKeyGuard
 refine ZD (ZF (ZD (wpAny_nsSet1 (Heap.Ns1.of_empty nd) fun h' LC hs=>?_)))
 obtain⟨oD,Y8,Y9,VR,VS,VT⟩:=LC.count (Within.cons f v Within.nil)
 refine ZD (wpAny_lookBehind VR (by rw[VS];exact pastItsLine_dict (ZV VT (by rw[aaz,List.length_nil,abR];omega))) ?_)
 refine ZF (h h' ((hs.2 e ns).trans (aaq _ h1 rfl)) LC fun b o nb hb=>?_)
 exact (hs.2 b (ZP (ZH hb))).trans ((acW _ _ _ _ nb).trans (ZE _ hb))
theorem Rc {vs:Array Value}{sl:Array (Option Value)}{v:Value}{Q:Unit->Shared->Prop}(X:K.In s.heap)(T:tU K C f)(he:s.heap.get? e=some ⟨.ref C,none,.fields vs,sl⟩)
  (h:∀ h',h'.get? e=some ⟨.ref C,some s.heap.objs.size,.fields vs,sl⟩->h'.Ns1 s.heap.objs.size (fun y=>if y=f then some v else none)->(∀ b o,b≠e->s.heap.get? b=some o->h'.get? b=some o)->Q () { s with heap:=h',toks:=s.toks+1+1 }) :
  wpAny (model prog w) A (setAttr (.ref e) f v) Q E s:=by
 have l0:Looks (model prog w) s.heap (typeOf (.ref e)) (.ref C):=sI he rfl
 refine ZD (wpAny_mkText (ZD (ZD (ZD (l0 _ _ _ _ (fun _ _ e=>e) (acv X T.sa _ _ _ _ (fun _ _ e=>e) (aaj ?_)))))))
 rw[PySem.F.store_object.slot.bind]
 refine ZD (ZF (ZD (abL ?_)))
 refine Rb (s:={ s with toks:=s.toks+1 }) X T he fun h' a b c=>?_
 exact ZF (ZF (h h' a b c))
end
end L2
namespace L2
open PySem PySem.Spec PyProof.Rows PySem.W PySem.Calls
def fB (K:Frag)(C fI:Addr):Bool:=match K.lookup C with
 | some ⟨.type "type",_,.cls cd,sl⟩=>(match cd.mro,sl.toList with
  | .ref C'::bm,[_,_,_,_,some (.builtin n),_]=>C'==C&&n=="ValueError.__new__"&&!cd.hasDel&&tailIn K eG bm&&nsOkIn K cd.ns&&nsIn K cd.ns "__init__"==some (some (.ref fI))
  | _,_=>false)
 | _=>false
theorem xV {K:Frag}{h:Heap}{N:Addr}{mg:Str->Option Value}{n:Str}{v:Value}(X:K.In h)(G:h.Ns N mg)(e:nsIn K N n=some (some v)):mg n=some v:=by
 obtain⟨o,es,ep,ho,hd,_,hf⟩:=G
 unfold nsIn at e
 split at e
 ·rename_i q
  have z:=(X _ _ q).symm.trans ho
  cases z
  cases hd
  split at e
  ·rename_i en fe
   have ev:en.val=v:=ZG (ZG e)
   rw[<- hf n,<- ev]
   show Option.map _ (Array.find? _ es)=_
   rw[<- Array.find?_toList,fe]
   rfl
  ·split at e<;>cases e
 ·cases e
theorem jL {K:Frag}{h:Heap}{C fI:Addr}(X:K.In h)(q:fB K C fI=true) :
  ∃ bm N nm qn bs hdct sn sub ab col dd k0 k1 k2 k3 k5 mN,h.get? C=some (excClassObj nm qn C N bs bm hdct sn sub ab col dd k0 k1 k2 k3 k5 "ValueError.__new__")/\h.Ns N mN/\mN "__init__"=some (.ref fI)/\OwnTail h eG bm:=by
 unfold fB at q
 split at q
 ·rename_i dd cd sl ho
  split at q
  ·rename_i C' bm k0 k1 k2 k3 n k5 hm hs
   simp only[aaW,aa4,acu] at q
   obtain⟨⟨⟨⟨⟨c1,c2⟩,c3⟩,c4⟩,c5⟩,c6⟩:=q
   subst c1 c2
   obtain⟨nm,bs,mro,ns,qn,hd,sn,sub,ab,col,del⟩:=cd
   dsimp only at hm c3 c5 c6
   subst hm c3
   obtain⟨l⟩:=sl
   have mI:l=[k0,k1,k2,k3,some (.builtin "ValueError.__new__"),k5]:=hs
   subst mI
   exact⟨bm,ns,nm,qn,bs,hd,sn,sub,ab,col,dd,k0,k1,k2,k3,k5,_,X _ _ ho,.of_isNs (ad4 X c5),xV X (.of_isNs (ad4 X c5)) c6,W.tail_of_in X c4⟩
  ·cases q
 ·cases q
abbrev e8 (C t:Addr):Obj:={ cls:=.ref C,data:=.fields #[.ref t,.none,.none,.none,.bool false,.none] }
abbrev pH (C t dx:Addr):Obj:={ cls:=.ref C,dict:=some dx,data:=.fields #[.ref t,.none,.none,.none,.bool false,.none] }
section
variable {prog:Program}{w:World}{A:Around}{E:Value->Shared->Prop}{h:Heap}{g:Array GenState}{d:Drawn}{t:Nat}{os:OsState}
variable {nm q:Str}{C N:Addr}{bs bm:List Value}{hdct:Bool}{sn:List Str}{sub:List Value}{ab:Bool}{col:Option Bool}{dd:Option Addr}{k0 k1 k2 k3 k5:Option Value}
theorem xW (T:OwnTail h eG bm){mN:Str->Option Value}{rest:List Value}{fI:Addr}{oI:Obj}{Q:Fin->Shared->Prop}
  (hC:h.get? C=some (excClassObj nm q C N bs bm hdct sn sub ab col dd k0 k1 k2 k3 k5 "ValueError.__new__")) (hn:h.Ns N mN) (hi:mN "__init__"=some (.ref fI)) (MU:h.get? fI=some oI) (MV:oI.cls=.type "function")
  (hq:wpAny (model prog w) A (call (.ref fI) (.ref (h.objs.size+1)::rest)) (fun r s'=>r=.none/\Q (.done (.ret (.ref (h.objs.size+1)))) s') E
   ⟨(h.push { cls:=.type "tuple",data:=.seq rest.toArray }).push (e8 C h.objs.size),g,d,t,os⟩) (CN:rest.length<=sizeLine) :
  wpAny (model prog w) A (Builtin.«type.__call__» ⟨.ref C::rest,[]⟩) Q E ⟨h,g,d,t,os⟩:=by
 have BF:=acJ
 have hB:eG.contains (.type "ValueError")=true:=by decide
 repeat (first|with_reducible refine aa1 hC ?_|with_reducible refine wpAny_madeBy_exc hC ?_|wp_step)
 refine codeAny_call_builtin_code (adg _ BF.quiet) (wpAny_check_new_subU BF hB T hC (codeAny_exc_new_subU BF hB BF T hC ?_ CN))
 show wpAny _ _ _ _ _ _
 have p1:∀ b o,h.get? b=some o->((h.push { cls:=.type "tuple",data:=.seq rest.toArray }).push (e8 C h.objs.size)).get? b=some o:=fun b o z=>ZE _ (ZE _ z)
 have C1:=p1 _ _ hC
 have f1:=p1 _ _ MU
 have n1:((h.push { cls:=.type "tuple",data:=.seq rest.toArray }).push (e8 C h.objs.size)).Ns N mN:=let ⟨o,es,ep,z,r⟩:=hn;⟨o,es,ep,p1 _ _ z,r⟩
 have g1:((h.push { cls:=.type "tuple",data:=.seq rest.toArray }).push (e8 C h.objs.size)).get? (h.objs.size+1)=some (e8 C h.objs.size):=by heap_get
 have cc:(Value.ref C::bm).contains (.ref C)=true:=by simp
 have T1:=T.keeps p1
 unfold isInstance
 repeat (first|with_reducible refine aa1 g1 ?_|(with_reducible refine abQ C1 ?_;rw[cc])|wp_step)
 show wpAny _ _ (typeLookup (.ref C) _) _ _ _
 refine wpAny_typeLookup_tail C1 n1 T1 BF.mroIs BF.init.lookup ?_
 rw[hi]
 refine aaj (ZD ?_)
 unfold bindSpecial
 refine ZD (wpAny_typeOf (T:="function") ⟨_,f1,MV⟩ ?_)
 rw[aag (by decide)]
 refine ZF (ZD (Z2 hq (fun r s' hr=>?_) fun _ _ x=>x))
 obtain⟨rfl,z⟩:=hr
 wp_walk
 exact z
theorem xX (T:OwnTail h eG bm){mN:Str->Option Value}{rest:List Value}{fI:Addr}{oI:Obj}{Q:Value->Shared->Prop}
  (hC:h.get? C=some (excClassObj nm q C N bs bm hdct sn sub ab col dd k0 k1 k2 k3 k5 "ValueError.__new__")) (hn:h.Ns N mN) (hi:mN "__init__"=some (.ref fI)) (MU:h.get? fI=some oI) (MV:oI.cls=.type "function")
  (hq:wpAny (model prog w) (A.under (.builtin "type.__call__" ⟨.ref C::rest,[]⟩)) (call (.ref fI) (.ref (h.objs.size+1)::rest)) (fun r s'=>r=.none/\Q (.ref (h.objs.size+1)) s') E
   ⟨(h.push { cls:=.type "tuple",data:=.seq rest.toArray }).push (e8 C h.objs.size),g,d,t,os⟩) (CN:rest.length<=sizeLine) :
  wpAny (model prog w) A (call (.ref C) rest) Q E ⟨h,g,d,t,os⟩:=by
 have f1:=tc_lookup
 have f2:=tc_bind (.ref C)
 have hT:(⟨h,g,d,t,os⟩:Shared).TypeIs (.ref C) "type":=⟨_,hC,rfl⟩
 refine abL (aea ?_)
 show wpAny _ _ (callAny (.ref C) _) _ _ _
 repeat (any_goals (first|assumption|with_reducible refine aa1 hC ?_|wp_step))
 refine⟨rfl,codeAny_call_builtin_at (adg _ (by decide +kernel)) entry_typeCall (wpAny_check_type_call_sub hC (xW T hC hn hi MU MV ?_ CN))⟩
 exact hq
theorem A6 (T:OwnTail h eG bm){e a:Addr}{x:Value}{Q:Value->Shared->Prop}(hC:h.get? C=some (excClassObj nm q C N bs bm hdct sn sub ab col dd k0 k1 k2 k3 k5 "ValueError.__new__"))(he:h.get? e=some (e8 C a))
  (hq:∀ h',h'.get? e=some (e8 C h.objs.size)->(∀ b o,b≠e->h.get? b=some o->h'.get? b=some o)->Q .none ⟨h',g,d,t,os⟩) :
  wpAny (model prog w) A (call (.builtin "ValueError.__init__") [.ref e,x]) Q E ⟨h,g,d,t,os⟩:=by
 have BF:=acJ
 refine abL (abH BF.init.plain BF.initEntry (wpAny_check_init_subU BF T hC he rfl ?_))
 wp_walk
 refine hq _ ?_ fun b o nb hb=>?_
 ·rw[aaq _ (ZE _ he) rfl]
  rfl
 ·rw[aaC _ _ (Ne.symm nb)]
  exact ZE _ hb
end
def qf (C e:Addr)(h:Heap):Prop:=∃ a,h.get? e=some (e8 C a)
def tV (C e dx:Addr)(h:Heap):Prop:=∃ a,h.get? e=some (pH C a dx)
theorem okN {P:Program}{w:World}{H:Hp}{h:Heap}{C e a:Addr}(he:h.get? e=some (e8 C a)):bI P w H h e (.ext (qf C e)):=⟨⟨a,he⟩,⟨_,he⟩,fun _ _ ⟨b,z⟩ k=>⟨b,k _ z⟩⟩
theorem VU {P:Program}{w:World}{H:Hp}{h:Heap}{C e dx a:Addr}(he:h.get? e=some (pH C a dx)):bI P w H h e (.ext (tV C e dx)):=⟨⟨a,he⟩,⟨_,he⟩,fun _ _ ⟨b,z⟩ k=>⟨b,k _ z⟩⟩
inductive MW (K:Frag)(Q:VK)(vs:List V)(H1:Hp):Prop
 | mk:∀ e C fI x,(vs=[.ref e,x])->(H1 e=some (.ext (qf C e)))->(fB K C fI=true)->(Q .eB (upd H1 e (.ext (qf C e))))->MW K Q vs H1
def VV (K:Frag)(ta:TA):TE:=fun σ H Q=>ta σ H fun vs H1=>MW K Q vs H1
theorem xY {M:Model}{A:Around}{K:Frag}{pos:Pos}{env:Env}{n:String}{first:List Value}{e:Expr}{rest:List Expr}{Q:Value->Shared->Prop}{E:Value->Shared->Prop}{s:Shared}
  (h:wpAny M A (spliced (backTo pos (starEach (e::rest) env))) (fun vs s₁=>K.In s₁.heap/\wpAny M A (call (.builtin n) (first++vs)) Q E s₁) E s)
  (he:starEach (e::rest) env=(false,eval e env)::starEach rest env:=by rfl) (xO:(backTo pos (starEach rest env)).any (·.1)=false:=by rfl) :
  wpAny M A (callWith pos (.builtin n) first (backTo pos (starEach (e::rest) env)) []) Q E s:=by
 rw[he] at h ⊢
 exact W.callWith_of (by show ((false || (backTo pos (starEach rest env)).any (·.1)) || false)=false;rw[xO];rfl) (fun h (_:K.In h)=>⟨.machine,.inr (.inl rfl),.now⟩) (evalArgs_plain h)
section
variable {X:Cx}
theorem vL {cn:Str}{B:Addr}{np ap pos:Pos}{a:Expr}{es:List Expr}{t:TA}{pl:Sem Bool}(hg:Gl X cn)(hm:X.mg cn=some (.ref B))(h1:specialIn X.K (.ref B) "__getattribute__"=some (some (.builtin "type.__getattribute__")))
  (h2:readsIn X.K B (.type "type")=true) (h3:findCls X.K (.ref B) (.type "type") "__init__"=some (.val (.builtin "ValueError.__init__"))) (ha:PA X (a::es) t)
  (oj:(cn==("__debug__":Str))=false:=by decide)
  (mE:starEach (a::es) X.env=(false,eval a X.env)::starEach es X.env:=by rfl) (ir:(backTo pos (starEach es X.env)).any (·.1)=false:=by rfl)
  (ht:eval (.Call (.Attribute (.Name cn np) "__init__" ap) (a::es) [] pos) X.env=(do
   let ov <- eval (.Name cn np) X.env
   standAt ap.atName
   let (f,first) <- holding [ov] (getMethod ov "__init__" pl)
   callWith pos f first (backTo pos (starEach (a::es) X.env)) (backToKw pos (keywordEach [] X.env))):=by rfl) :
  PE X (.Call (.Attribute (.Name cn np) "__init__" ap) (a::es) [] pos) (VV X.K t):=by
 intro pins s σ H Q I h
 refine W.methodCall_KW (pl:=pl) (eY I hg hm ?_ oj) ht
 refine method_cls I.jw h1 (cls_value I.jw h2 h3 (by decide +kernel) ?_)
 have I':=I.tok (s.toks+1)
 refine xY (K:=X.K) (first:=[]) (eD (ha pos pins _ σ H _ I' h) fun us s1 ⟨vs,H1,I1,r,q⟩=>⟨I1.jw,?_⟩) mE ir
 obtain⟨e,C,fI,x,rfl,hH,hI,q⟩:=q
 obtain⟨u1,u2,rfl,r1,r2⟩:=r.two
 obtain rfl:u1=Value.ref e:=r1
 obtain⟨bm,Nn,nm,qn,bs,hdct,sn,sub,ab,col,dd,k0,k1,k2,k3,k5,mN,hC,MX,HH,TL⟩:=jL I1.jw hI
 obtain⟨⟨a0,he⟩,_,_⟩:=(show bI X.prog X.w H1 s1.heap e (.ext (qf C e)) from I1.bh e _ hH)
 obtain⟨hp,gs,dr,tk,os⟩:=s1
 show wpAny _ _ (call (.builtin "ValueError.__init__") [.ref e,u2]) _ _ _
 refine A6 TL hC he fun h' IZ kp=>?_
 exact⟨.eB,_,I1.write (t':=tk) (x:=e) (e:=e) (by rw[hH];exact True.intro) (.inl rfl) (fun b u nb z=>kp b u nb z) ⟨_,IZ⟩ (okN IZ),rfl,q⟩
inductive MY (K:Frag)(f:Str)(D:Ends)(σ:St)(y:V)(x:V)(H2:Hp):Prop
 | mk:∀ e C,(x=.ref e)->(H2 e=some (.ext (qf C e)))->(tU K C f)->(∀ dx,H2 dx=none->D.nx σ (upd (upd H2 dx (.xd [(f,y)])) e (.ext (tV C e dx))))->MY K f D σ y x H2
def VW (K:Frag)(ta tv:TE)(f:Str):TS:=fun D σ H=>tv σ H fun y H1=>ta σ H1 fun x H2=>MY K f D σ y x H2
theorem A7 {o value:Expr}{f:Str}{pos pos':Pos}{ta tv:TE}(ha:PE X o ta)(hv:PE X value tv)(hs:swapsWith value (some (.Attribute o f pos')) pos.line X.env=pure false):PS X (.Assign [.Attribute o f pos'] value pos) (VW X.K ta tv f):=by
 intro pins s σ H D I h
 refine plainObj_wpAny_Assign_Attribute (eD (hv pins s σ H _ I h) fun u s1 ⟨y,H1,I1,ry,q⟩=>eD (ha pins s1 σ H1 _ I1 q) fun ov s2 ⟨x,H2,I2,rx,e,C,ex,hH,T,q2⟩=>?_) hs
 subst ex
 obtain rfl:ov=Value.ref e:=rx
 obtain⟨⟨a0,he⟩,_,_⟩:=(show bI X.prog X.w H2 s2.heap e (.ext (qf C e)) from I2.bh e _ hH)
 refine Rc I2.jw T he fun h' IZ ns kp=>?_
 obtain⟨oD,es,ep,gD,dD⟩:=id ns
 have fr:H2 s2.heap.objs.size=none:=I2.bh.fresh (ZL _)
 have ne:e≠s2.heap.objs.size:=ZP (ZH he)
 have VX:oD.isFreed=false:=by
  have:=(Heap.get?_some_iff.mp gD).2
  exact this
 have g1:(s2.heap.push oD).get? s2.heap.objs.size=some oD:=ZN _ VX
 have n1:(s2.heap.push oD).Ns1 s2.heap.objs.size (fun y=>if y=f then some u else none):=⟨oD,es,ep,g1,dD⟩
 have J:=I2.laid (a:=s2.heap.objs.size) (o:=.xd [(f,y)]) (h':=s2.heap.push oD) (t':=s2.toks) (fun b v z=>ZE _ z) (ZL _) ⟨_,n1,fun g=>by
  show xB (List.lookup g [(f,y)]) (if g=f then some u else none)
  by_cases c:g=f
  ·subst c
   rw[aag rfl,List.lookup_cons_self]
   exact ry
  ·rw[Z4 c,List.lookup_cons]
   have:(g==f)=false:=by simpa using c
   rw[this]
   exact True.intro⟩
 have VY:(upd H2 s2.heap.objs.size (.xd [(f,y)])) e=some (.ext (qf C e)):=by rw[aG ne];exact hH
 have J2:=J.write (x:=e) (e:=e) (o:=.ext (tV C e s2.heap.objs.size)) (h':=h') (t':=s2.toks+1+1) (by rw[VY];exact True.intro) (.inl rfl) (fun b v nb z=>by
  by_cases c:b=s2.heap.objs.size
  ·subst c
   have z':(s2.heap.push oD).get? s2.heap.objs.size=some v:=z
   rw[g1] at z'
   cases z'
   exact gD
  ·have z':(s2.heap.push oD).get? b=some v:=z
   rw[adY _ _ _ c] at z'
   exact kp b v nb z') ⟨_,IZ⟩ (VU IZ)
 exact⟨σ,_,J2,q2 _ fr⟩
end
structure tW (P:Program)(w:World)(outer:List Env)(H:Hp)(s:Shared)(cls:Value)(dx ea:Addr)(B:Heap)(H':Hp)(s':Shared):Prop where
 os:s'.os=s.os
 bare:AllBare s'.gens
 un:Un (eM outer) [] H H' s.heap s'.heap
 bh:ki P w H' s'.heap
 jk:iu B outer ea cls (some dx) .none s'.heap
 pU:∀ b∈eM outer,H' b=none
 CD:∀ b o,s'.heap.get? b=some o->b∉eM outer->(H' b≠none\/∃ o',s.heap.get? b=some o')->B.get? b=some o
 he:H' ea=none
 hs:s.heap.get? ea=none
def XD (P:Program)(w:World):sj:=fun outer H s E e s'=>∃ (ea:Addr) (cls:Value) (dx:Addr) (B:Heap) (H':Hp),e=.ref ea/\tW P w outer H s cls dx ea B H' s'/\E cls (some dx) H'
def without (H:Hp)(e:Addr):Hp:=fun b=>if b=e then none else H b
theorem cX {H:Hp}{e b:Addr}(h:b≠e):without H e b=H b:=Z4 h
theorem kW {H:Hp}{e:Addr}:without H e e=none:=aag rfl
theorem lW {H:Hp}{e b:Addr}{o:HO}(h:without H e b=some o):b≠e/\H b=some o:=by
 unfold without at h
 split at h
 ·cases h
 ·rename_i c;exact⟨c,h⟩
section
variable {P:Program}{w:World}{K:W.Frag}{mg:Str->Option Value}{base:Heap}{N:List Str}{qual:Str}{scope:Scope}{f:Addr}{cd:Value}{A:Around}{outer:List Env}{s0 s1:Shared}{H0 H1:Hp}{E:XK}
 {pins:List (Addr × Obj)}{σ:St}
theorem A8 {e C dx:Addr}(I:Inv (cR (XD P w) P w K mg base N qual scope f cd A outer s0 H0 E) pins σ H1 s1)(hH:H1 e=some (.ext (tV C e dx)))(h0:s0.heap.get? e=none)(hE:E (.ref C) (some dx) (without H1 e)) :
  (cR (XD P w) P w K mg base N qual scope f cd A outer s0 H0 E).xe (.ref e) s1:=by
 have st:s1.heap.FunFrames base (envOfC qual scope s0.heap.objs.size f cd::outer):=I.stack
 have fz:∀ b∈eM (envOfC qual scope s0.heap.objs.size f cd::outer),H1 b=none:=I.kj
 have sub:∀ b∈eM (envOfC qual scope s0.heap.objs.size f cd::outer),b=(envOfC qual scope s0.heap.objs.size f cd).locals\/b∈eM outer:=fun b hb=>ZI.mp (I.f7 b hb)
 have above:s0.heap.objs.size<=(envOfC qual scope s0.heap.objs.size f cd).locals:=I.ok.above
 have old:∀ b o,s0.heap.get? b=some o->b∉eM outer->b∉eM (envOfC qual scope s0.heap.objs.size f cd::outer):=fun b o q nb z=>by
  rcases sub b z with z|z
  ·subst z
   exact absurd (ZM (ZH q) above) (aaT _)
  ·exact nb z
 obtain⟨⟨a,he⟩,_,_⟩:=(show bI P w H1 s1.heap e (.ext (tV C e dx)) from I.bh e _ hH)
 show wpAny (model P w) (A.deeper (envOfC qual scope s0.heap.objs.size f cd)) (leaving (envOfC qual scope s0.heap.objs.size f cd) (.ref e)) _ _ _
 refine vK (base:=W.hideAll s1.heap (e::eM (envOfC qual scope s0.heap.objs.size f cd::outer))) I.ok.frames (W.funFrames_hide st fun JJ h' a ha=>aav _ (acP.mpr ⟨JJ,h',ha⟩)) rfl he (fun b o q=>W.of_hideAll _ q) (W.hideAll_none _ (aaZ ..)) rfl rfl rfl fun ML fl ups=>?_
 have kept:∀ b o,s1.heap.get? b=some o->b≠e->b∉eM (envOfC qual scope s0.heap.objs.size f cd::outer)->ML.get? b=some o:=fun b o q ne nb=>fl.stays b o (ads _ q fun z=>by
  rcases ZI.mp z with z|z
  ·exact ne z
  ·exact nb z)
 have u:Un (eM outer) [] H0 H1 s0.heap s1.heap:=I.base
 have u':Un (eM outer) [] H0 (without H1 e) s0.heap s1.heap:=⟨u.keep,u.slot,fun b o q n hx=>by
   by_cases c:b=e
   ·subst c;exact kW
   ·rw[cX c];exact u.free b o q n hx,u.there,fun b xs q=>by
   have z:=u.je b xs q
   rw[cX fun c=>by subst c;rw[hH] at z;cases z]
   exact z,fun b o v q=>by
   have z:=u.iF b o v q
   rw[cX fun c=>by subst c;rw[hH] at z;cases z]
   exact z,fun b ps q=>by
   obtain⟨m,z⟩:=u.jf b ps q
   exact⟨m,by rw[cX fun c=>by subst c;rw[hH] at z;cases z];exact z⟩⟩
 refine⟨e,.ref C,dx,_,without H1 e,rfl,⟨I.os,I.bare,u'.eZ (fun b o q nb qc=>?_) (fun b o q hb qc=>?_),fun c v hc=>?_,fl,fun b hb=>?_,fun b o q nb hc=>?_,kW,h0⟩,hE⟩
 ·obtain⟨o',q'⟩:=qc
  exact kept b o q (fun z=>by subst z;rw[h0] at q';cases q') (old b o' q' nb)
 ·obtain⟨_,o',mD,nf⟩:=st.mem (fT hb)
  rw[q] at mD;cases mD
  exact ups b o q nf
 ·obtain⟨ne,xD⟩:=lW hc
  have no:∀ b y,H1 b=some (.own y)->b≠e:=fun b y z c=>by subst c;rw[hH] at z;cases z
  refine (I.bh c v xD).rN (fun b o hb q=>?_) (fun b z=>by rw[cX (no b _ z)];exact z) fun b xs z=>by
   rw[cX fun c=>by subst c;rw[hH] at z;cases z]
   exact z
  rcases hb with rfl|hb
  ·exact kept b o q ne fun z=>by rw[fz b z] at xD;cases xD
  ·exact kept b o q (no b _ hb) fun z=>by rw[fz b z] at hb;cases hb
 ·by_cases c:b=e
  ·subst c;exact kW
  ·rw[cX c];exact fz b (fT hb)
 ·have key:∃ o1,s1.heap.get? b=some o1/\b≠e/\b∉eM (envOfC qual scope s0.heap.objs.size f cd::outer):=by
   rcases hc with hc|⟨o',q'⟩
   ·cases e1:without H1 e b with
    | none=>exact absurd e1 hc
    | some u1=>
     obtain⟨ne,e2⟩:=lW e1
     obtain⟨o1,q1⟩:=(I.bh b u1 e2).there
     exact⟨o1,q1,ne,fun z=>by rw[fz b z] at e2;cases e2⟩
   ·obtain⟨o1,q1⟩:=u.there b o' q' (by simp)
    exact⟨o1,q1,(fun z=>by subst z;rw[h0] at q';cases q'),old b o' q' nb⟩
  obtain⟨o1,q1,ne,n1⟩:=key
  have z:=kept b o1 q1 ne n1
  have q2:ML.get? b=some o:=q
  rw[q2] at z;cases z
  exact ads _ q1 fun z=>by
   rcases ZI.mp z with z|z
   ·exact ne z
   ·exact n1 z
theorem MZ:Passes (XD P w) (cR (XD P w) P w K mg base N qual scope f cd A outer s0 H0 E) E:=by
 rintro pins σ H s e s' I ⟨ea,cls,dx,B,H',rfl,x,hE⟩
 have sub:∀ b∈eM (envOfC qual scope s0.heap.objs.size f cd::outer),b=(envOfC qual scope s0.heap.objs.size f cd).locals\/b∈eM outer:=fun b hb=>ZI.mp (I.f7 b hb)
 have above:s0.heap.objs.size<=(envOfC qual scope s0.heap.objs.size f cd).locals:=I.ok.above
 have xR:∀ b o,s0.heap.get? b=some o->b∈eM (envOfC qual scope s0.heap.objs.size f cd::outer)->b∈eM outer:=fun b o q z=>by
  rcases sub b z with z|z
  ·subst z
   exact absurd (ZM (ZH q) above) (aaT _)
  ·exact z
 have x':tW P w (envOfC qual scope s0.heap.objs.size f cd::outer) H s cls dx ea B H' s':=x
 have u0:Un (eM outer) [] H0 H s0.heap s.heap:=I.base
 have u:Un (eM outer) [] H0 H' s0.heap s'.heap:=u0.andThen x'.un xR
 have h0:s0.heap.get? ea=none:=by
  cases q:s0.heap.get? ea with
  | none=>rfl
  | some o=>
   obtain⟨o1,q1⟩:=u0.there ea o q (by simp)
   rw[x'.hs] at q1;cases q1
 show wpAny (model P w) (A.deeper (envOfC qual scope s0.heap.objs.size f cd)) (leaving (envOfC qual scope s0.heap.objs.size f cd) (.ref ea)) _ _ _
 refine xU I.ok.frames rfl x'.jk fun h' fl ups=>?_
 have kept:∀ b o,s'.heap.get? b=some o->b∉eM (envOfC qual scope s0.heap.objs.size f cd::outer)->(H' b≠none\/∃ o',s.heap.get? b=some o')->h'.get? b=some o:=fun b o q nb hc=>fl.stays b o (x'.CD b o q nb hc)
 refine⟨ea,cls,dx,B,H',rfl,⟨x'.os.trans I.os,x'.bare,u.eZ (fun b o q nb qc=>?_) (fun b o q hb qc=>?_),x'.bh.eZ fun b o hb q=>kept b o q (fun z=>hb (x'.pU b z)) (.inl hb),fl,fun b hb=>x'.pU b (fT hb),fun b o q nb hc=>?_,x'.he,h0⟩,hE⟩
 ·obtain⟨o',q'⟩:=qc
  obtain⟨o1,q1⟩:=u0.there b o' q' (by simp)
  exact kept b o q (fun z=>nb (xR b o' q' z)) (.inr ⟨o1,q1⟩)
 ·obtain⟨_,o',mD,nf⟩:=x'.jk.Po.mem (fT hb)
  rw[q] at mD;cases mD
  exact ups b o q nf
 ·have key:∃ o1,s'.heap.get? b=some o1/\b∉eM (envOfC qual scope s0.heap.objs.size f cd::outer)/\(H' b≠none\/∃ o',s.heap.get? b=some o'):=by
   rcases hc with hc|⟨o',q'⟩
   ·cases e1:H' b with
    | none=>exact absurd e1 hc
    | some u1=>
     obtain⟨o1,q1⟩:=(x'.bh b u1 e1).there
     exact⟨o1,q1,fun z=>hc (x'.pU b z),.inl (by rw[e1] at hc;exact hc)⟩
   ·obtain⟨o1,q1⟩:=u.there b o' q' (by simp)
    obtain⟨o2,q2⟩:=u0.there b o' q' (by simp)
    exact⟨o1,q1,fun z=>nb (xR b o' q' z),.inr ⟨o2,q2⟩⟩
  obtain⟨o1,q1,n1,c1⟩:=key
  have z:=kept b o1 q1 n1 c1
  have q2:h'.get? b=some o:=q
  rw[q2] at z;cases z
  exact x'.CD b _ q1 n1 c1
end
structure Rg (K:Frag)(C fI:Addr):Prop where
 ex:fB K C fI=true
 fn:isFn K (.ref fI)=true
section
variable {X:Cx}{CX:sj}{k:Nat}{fI C:Addr}{fd:FuncData}{ps:List Str}{sp:Sp}{E:XK}
theorem vM {pins:List (Addr × Obj)}{σ:St}{H:Hp}{s:Shared}{us:List Value}{vs:List V}{QQ:Addr->Hp->Prop}(M:Rg X.K C fI)(F:ji X.prog X.w X.K X.mg X.base CX k fI fd ps sp)(hr:dt (k+1) X.A)(hb:Binds X.K fd ps [])
  (hx:Passes CX X E) (I:Inv X pins σ H s) (r:Vals vs us) (hz:us.length<=sizeLine)
  (h:∀ e,H e=none->sp (.ref e::vs) (upd H e (.ext (qf C e))) (fun v H2=>v=.eB/\QQ e H2) E) :
  wpAny (model X.prog X.w) X.A (call (.ref C) us) (fun v s'=>∃ e H',v=.ref e/\Inv X pins σ H' s'/\s.heap.get? e=none/\QQ e H') X.xe s:=by
 obtain⟨bm,Nn,nm,qn,bs,hdct,sn,sub,ab,col,dd,k0,k1,k2,k3,k5,mN,hC,MX,HH,TL⟩:=jL I.jw M.ex
 have ty:typeIn X.K (.ref fI)=some (.type "function"):=aa4.mp M.fn
 obtain⟨oI,lk,MV⟩:∃ oI,X.K.lookup fI=some oI/\oI.cls=.type "function":=by
  have Pp:(X.K.lookup fI).map (·.cls)=some (.type "function"):=ty
  cases q:X.K.lookup fI with
  | none=>rw[q] at Pp;cases Pp
  | some oI=>rw[q] at Pp;exact⟨oI,rfl,ZG Pp⟩
 have MU:=I.jw _ _ lk
 have hq:=h (s.heap.objs.size+1) (I.bh.fresh (aa3 _))
 have nn:s.heap.get? (s.heap.objs.size+1)=none:=aci (aa3 _)
 have g1:((s.heap.push { cls:=.type "tuple",data:=.seq us.toArray }).push (e8 C s.heap.objs.size)).get? (s.heap.objs.size+1)=some (e8 C s.heap.objs.size):=by heap_get
 have I2:=I.laid (a:=s.heap.objs.size+1) (o:=.ext (qf C (s.heap.objs.size+1))) (h':=(s.heap.push { cls:=.type "tuple",data:=.seq us.toArray }).push (e8 C s.heap.objs.size)) (t':=s.toks)
  (fun b u q=>ZE _ (ZE _ q)) (aa3 _) (okN g1)
 have r2:Vals (V.ref (s.heap.objs.size+1)::vs) (Value.ref (s.heap.objs.size+1)::us):=.cons rfl r
 have hl:(Value.ref (s.heap.objs.size+1)::us).length=ps.length:=by
  have e:=r2.length
  rw[F.len _ _ _ _ hq] at e
  exact e.symm
 have xZ:=hb { s with heap:=(s.heap.push { cls:=.type "tuple",data:=.seq us.toArray }).push (e8 C s.heap.objs.size) } (Value.ref (s.heap.objs.size+1)::us) I2.jw (by rw[aa6];exact hl)
 rw[aa6] at xZ
 obtain⟨hp,gs,dr,tk,os⟩:=s
 refine xX TL hC MX HH MU MV ?_ hz
 refine abL (abO (F.run _ X.stack _ _ ⟨Value.ref (hp.objs.size+1)::us,[]⟩ (Value.ref (hp.objs.size+1)::us) _ _ E (hr.make C us []) (I2.FO.make C us []) xZ r2 hq) fun rr s' sJ=>?_)
 cases rr with
 | error e=>exact hx pins σ _ _ e s' I2 sJ
 | ok fl=>
  cases fl with
  | ret u=>
   obtain⟨v,H',I3,rv,ev,q3⟩:=I2.after sJ
   subst ev
   exact⟨rv,_,H',rfl,I3,nn,q3⟩
  | next=>exact False.elim sJ
  | brk=>exact False.elim sJ
  | cont=>exact False.elim sJ
end
section
variable {M:Model}{A:Around}{E:Value->Shared->Prop}{s:Shared}{env:Env}
variable {nm q:Str}{C N:Addr}{bs bm:List Value}{hdct:Bool}{sn:List Str}{sub:List Value}{ab:Bool}{col:Option Bool}{dd:Option Addr}{k0 k1 k2 k3 k5:Option Value}
theorem kX {x:Sem Value}{Q:Flow->Shared->Prop}(hB:bm.contains (.type "BaseException")=true)(hh:A.handled=none)
  (h:wpAny M A x (fun v s1=>∃ e t dx,v=.ref e/\s1.heap.get? C=some (excClassObj nm q C N bs bm hdct sn sub ab col dd k0 k1 k2 k3 k5 "ValueError.__new__")/\s1.heap.get? e=some (pH C t dx)/\E (.ref e) s1) E s) :
  wpAny M A (raiseStmt env (some x) none) Q E s:=by
 have cB:(Value.ref C::bm).contains (.type "BaseException")=true:=by rw[adC,hB,aeg]
 unfold raiseStmt
 refine ZD (Z2 h (fun v s1 z=>?_) fun _ _ y=>y)
 obtain⟨e,t,dx,rfl,hC,he,hE⟩:=z
 obtain⟨hp,g,d,tk,os⟩:=s1
 repeat (first|with_reducible refine aa1 he ?_|with_reducible refine aa1 hC ?_|(with_reducible refine abQ hC ?_;rw[cB])|wp_step)
 exact wpAny_raiseNew_none hh hE
end
section
variable {prog:Program}{w:World}{A:Around}{E:Value->Shared->Prop}{s:Shared}{env:Env}
variable {nm q:Str}{C N:Addr}{bs bm:List Value}{hdct:Bool}{sn:List Str}{sub:List Value}{ab:Bool}{col:Option Bool}{dd:Option Addr}{k0 k1 k2 k3 k5:Option Value}
theorem x4 {x:Str}{np gL pos:Pos}{args:List Expr}{Q:Flow->Shared->Prop}(hB:bm.contains (.type "BaseException")=true)(hh:A.handled=none)(hp:(backTo gL (starEach args env)).any (·.1)=false)
  (h:wpAny (model prog w) A (eval (.Name x np) env) (fun f s1=>f=.ref C/\wpAny (model prog w) A (evalArgs (.ref C) true (backTo gL (starEach args env)) [])
   (fun a s2=>a.kw=[]/\s2.heap.get? C=some (excClassObj nm q C N bs bm hdct sn sub ab col dd k0 k1 k2 k3 k5 "ValueError.__new__") /\
    wpAny (model prog w) A (call (.ref C) a.pos) (fun v s3=>∃ e t dx,v=.ref e/\s3.heap.get? C=some (excClassObj nm q C N bs bm hdct sn sub ab col dd k0 k1 k2 k3 k5 "ValueError.__new__")/\s3.heap.get? e=some (pH C t dx)/\E (.ref e) s3) E s2) E s1) E s) :
  wpAny (model prog w) A (exec (.Raise (some (.Call (.Name x np) args [] gL)) none pos) env) Q E s:=by
 rw[arm_exec_Raise]
 first
  | refine ZD (aba (kX (C:=C) (nm:=nm) (q:=q) (N:=N) (bs:=bs) (bm:=bm) (hdct:=hdct) (sn:=sn) (sub:=sub) (ab:=ab) (col:=col) (dd:=dd) (k0:=k0) (k1:=k1) (k2:=k2) (k3:=k3) (k5:=k5) hB hh (ZD (Z2 (adW (Z2 h (fun f s1 z=>?_) fun _ _ y=>y)) (fun v s3 z=>ZD (aba (ZF z))) fun _ _ y=>y))))
  | (simp only[evalOpt,Option.map];refine ZD (aba (kX (C:=C) (nm:=nm) (q:=q) (N:=N) (bs:=bs) (bm:=bm) (hdct:=hdct) (sn:=sn) (sub:=sub) (ab:=ab) (col:=col) (dd:=dd) (k0:=k0) (k1:=k1) (k2:=k2) (k3:=k3) (k5:=k5) hB hh (ZD (Z2 (adW (Z2 h (fun f s1 z=>?_) fun _ _ y=>y)) (fun v s3 z=>ZD (aba (ZF z))) fun _ _ y=>y)))))
  | (refine ZD (aba (kX (C:=C) (nm:=nm) (q:=q) (N:=N) (bs:=bs) (bm:=bm) (hdct:=hdct) (sn:=sn) (sub:=sub) (ab:=ab) (col:=col) (dd:=dd) (k0:=k0) (k1:=k1) (k2:=k2) (k3:=k3) (k5:=k5) hB hh ?_));refine ZD (Z2 (adW (Z2 h (fun f s1 z=>?_) fun _ _ y=>y)) (fun v s3 z=>ZD (aba (ZF z))) fun _ _ y=>y))
 obtain⟨rfl,z⟩:=z
 unfold callWith
 refine ZD (aaj (Z2 z (fun a s2 z2=>ZD (aba ?_)) fun _ _ y=>y))
 obtain⟨ap,ak⟩:=a
 obtain⟨hk,hC,z3⟩:=z2
 obtain rfl:ak=[]:=hk
 obtain⟨F2,g,d,tk,os⟩:=s2
 simp only[hp]
 refine ZD (wpAny_keeperOf_exc hC ?_)
 refine ZD (Z2 z3 (fun v s3 z4=>ZD (aaj (wpAny_point (ZF ?_)))) fun _ _ y=>y)
 exact z4
end
def F4 (C:Addr)(sp:Sp)(E:XK)(ta:TA):TS:=fun _ σ H=>ta σ H fun vs H1=>vs.length<=sizeLine/\∀ e,H1 e=none->sp (.ref e::vs) (upd H1 e (.ext (qf C e))) (fun v H2=>v=.eB/\∃ dx,H2 e=some (.ext (tV C e dx))/\E (.ref C) (some dx) (without H2 e)) E0
section
variable {P:Program}{w:World}{K:W.Frag}{mg:Str->Option Value}{base:Heap}{N:List Str}{qual:Str}{scope:Scope}{f:Addr}{cd:Value}{A:Around}{outer:List Env}{s0:Shared}{H0:Hp}{E:XK}
 {x:Str}{C fI:Addr}{np gL pos:Pos}{e:Expr}{es:List Expr}{t:TA}{k:Nat}{fd:FuncData}{ps:List Str}{sp:Sp}
theorem A9 (M:Rg K C fI)(F:ji P w K mg base aU k fI fd ps sp)(hr:dt (k+1) (cR (XD P w) P w K mg base N qual scope f cd A outer s0 H0 E).A)(hb:Binds K fd ps [])(hm:mg x=some (.ref C))(hg:Gl (cR (XD P w) P w K mg base N qual scope f cd A outer s0 H0 E) x)
  (ha:PA (cR (XD P w) P w K mg base N qual scope f cd A outer s0 H0 E) (e::es) t) (oj:(x==("__debug__":Str))=false:=by decide)
  (he:starEach (e::es) (cR (XD P w) P w K mg base N qual scope f cd A outer s0 H0 E).env=(false,eval e (cR (XD P w) P w K mg base N qual scope f cd A outer s0 H0 E).env)::starEach es (cR (XD P w) P w K mg base N qual scope f cd A outer s0 H0 E).env:=by rfl)
  (ir:(backTo gL (starEach es (cR (XD P w) P w K mg base N qual scope f cd A outer s0 H0 E).env)).any (·.1)=false:=by rfl) :
  PS (cR (XD P w) P w K mg base N qual scope f cd A outer s0 H0 E) (.Raise (some (.Call (.Name x np) (e::es) [] gL)) none pos) (F4 C sp E t):=by
 intro pins s σ H D I h
 obtain⟨bm,Nn,nm,qn,bs,hdct,sn,sub,ab,col,dd,k0,k1,k2,k3,k5,mN,hC,hN,HH,TL⟩:=jL I.mod.Hu M.ex
 have JL:(backTo gL (starEach (e::es) (cR (XD P w) P w K mg base N qual scope f cd A outer s0 H0 E).env)).any (·.1)=false:=by
  rw[he]
  show (false || (backTo gL (starEach es _)).any (·.1))=false
  rw[ir]
  rfl
 refine x4 (C:=C) (nm:=nm) (q:=qn) (N:=Nn) (bs:=bs) (bm:=bm) (hdct:=hdct) (sn:=sn) (sub:=sub) (ab:=ab) (col:=col) (dd:=dd) (k0:=k0) (k1:=k1) (k2:=k2) (k3:=k3) (k5:=k5)
  (TL.hasType PySem.F.excBase_ValueError.hasBase) (I.ok.hd rfl) JL (eY I hg hm ⟨rfl,?_⟩ oj)
 have h2:=ha gL pins s σ H _ I h
 rw[he] at h2 ⊢
 refine adF (Z2 h2 (fun us s1 ⟨vs,H1,I1,r,z,q⟩=>⟨rfl,I1.bk _ _ hC,?_⟩) fun _ _ y=>y)
 have xe0:Passes aU (cR (XD P w) P w K mg base N qual scope f cd A outer s0 H0 E) E0:=aD
 refine Z2 (vM (QQ:=fun e H2=>∃ dx,H2 e=some (.ext (tV C e dx))/\E (.ref C) (some dx) (without H2 e)) M F hr hb xe0 I1 r (by rw[<- r.length];exact z) q) (fun v s3 z3=>?_) fun _ _ y=>y
 obtain⟨e',H',rfl,I3,nn,dx,hH,hE⟩:=z3
 obtain⟨⟨a,hl⟩,_,_⟩:=(show bI P w H' s3.heap e' (.ext (tV C e' dx)) from I3.bh e' _ hH)
 have h0:s0.heap.get? e'=none:=by
  cases q0:s0.heap.get? e' with
  | none=>rfl
  | some o=>
   have u0:Un (eM outer) [] H0 H1 s0.heap s1.heap:=I1.base
   obtain⟨o1,q1⟩:=u0.there e' o q0 (by simp)
   rw[nn] at q1;cases q1
 exact⟨e',a,dx,rfl,I3.bk _ _ hC,hl,A8 I3 hH h0 hE⟩
end
section
variable {X:Cx}{pins:List (Addr × Obj)}{σ:St}{H H':Hp}{s s':Shared}{cls:Value}{ea C dx:Addr}{B h':Heap}{t':Nat}
theorem tW.MQ (x:tW X.prog X.w X.stack H s cls dx ea B H' s')(k:B.StaysIn h')(ups:s'.heap.UpToSlots h'):Un (eM X.stack) [] H H' s.heap h':=
 x.un.eZ (fun b o q nb old=>k b o (x.CD b o q nb (.inr old))) fun b o q hb old=>by
  obtain⟨_,o',mD,nf⟩:=x.jk.Po.mem hb
  rw[q] at mD;cases mD
  exact ups b o q nf
theorem tW.CI (x:tW X.prog X.w X.stack H s cls dx ea B H' s')(k:B.StaysIn h'):ki X.prog X.w H' h':=
 x.bh.eZ fun b o hb q=>k b o (x.CD b o q (fun z=>hb (x.pU b z)) (.inl hb))
theorem Inv.landed0 (I:Inv X pins σ H s)(x:tW X.prog X.w X.stack H s cls dx ea B H' s')(k:B.StaysIn h')(ups:s'.heap.UpToSlots h'):Inv X pins σ H' { s' with heap:=h',toks:=t' }:=
 I.og (s':={ s' with heap:=h',toks:=t' }) (ch:=[]) x.os (x.MQ k ups) (x.CI k) x.bare fun b z=>absurd z (by simp)
theorem VZ {P:Program}{w:World}{H:Hp}{h:Heap}{C e dx:Addr}(he:jz C e dx h):bI P w H h e (.ext (jz C e dx)):=⟨he,let ⟨o,a,_⟩:=he;⟨o,a⟩,fun _ _ ⟨o,a,b⟩ k=>⟨o,k _ a,b⟩⟩
end
section
variable {X:Cx}{k:Nat}{f C fI:Addr}{fd:FuncData}{ps:List Str}{sp:Sp}{g x n y c:Str}{p pos rT np mU yp cp tp ap:Pos}{e:Expr}{es:List Expr}{t:TA}{ts:TS}{b₀:Stmt}{fu:List Stmt}{i iy:Nat}{cj tk}
end
inductive JM (P:Program)(w:World)(K:W.Frag)(mg:Str->Option Value)(base:Heap)(k:Nat)(f:Addr)(ps:List Str)(sp:Sp):Prop
 | mk:∀ (fd:FuncData),(ji P w K mg base aU k f fd ps sp)->(Binds K fd ps [])->JM P w K mg base k f ps sp
inductive zL (C:Addr)(f:Str)(vs:List V)(H:Hp)(Q:VK)(bK:XK):Prop
 | mk:∀ (e:Addr) (v:V),(vs=[.ref e,v])->(H e=some (.ext (qf C e)))->(∀ (dx:Addr) (H':Hp),H' e=some (.ext (tV C e dx))->H' dx=some (.xd [(f,v)])->(∀ b o,b≠e->H b=some o->H' b=some o)->Q .eB H')->zL C f vs H Q bK
end L2
namespace L2
open PySem PySem.Spec PyProof.Rows
def tX (A:Around)(H:Hp):Prop:=A.handled=none\/∃ e o u vs,A.handled=some (.ref e)/\H e=some (.mK o u)/\o.data=.fields vs/\vs[2]?=some .none
theorem Inv.stH {X:Cx}{pins:List (Addr × Obj)}{σ:St}{H:Hp}{s:Shared}(I:Inv X pins σ H s)(hc:X.cb=true):tX X.A H:=by
 rcases I.ok.hs hc with z|⟨e,o,u,vs,hh,hm,r⟩
 ·exact .inl z
 ·exact .inr ⟨e,o,u,vs,hh,I.vq _ hm,r⟩
theorem tX.list {A:Around}{H:Hp}(h:tX A H):∃ fz:List (Addr × Obj × HO),(∀ p∈fz,H p.1=some (.mK p.2.1 p.2.2))/\(A.handled=none\/∃ e o u vs,A.handled=some (.ref e)/\(e,o,u)∈fz/\o.data=.fields vs/\vs[2]?=some .none):=by
 rcases h with z|⟨e,o,u,vs,hh,hm,r⟩
 ·exact⟨[],(fun _ hp=>nomatch hp),.inl z⟩
 ·refine⟨[(e,o,u)],fun p hp=>?_,.inr ⟨e,o,u,vs,hh,aar.mpr rfl,r⟩⟩
  rw[aar.mp hp]
  exact hm
structure zM (P:Program)(w:World)(K:W.Frag)(mg:Str->Option Value)(base:Heap)(k:Nat)(f:Addr)(fd:FuncData)(ps:List Str)(sp:Sp):Prop where
 len:∀ vs H Q E,sp vs H Q E->vs.length=ps.length
 run:∀ (A:Around) (outer:List Env) (s:Shared) (H:Hp) (args:Args) (us:List Value) (vs:List V) (Q:VK) (E:XK),iU k A->tX A H->rO P w K mg base A outer s H->BindsTo s fd args (ps.zip us)->Vals vs us->sp vs H Q E ->
  codeAny (model P w) A (.call (.ref f) args) (CR aU outer P w H s Q E) s
inductive qh (P:Program)(w:World)(K:W.Frag)(mg:Str->Option Value)(base:Heap)(k:Nat)(x:Str)(ps:List Str)(sp:Sp):Prop
 | mk:∀ (f:Addr) (fd:FuncData),(zM P w K mg base k f fd ps sp)->(Binds K fd ps [])->(W.keepIn K (.ref f)=true)->(mg x=some (.ref f))->qh P w K mg base k x ps sp
def LI (P:Program)(w:World)(K:W.Frag)(mg:Str->Option Value)(base:Heap)(N:List Str)(qual:Str)(scope:Scope)(f:Addr)(cd:Value)(A:Around)(outer:List Env)(s:Shared)(H:Hp)(fz:List (Addr × Obj × HO)):Cx:=
 { cR aU P w K mg base N qual scope f cd A outer s H E0 with calm:=false,fz:=fz,xe:=fun _ _=>False }
theorem x5 {P:Program}{w:World}{K:W.Frag}{mg:Str->Option Value}{base:Heap}{N ps:List Str}{qual:Str}{scope:Scope}{f:Addr}{cd:Value}{A:Around}{outer:List Env}{s s1:Shared}{H:Hp}{us:List Value}{vs:List V}{fz:List (Addr × Obj × HO)}
  (S:ay N ps scope) (e0:rO P w K mg base A outer s H) (hl:vs.length=ps.length) (r:Vals vs us) (hz:∀ p∈fz,H p.1=some (.mK p.2.1 p.2.2)) (hs:A.handled=none\/∃ e o u vs,A.handled=some (.ref e)/\(e,o,u)∈fz/\o.data=.fields vs/\vs[2]?=some .none)
  (x:InCallC s s.heap.objs.size (bindL (envOfC qual scope s.heap.objs.size f cd).kindOf (ps.zip us) fun _=>none) (cellsFrom (s.heap.objs.size+1) scope.names []) (bindC (envOfC qual scope s.heap.objs.size f cd).kindOf (ps.zip us) fun _=>none) s1) :
  Inv (LI P w K mg base N qual scope f cd A outer s H fz) [] (start N vs) H s1:=by
 have e1:rO P w K mg base { A with handled:=none } outer s H:=⟨e0.frames,e0.mod,e0.bs,e0.vn,e0.jy,e0.pU,e0.bh,e0.bare⟩
 have J:=sC (CX:=aU) (E:=E0) (A:={ A with handled:=none }) S rfl e1 hl r x
 have ok:=J.ok
 exact⟨⟨ok.mod,ok.kind,ok.glob,ok.blt,ok.above,ok.inj,ok.has,ok.Fo,(fun h=>by cases h),(fun _=>hs),(show (A.deeper _).frames=some (_::outer) from adG e0.frames),ok.FF,ok.Jf,ok.bs,ok.vn,ok.pT,ok.tF,ok.jy,ok.pU⟩,
  hz,J.os,J.bare,J.base,J.loc,J.cell,J.free,J.eW,J.pin,J.bh,J.len⟩
theorem JN {P:Program}{w:World}{K:W.Frag}{mg:Str->Option Value}{base:Heap}{k:Nat}{f:Addr}{name qual:Str}{params:Arguments}{body:List Stmt}{scope:Scope}{dV kV doc pm aZ ct oc:Value}{an od:Option Addr}
  {pF:Array (Option Value)}{N ps:List Str}{sp:Sp} (lk:K.lookup f=some ⟨oc,od,.func (W.fnOf name qual params body scope dV kV doc pm an aZ ct),pF⟩) (pD:W.codeIn K aZ qual=true) (S:ay N ps scope)
  (len:∀ vs H Q E,sp vs H Q E->vs.length=ps.length)
  (eF:∀ (A:Around) (outer:List Env) (s:Shared) (H:Hp) (fz:List (Addr × Obj × HO)) (vs:List V) (Q:VK) (E:XK),iU k (A.deeper (envOfC qual scope s.heap.objs.size f aZ))->sp vs H Q E ->
   ∃ t,kL (LI P w K mg base N qual scope f aZ A outer s H fz) body t/\t { nx:=fun _ H'=>Q .eB H',rt:=Q } (start N vs) H) :
  zM P w K mg base (k+1) f (W.fnOf name qual params body scope dV kV doc pm an aZ ct) ps sp:=by
 refine⟨len,fun A outer s H args us vs Q E hr mE e0 hb r tN=>?_⟩
 obtain⟨fz,hz,hs⟩:=mE.list
 have hl:=len _ _ _ _ tN
 have KX:K.In s.heap:=e0.mod.Hu.keeps fun b o e=>(e0.bs b o e).1
 have lim:s.heap.NoLimit:=e0.mod.nolimit.keeps fun b o e=>(e0.bs b o e).1
 have Cw:∀ y∈ps.zip us,scope.names.lookup y.1=some .local\/(scope.names.lookup y.1=some .cell/\((cellsFrom (s.heap.objs.size+1) scope.names []).lookup y.1).isSome=true):=fun ⟨n,v⟩ hy=>by
  rcases S.par n (adn hy).1 with q|q
  ·exact .inl q
  ·exact .inr ⟨q,ad5 _ _ _ (.inl q)⟩
 have Rh:A.depth<recursionLimit:=by have:=hr.dp;omega
 refine codeAny_call_function Rh (KX _ _ lk) rfl S.co S.gen rfl (W.codeRec_of KX pD) (hb _ _ _ _ ?_)
 refine wpAny_newFunctionEnv_cells S.kind Cw fun env he s1 x=>?_
 subst he
 refine⟨lim.keeps x.toInCall.keep,codeAny_func ?_⟩
 obtain⟨t,ht,hq⟩:=eF A outer s H fz vs Q E (hr.deeper _) tN
 have I:Inv (LI P w K mg base N qual scope f aZ A outer s H fz) [] (start N vs) H s1:=x5 S e0 hl r hz hs x
 refine Z2 (ht [] s1 (start N vs) H _ I hq) (fun fl s' hs=>?_) fun e s' hs=>False.elim hs
 have fin:∀ {σ':St}{H':Hp}{v:V}{u:Value},Inv (LI P w K mg base N qual scope f aZ A outer s H fz) [] σ' H' s'->RelV v u->Q v H'->CE outer P w H s Q u s':=
  fun {σ' H' v u} J rv q=>⟨v,H',J.os,J.bare,J.base,J.bh,rv,q⟩
 cases fl with
 | ret u=>
  obtain⟨v,σ',H',J,rv,q⟩:=hs
  exact fin J rv q
 | next=>
  obtain⟨σ',H',J,q⟩:=hs
  exact fin (v:=V.eB) (u:=Value.none) J rfl q
 | brk=>
  obtain⟨_,_,_,q⟩:=hs
  exact False.elim q
 | cont=>
  obtain⟨_,_,_,q⟩:=hs
  exact False.elim q
section
variable {P:Program}{w:World}{K:W.Frag}{mg:Str->Option Value}{base:Heap}
theorem zF.LJ {x qual:Str}{st:Stmt}{f:Addr}{fd:FuncData}{N ps:List Str}{k:Nat}{sp:Sp}(F:zF K x qual st f fd)(S:ay N ps (ar st))(len:∀ vs H Q E,sp vs H Q E->vs.length=ps.length)
  (eF:∀ (aZ:Value) (A:Around) (outer:List Env) (s:Shared) (H:Hp) (fz:List (Addr × Obj × HO)) (vs:List V) (Q:VK) (E:XK),iU k (A.deeper (envOfC qual (ar st) s.heap.objs.size f aZ))->sp vs H Q E ->
   ∃ t,kL (LI P w K mg base N qual (ar st) f aZ A outer s H fz) (aP st) t/\t { nx:=fun _ H'=>Q .eB H',rt:=Q } (start N vs) H):zM P w K mg base (k+1) f fd ps sp:=by
 obtain⟨oc,od,kV,doc,pm,an,aZ,ct,pF,rfl,lk,pD⟩:=F.ex
 exact JN lk pD S len fun A outer s H fz vs Q E hr tN=>eF aZ A outer s H fz vs Q E hr tN
end
section
variable {X:Cx}{k:Nat}{f:Addr}{fd:FuncData}{ps:List Str}{sp:Sp}{zv:List V}{ds:List Value}{x:Str}{p pos:Pos}{e:Expr}{es:List Expr}{t:TA}
theorem CO (F:zM X.prog X.w X.K X.mg X.base k f fd ps sp)(hr:iU k X.A)(hc:X.cb=true)(hg:Gl X x)(hm:X.mg x=some (.ref f))(hk:W.keepIn X.K (.ref f)=true)(hb:Binds X.K fd ps ds)(hd:Vals zv ds)
  (ha:PA X (e::es) t) (oj:(x==("__debug__":Str))=false:=by decide) (he:starEach (e::es) X.env=(false,eval e X.env)::starEach es X.env:=by rfl) (ir:(backTo pos (starEach es X.env)).any (·.1)=false:=by rfl) :
  PE X (.Call (.Name x p) (e::es) [] pos) (zu sp zv E0 t):=by
 intro pins s σ H Q I h
 refine ab2 (eY I hg hm ?_ oj)
 refine W.callWith_K (h₀:=X.base) I.ok.mod.Hu hk (eD (ha pos pins s σ H _ I h) fun us s1 ⟨vs,H1,I1,r,q⟩=>⟨I1.jw,?_⟩) he ir
 have r2:Vals (vs++zv) (us++ds):=r.append hd
 have hl:(us++ds).length=ps.length:=by rw[<- r2.length];exact F.len _ _ _ _ q
 refine abL (abO (F.run X.A X.stack s1 H1 ⟨us,[]⟩ (us++ds) (vs++zv) Q E0 hr (I1.stH hc) I1.FO (hb s1 us I1.jw hl) r2 q) fun r s' hq=>?_)
 cases r with
 | error e=>exact False.elim hq
 | ok fl=>
  cases fl with
  | ret u=>exact I1.after hq
  | next=>exact False.elim hq
  | brk=>exact False.elim hq
  | cont=>exact False.elim hq
end
abbrev Cx.ou (X:Cx)(e:Addr)(o:Obj)(u:HO):Cx:={ X with A:=X.A.mark (some (.ref e)),calm:=false,cb:=true,fz:=(e,o,u)::X.fz,xe:=fun _ _=>False }
section
variable {X:Cx}{pins:List (Addr × Obj)}{σ:St}{H H':Hp}{s s':Shared}{e:Addr}{o:Obj}{u:HO}{vs:Array Value}
theorem Inv.ou (I:Inv X pins σ H s)(h:H e=some (.mK o u))(hd:o.data=.fields vs)(h2:vs[2]?=some .none):Inv (X.ou e o u) pins σ H s:=
 have ok:=I.ok
 ⟨⟨ok.mod,ok.kind,ok.glob,ok.blt,ok.above,ok.inj,ok.has,ok.Fo,(fun h=>by cases h),(fun _=>.inr ⟨e,o,u,vs,rfl,aaZ ..,hd,h2⟩),ok.frames,ok.FF,ok.Jf,ok.bs,ok.vn,ok.pT,ok.tF,ok.jy,ok.pU⟩,
  fun p hp=>(ZI.mp hp).elim (fun z=>by rw[z];exact h) (I.vq p),I.os,I.bare,I.base,I.loc,I.cell,I.free,I.eW,I.pin,I.bh,I.len⟩
theorem Inv.pI (ok:X.Ok)(I:Inv (X.ou e o u) pins σ H s):Inv X pins σ H s:=⟨ok,fun p hp=>I.vq p (aav _ hp),I.os,I.bare,I.base,I.loc,I.cell,I.free,I.eW,I.pin,I.bh,I.len⟩
end
theorem CP {v:Value}{K:W.Frag}{h:Heap}{C:Addr}{MP:List Value}{newId:String}(X:K.In h)(q:W.excIn K C MP newId=true)(em:W.mroIn K C v=some true) :
  ∃ bm N nm qn bs hdct sn sub ab col dd k0 k1 k2 k3 k5 mN,h.get? C=some (excClassObj nm qn C N bs bm hdct sn sub ab col dd k0 k1 k2 k3 k5 newId)/\h.Ns N mN/\mN "__init__"=none/\OwnTail h MP bm/\(Value.ref C::bm).contains v=true:=by
 unfold W.excIn at q
 split at q
 ·rename_i dd cd sl ho
  split at q
  ·rename_i C' bm k0 k1 k2 k3 n k5 hm hs
   have vp:cd.mro.contains v=true:=by
    unfold W.mroIn W.clsIn at em
    rw[ho] at em
    obtain⟨MO,a,b⟩:=ac4.mp em
    cases a
    split at b
    ·cases b
    ·exact ZG b
   rw[hm] at vp
   simp only[aaW,aa4,acu] at q
   obtain⟨⟨⟨⟨⟨c1,c2⟩,c3⟩,c4⟩,c5⟩,c6⟩:=q
   subst c1 c2
   obtain⟨nm,bs,mro,ns,qn,hd,sn,sub,ab,col,del⟩:=cd
   dsimp only at hm c3 c5 c6
   subst hm c3
   obtain⟨l⟩:=sl
   have mI:l=[k0,k1,k2,k3,some (.builtin n),k5]:=hs
   subst mI
   exact⟨bm,ns,nm,qn,bs,hd,sn,sub,ab,col,dd,k0,k1,k2,k3,k5,_,X _ _ ho,.of_isNs (ad4 X c5),W.nsMap_none_of_in X c5 c6,W.tail_of_in X c4,vp⟩
  ·cases q
 ·cases q
section
variable {M:Model}{A:Around}{E:Value->Shared->Prop}
variable {nm q LL q':Str}{C N D N':Addr}{bs bm LM Ft:List Value}{hdct sL:Bool}{sn LN:List Str}{sub Ba:List Value}{ab LO:Bool}{col Bb:Option Bool}{dd LP:Option Addr}{k0 k1 k2 k3 k5 j0 j1 j2 j3 j5:Option Value}{newId x6:String}
theorem kM {h:Heap}{g:Array GenState}{d:Drawn}{t:Nat}{os:OsState}{e:Addr}{oe:Obj}{Q:Bool->Shared->Prop}
  (hC:h.get? C=some (excClassObj nm q C N bs bm hdct sn sub ab col dd k0 k1 k2 k3 k5 newId)) (hD:h.get? D=some (excClassObj LL q' D N' LM Ft sL LN Ba LO Bb LP j0 j1 j2 j3 j5 x6)) (he:h.get? e=some oe) (xC:oe.cls=.ref C)
  (vE:Ft.contains (.type "BaseException")=true) (Ri:(Value.ref C::bm).contains (.ref D)=true)
  (hq:Q true ⟨h,g,d,t,os⟩):wpAny M A (excMatches (.ref e) (.ref D)) Q E ⟨h,g,d,t,os⟩:=by
 have Rj:(Value.ref D::Ft).contains (.type "BaseException")=true:=by rw[adC,vE,aeg]
 have f:=tc_notTuple
 unfold excMatches
 repeat (first|(with_reducible refine aa1 he ?_;rw[xC])|with_reducible refine aa1 hD ?_|with_reducible refine aa1 hC ?_|(with_reducible refine abQ hD ?_;rw[Rj])|(with_reducible refine abQ hC ?_;rw[Ri])|wp_step)
 exact hq
end
section
variable {X:Cx}{pins:List (Addr × Obj)}{σ:St}{H H':Hp}{s s':Shared}{e:Addr}{cls a0:Value}{ea C:Addr}{B h':Heap}{t':Nat}
theorem x8 {Dc:Addr}{D:Ends}{ts:TS}{x n:Str}{np mU:Pos}{b₀:Stmt}{fu:List Stmt}{i:Nat}(I:Inv X pins σ H s)(jk:zH X.prog X.w X.stack H s (.ref C) a0 ea B H' s')(mE:X.stack=X.env::X.outer)(hf:X.env.frame=some X.env.locals)
  (hm:X.mg x=some (.ref Dc)) (hg:Gl X x) (hq:W.excIn X.K C eG "ValueError.__new__"=true) (HI:W.excIn X.K Dc eG "ValueError.__new__"=true) (pD:W.mroIn X.K C (.ref Dc)=some true) (hN:X.N.Nodup) (hi:X.N[i]?=some n) (hk:X.env.scope.names.lookup n=some .local)
  (M0:kL (X.marked ea) (b₀::fu) ts) (h:ts (qd D i) (σ.set i (some (.ref ea))) (upd H' ea (.ext (ExcAt C ea)))) (oj:(x==("__debug__":Str))=false) :
  wpAny (model X.prog X.w) X.A (noteFrame (.ref ea) X.env) (fun _ s₂=>wpAny (model X.prog X.w) X.A (setFlight (.ref ea) none) (fun _ s₃=>
   wpAny (model X.prog X.w) X.A (handleBy (.ref ea) X.env [.ExceptHandler (some (.Name x np)) (some n) (b₀::fu) mU]) (SP X pins D) X.xe s₃) X.xe s₂) X.xe s':=by
 obtain⟨hp,gs,dr,tk,os⟩:=s'
 have fr:X.A.frames=some (X.env::X.outer):=by rw[<- mE];exact I.ok.frames
 have fl:Heap.FlyingW B (X.env::X.outer) ea (.ref C) a0 hp:=by rw[<- mE];exact jk.jk
 refine wpAny_looks_onW fr hf fl fun h4 vN u4=>?_
 refine wpAny_landsW vN fun h5 CQ u5=>?_
 have I5:Inv X pins σ H' ⟨h5,gs,dr,tk,os⟩:=I.landed (t':=tk) jk CQ.1 (u4.trans u5)
 obtain⟨ob,xt,Bc⟩:=CQ.there
 refine acV (acF (eY (I5.marked ea) hg hm ?_ oj)) (by intro q;cases q)
 obtain⟨bm,Nn,nm,qn,bs,hdct,sn,sub,ab,col,dd,k0,k1,k2,k3,k5,mN,hC,MX,HH,TL,vp⟩:=CP I5.jw hq pD
 obtain⟨Ft,Um,LL,Uo,LM,sL,LN,Ba,LO,Bb,LP,j0,j1,j2,j3,j5,Uq,hD,M1,M3,M4⟩:=pG I5.jw HI
 refine kM hC hD xt Bc (M4.hasType PySem.F.excBase_ValueError.hasBase) vp ?_
 refine adk ?_
 refine lands_againW CQ fun h6 M5 u6=>?_
 have I6:Inv X pins σ (upd H' ea (.ext (ExcAt C ea))) ⟨h6,gs,dr,tk,os⟩:=I.zI (t':=tk) jk M5 ((u4.trans u5).trans u6)
 refine gW (X:=X.marked ea) (i:=i) (v:=.ref ea) (I6.marked ea) hN hi (.inl hk) rfl (fun s7 I7=>?_) (.inr hk)
 refine Z2 (M0 pins s7 _ _ _ I7 h) (fun fw s8 q=>?_) fun _ _ z=>False.elim z
 cases fw with
 | next=>
  obtain⟨σ2,H2,J,q⟩:=q
  exact ck (J.unmarked I.ok) hN hi hk fun s9 J9=>⟨_,_,J9,q⟩
 | ret v=>
  obtain⟨v',σ2,H2,J,r,q⟩:=q
  exact ck (J.unmarked I.ok) hN hi hk fun s9 J9=>⟨v',_,_,J9,r,q⟩
 | brk=>
  obtain⟨σ2,H2,J,q⟩:=q
  exact ck (J.unmarked I.ok) hN hi hk fun s9 J9=>⟨_,_,J9,q⟩
 | cont=>
  obtain⟨σ2,H2,J,q⟩:=q
  exact ck (J.unmarked I.ok) hN hi hk fun s9 J9=>⟨_,_,J9,q⟩
end
section
variable {X:Cx}{k:Nat}{f C:Addr}{fd:FuncData}{ps:List Str}{sp:Sp}{g x n:Str}{p pos mT rT np mU:Pos}{e:Expr}{es:List Expr}{t:TA}{ts:TS}{b₀:Stmt}{fu:List Stmt}{i:Nat}
end
end L2
namespace L2
open PySem PySem.Spec PyProof.Rows PySem.W PySem.Calls
def LQ (P:Program)(w:World)(K:Frag)(C D:Addr)(b:Bool):Prop:=∀ (A:Around) (h:Heap) (g:Array GenState) (d:Drawn) (t:Nat) (os:OsState) (ea:Addr) (ob:Obj) (Q:Bool->Shared->Prop) (E:Value->Shared->Prop),
 K.In h->h.get? ea=some ob->ob.cls=.ref C->Q b ⟨h,g,d,t,os⟩->wpAny (model P w) A (excMatches (.ref ea) (.ref D)) Q E ⟨h,g,d,t,os⟩
theorem CS {P:Program}{w:World}{K:Frag}{C fI:Addr}(hq:fB K C fI=true):LQ P w K C C true:=by
 intro A h g d t os ea ob Q E X xt hc q
 obtain⟨bm,Nn,nm,qn,bs,hdct,sn,sub,ab,col,dd,k0,k1,k2,k3,k5,mN,hC,MX,HH,TL⟩:=jL X hq
 exact wpAny_excMatches_sub_self hC xt hc (TL.hasType PySem.F.excBase_ValueError.hasBase) q
theorem Be {P:Program}{w:World}{K:Frag}{C:Addr}(hq:W.excIn K C eG "ValueError.__new__"=true):LQ P w K C C true:=by
 intro A h g d t os ea ob Q E X xt hc q
 obtain⟨bm,Nn,nm,qn,bs,hdct,sn,sub,ab,col,dd,k0,k1,k2,k3,k5,mN,hC,MX,HH,TL⟩:=pG X hq
 exact wpAny_excMatches_sub_self hC xt hc (TL.hasType PySem.F.excBase_ValueError.hasBase) q
theorem Bf {v:Value}{K:Frag}{h:Heap}{C fI:Addr}(X:K.In h)(q:fB K C fI=true)(em:W.mroIn K C v=some true) :
  ∃ bm N nm qn bs hdct sn sub ab col dd k0 k1 k2 k3 k5,h.get? C=some (excClassObj nm qn C N bs bm hdct sn sub ab col dd k0 k1 k2 k3 k5 "ValueError.__new__")/\(Value.ref C::bm).contains v=true:=by
 unfold fB at q
 split at q
 ·rename_i dd cd sl ho
  split at q
  ·rename_i C' bm k0 k1 k2 k3 n k5 hm hs
   have vp:cd.mro.contains v=true:=by
    unfold W.mroIn W.clsIn at em
    rw[ho] at em
    obtain⟨MO,a,b⟩:=ac4.mp em
    cases a
    split at b
    ·cases b
    ·exact ZG b
   rw[hm] at vp
   simp only[aaW,aa4,acu] at q
   obtain⟨⟨⟨⟨⟨c1,c2⟩,c3⟩,c4⟩,c5⟩,c6⟩:=q
   subst c1 c2
   obtain⟨nm,bs,mro,ns,qn,hd,sn,sub,ab,col,del⟩:=cd
   dsimp only at hm c3 c5 c6
   subst hm c3
   obtain⟨l⟩:=sl
   have mI:l=[k0,k1,k2,k3,some (.builtin "ValueError.__new__"),k5]:=hs
   subst mI
   exact⟨bm,ns,nm,qn,bs,hd,sn,sub,ab,col,dd,k0,k1,k2,k3,k5,X _ _ ho,vp⟩
  ·cases q
 ·cases q
theorem JO {P:Program}{w:World}{K:Frag}{C D fI:Addr}(hq:fB K C fI=true)(HI:W.excIn K D eG "ValueError.__new__"=true)(pD:W.mroIn K C (.ref D)=some true):LQ P w K C D true:=by
 intro A h g d t os ea ob Q E X xt hc q
 obtain⟨bm,Nn,nm,qn,bs,hdct,sn,sub,ab,col,dd,k0,k1,k2,k3,k5,hC,vp⟩:=Bf X hq pD
 obtain⟨Ft,Um,LL,Uo,LM,sL,LN,Ba,LO,Bb,LP,j0,j1,j2,j3,j5,Uq,hD,M1,M3,M4⟩:=pG X HI
 exact kM hC hD xt hc (M4.hasType PySem.F.excBase_ValueError.hasBase) vp q
section
variable {X:Cx}{pins:List (Addr × Obj)}{σ:St}{H H':Hp}{s s':Shared}{cls:Value}{ea C dx:Addr}{B h':Heap}{t':Nat}
theorem Inv.F5 (I:Inv X pins σ H s)(x:tW X.prog X.w X.stack H s (.ref C) dx ea B H' s'){l:List Env}{fl:Value}(f2:iu B l ea (.ref C) (some dx) fl h')(ups:s'.heap.UpToSlots h') :
  ∃ (oe:Obj) (vs:Array Value),oe.data=.fields vs/\vs[2]?=some .none/\Inv X pins σ (upd H' ea (.mK oe (.ext (jz C ea dx)))) { s' with heap:=h',toks:=t' }:=by
 obtain⟨oe,vs,_,_,_,he,⟨hc,hx⟩,hd,_,h2,_⟩:=f2.tr
 have at_:jz C ea dx h':=⟨oe,he,hc,hx,by unfold W.notCls;rw[hd]⟩
 exact⟨oe,vs,hd,h2,I.og (s':={ s' with heap:=h',toks:=t' }) (ch:=[]) x.os ((x.MQ f2.stays ups).more x.hs x.he) ((x.CI f2.stays).more x.he ⟨he,VZ at_⟩) x.bare fun b z=>absurd z (by simp)⟩
theorem vO {D:Ends}{ts:TS}{x n:Str}{np mU:Pos}{b₀:Stmt}{fu:List Stmt}{rest:List ExceptHandler}{i:Nat}{Dc:Addr}(I:Inv X pins σ H s)(jk:tW X.prog X.w X.stack H s (.ref C) dx ea B H' s')(mE:X.stack=X.env::X.outer)(hf:X.env.frame=some X.env.locals)
  (hm:X.mg x=some (.ref Dc)) (hg:Gl X x) (Rk:LQ X.prog X.w X.K C Dc true) (hN:X.N.Nodup) (hi:X.N[i]?=some n) (hk:X.env.scope.names.lookup n=some .local)
  (M0:∀ o u,kL (X.ou ea o u) (b₀::fu) ts) (h:∀ o,ts (qd D i) (σ.set i (some (.ref ea))) (upd H' ea (.mK o (.ext (jz C ea dx))))) (oj:(x==("__debug__":Str))=false) :
  wpAny (model X.prog X.w) X.A (noteFrame (.ref ea) X.env) (fun _ s₂=>wpAny (model X.prog X.w) X.A (setFlight (.ref ea) none) (fun _ s₃=>
   wpAny (model X.prog X.w) X.A (handleBy (.ref ea) X.env (.ExceptHandler (some (.Name x np)) (some n) (b₀::fu) mU::rest)) (SP X pins D) X.xe s₃) X.xe s₂) X.xe s':=by
 obtain⟨hp,gs,dr,tk,os⟩:=s'
 have fr:X.A.frames=some (X.env::X.outer):=by rw[<- mE];exact I.ok.frames
 have fl:iu B (X.env::X.outer) ea (.ref C) (some dx) .none hp:=by rw[<- mE];exact jk.jk
 refine sG fr hf fl fun h4 vN u4=>?_
 refine zK vN fun h5 CQ u5=>?_
 have I5:Inv X pins σ H' ⟨h5,gs,dr,tk,os⟩:=I.landed0 (t':=tk) jk CQ.stays (u4.trans u5)
 obtain⟨ob,xt,Bc,_⟩:=CQ.there
 refine acV (acF (eY (I5.marked ea) hg hm ?_ oj)) (by intro q;cases q)
 refine Rk _ _ _ _ _ _ _ _ _ _ I5.jw xt Bc ?_
 refine adk ?_
 refine zK CQ fun h6 M5 u6=>?_
 obtain⟨oe,vs,hd,h2,I6⟩:=I.F5 (t':=tk) jk M5 ((u4.trans u5).trans u6)
 refine gW (X:=X.ou ea oe (.ext (jz C ea dx))) (i:=i) (v:=.ref ea) (I6.ou ah hd h2) hN hi (.inl hk) rfl (fun s7 I7=>?_) (.inr hk)
 refine Z2 (M0 _ _ pins s7 _ _ _ I7 (h oe)) (fun fw s8 q=>?_) fun _ _ z=>False.elim z
 cases fw with
 | next=>
  obtain⟨σ2,H2,J,q⟩:=q
  exact ck (J.pI I.ok) hN hi hk fun s9 J9=>⟨_,_,J9,q⟩
 | ret v=>
  obtain⟨v',σ2,H2,J,r,q⟩:=q
  exact ck (J.pI I.ok) hN hi hk fun s9 J9=>⟨v',_,_,J9,r,q⟩
 | brk=>
  obtain⟨σ2,H2,J,q⟩:=q
  exact ck (J.pI I.ok) hN hi hk fun s9 J9=>⟨_,_,J9,q⟩
 | cont=>
  obtain⟨σ2,H2,J,q⟩:=q
  exact ck (J.pI I.ok) hN hi hk fun s9 J9=>⟨_,_,J9,q⟩
end
section
variable {X:Cx}{k:Nat}{f C Dc:Addr}{fd:FuncData}{ps:List Str}{sp:Sp}{g x n:Str}{p pos mT rT np mU:Pos}{e:Expr}{es:List Expr}{t:TA}{ts:TS}{b₀:Stmt}{fu:List Stmt}{i:Nat}
end
inductive zN (K:Frag)(f:Str)(Q:VK)(x:V)(H1:Hp):Prop
 | mk:∀ e C dx fs v,(x=.ref e)->(Rd H1 e (.ext (jz C e dx)))->(H1 dx=some (.xd fs))->(mV K C f)->(fs.lookup f=some v)->(Q v H1)->zN K f Q x H1
def JP (K:Frag)(ta:TE)(f:Str):TE:=fun σ H Q=>ta σ H fun x H1=>zN K f Q x H1
theorem CT {X:Cx}{e:Expr}{f:Str}{pos:Pos}{ta:TE}(K:W.Frag)(he:PE X e ta)(hb:attributeBase e f X.env (eval e X.env)=eval e X.env:=by rfl)(hK:X.K=K:=by rfl):PE X (.Attribute e f pos) (JP K ta f):=by
 subst hK
 intro pins s σ H Q I h
 refine FN hb (eD (he pins s σ H _ I h) fun u s1 ⟨x,H1,I1,rx,ea,C,dx,fs,v,ex,h1,h2,T,l,q⟩=>?_)
 subst ex
 obtain rfl:u=Value.ref ea:=rx
 obtain⟨at_,_,_⟩:=h1.ok I1.bh
 obtain⟨mA,ns,r⟩:=(show bI X.prog X.w H1 s1.heap dx (.xd fs) from I1.bh dx _ h2)
 obtain⟨u,hu,ru⟩:=xB.some_of (v:=v) (o:=mA f) (by rw[<- l];exact r f)
 exact A5 I1.jw T at_ ns.ns hu (W.handedOut_of (AS ru)) ⟨v,H1,I1.tok _,ru,q⟩
inductive Rm (K:W.Frag)(H:Hp):V->Value->Prop where
 | of {x:V}{t:Value} (h:Pm K H x t):Rm K H x t
 | exc {e C dx:Addr} (T:jn K C) (h:Rd H e (.ext (jz C e dx))):Rm K H (.ref e) (.ref C)
inductive HJ (K:W.Frag)(xs:List V)(H:Hp)(Q:VK):Prop
 | mk:∀ x c t b,(xs=[x,c])->(((∃ a,c=.ref a)\/∃ n,c=.ty n))->(Rm K H x t)->(W.kitOne K t (valOf c)=some b)->(Q (.bl b) H)->HJ K xs H Q
theorem iV {X:Cx}{K:W.Frag}(hK:X.K=K):gI X (.builtin "isinstance") (HJ K):=by
 subst hK
 intro pins s σ H xs us Q I rv h
 obtain⟨x,c,t,b,rfl,hc,ty,e,q⟩:=h
 cases ty with
 | of ty=>exact lV pins s σ H _ us Q I rv ⟨x,c,t,b,rfl,hc,ty,e,q⟩
 | @exc ea C dx T he=>
  obtain⟨u,uc,rfl,ru,rc⟩:=rv.two
  have Q8:uc=valOf c:=by
   rcases hc with ⟨a,rfl⟩|⟨n,rfl⟩
   ·exact rc
   ·exact rc
  subst Q8
  have Q9:u=Value.ref ea:=ru
  subst Q9
  obtain⟨p,_,_⟩:=he.ok I.bh
  exact ab6 (vG T) I.jw p.exc e (fun z=>nomatch z) fun tk=>⟨.bl b,H,I.tok tk,rfl,q⟩
def XB (P:Program)(w:World):sj:=fun outer H s E e s'=>XD P w outer H s E e s'\/XF P w outer H s E e s'
theorem ji.up {P:Program}{w:World}{K:Frag}{mg:Str->Option Value}{base:Heap}{CX CX':sj}{k:Nat}{f:Addr}{fd:FuncData}{ps:List Str}{sp:Sp}(F:ji P w K mg base CX k f fd ps sp)(hi:∀ outer H s E e s',CX outer H s E e s'->CX' outer H s E e s'):ji P w K mg base CX' k f fd ps sp:=
 ⟨F.len,fun A outer s H args us vs Q E hr e0 hb hv hs=>abO (F.run A outer s H args us vs Q E hr e0 hb hv hs) fun r s' h=>by
  cases r with
  | ok fl=>cases fl<;>exact h
  | error e=>exact hi _ _ _ _ _ _ h⟩
section
variable {P:Program}{w:World}{K:W.Frag}{mg:Str->Option Value}{base:Heap}{N:List Str}{qual:Str}{scope:Scope}{f:Addr}{cd:Value}{A:Around}{outer:List Env}{s0:Shared}{H0:Hp}{E:XK}{CX CX':sj}{st:Stmt}{t:TS}
theorem PS.up (h:PS (cR CX P w K mg base N qual scope f cd A outer s0 H0 E) st t)(hi:∀ outer H s E e s',CX outer H s E e s'->CX' outer H s E e s'):PS (cR CX' P w K mg base N qual scope f cd A outer s0 H0 E) st t:=fun pins s σ H D I hw=>
 Z2 (h pins s σ H D (I.kU _) hw) (fun _ _ q=>q.gf) fun e s' z=>Z2 z (fun _ xr y=>hi _ _ _ _ _ _ y) fun e' xr y=>hi _ _ _ _ _ _ y
theorem M6:Passes (XB P w) (cR (XB P w) P w K mg base N qual scope f cd A outer s0 H0 E) E:=by
 rintro pins σ H s e s' I (h|h)
 ·have z:=MZ (E:=E) pins σ H s e s' (I.kU _) h
  exact Z2 z (fun _ xr y=>.inl y) fun e' xr y=>.inl y
 ·have z:=MN (E:=E) pins σ H s e s' (I.kU _) h
  exact Z2 z (fun _ xr y=>.inr y) fun e' xr y=>.inr y
theorem JQ {X:Cx}{P:Program}{w:World}:Passes (XB P w) X E0:=by
 rintro pins σ H s e s' I (⟨ea,cls,dx,B,H',rfl,x,hE⟩|⟨ea,cls,a0,B,H',rfl,x,hE⟩)
 ·exact hE.elim
 ·exact hE.elim
theorem zF.M7 {x qual:Str}{st:Stmt}{f:Addr}{fd:FuncData}{N ps:List Str}{k:Nat}{sp:Sp}(F:zF K x qual st f fd)(S:ay N ps (ar st))(len:∀ vs H Q E,sp vs H Q E->vs.length=ps.length)
  (eF:∀ (aZ:Value) (A:Around) (outer:List Env) (s:Shared) (H:Hp) (vs:List V) (Q:VK) (E:XK),dt k (A.deeper (envOfC qual (ar st) s.heap.objs.size f aZ))->sp vs H Q E ->
   ∃ t,kL (cR (XB P w) P w K mg base N qual (ar st) f aZ A outer s H E) (aP st) t/\t { nx:=fun _ H'=>Q .eB H',rt:=Q } (start N vs) H):ji P w K mg base (XB P w) (k+1) f fd ps sp:=by
 obtain⟨oc,od,kV,doc,pm,an,aZ,ct,pF,rfl,lk,pD⟩:=F.ex
 exact zw lk pD S len fun A outer s H vs Q E hr tN=>eF aZ A outer s H vs Q E hr tN
end
theorem vP {K:Frag}{h:Heap}{C:Addr}{v:Value}(X:K.In h)(q:W.excIn K C eG "ValueError.__new__"=true)(em:W.mroIn K C v=some false) :
  ∃ bm N nm qn bs hdct sn sub ab col dd k0 k1 k2 k3 k5,h.get? C=some (excClassObj nm qn C N bs bm hdct sn sub ab col dd k0 k1 k2 k3 k5 "ValueError.__new__")/\(Value.ref C::bm).contains v=false:=by
 unfold W.excIn at q
 split at q
 ·rename_i dd cd sl ho
  split at q
  ·rename_i C' bm k0 k1 k2 k3 n k5 hm hs
   have vp:cd.mro.contains v=false:=by
    unfold W.mroIn W.clsIn at em
    rw[ho] at em
    obtain⟨MO,a,b⟩:=ac4.mp em
    cases a
    split at b
    ·cases b
    ·exact ZG b
   rw[hm] at vp
   simp only[aaW,aa4,acu] at q
   obtain⟨⟨⟨⟨⟨c1,c2⟩,c3⟩,c4⟩,c5⟩,c6⟩:=q
   subst c1 c2
   obtain⟨nm,bs,mro,ns,qn,hd,sn,sub,ab,col,del⟩:=cd
   dsimp only at hm c3 c5 c6
   subst hm c3
   obtain⟨l⟩:=sl
   have mI:l=[k0,k1,k2,k3,some (.builtin "ValueError.__new__"),k5]:=hs
   subst mI
   exact⟨bm,ns,nm,qn,bs,hd,sn,sub,ab,col,dd,k0,k1,k2,k3,k5,X _ _ ho,vp⟩
  ·cases q
 ·cases q
section
variable {M:Model}{A:Around}{E:Value->Shared->Prop}
variable {nm q LL q':Str}{C N D N':Addr}{bs bm LM Ft:List Value}{hdct sL:Bool}{sn LN:List Str}{sub Ba:List Value}{ab LO:Bool}{col Bb:Option Bool}{dd LP:Option Addr}{k0 k1 k2 k3 k5 j0 j1 j2 j3 j5:Option Value}{newId x6:String}
theorem qi {h:Heap}{g:Array GenState}{d:Drawn}{t:Nat}{os:OsState}{e:Addr}{oe:Obj}{Q:Bool->Shared->Prop}
  (hC:h.get? C=some (excClassObj nm q C N bs bm hdct sn sub ab col dd k0 k1 k2 k3 k5 newId)) (hD:h.get? D=some (excClassObj LL q' D N' LM Ft sL LN Ba LO Bb LP j0 j1 j2 j3 j5 x6)) (he:h.get? e=some oe) (xC:oe.cls=.ref C)
  (vE:Ft.contains (.type "BaseException")=true) (Ri:(Value.ref C::bm).contains (.ref D)=false)
  (hq:Q false ⟨h,g,d,t,os⟩):wpAny M A (excMatches (.ref e) (.ref D)) Q E ⟨h,g,d,t,os⟩:=by
 have Rj:(Value.ref D::Ft).contains (.type "BaseException")=true:=by rw[adC,vE,aeg]
 have f:=tc_notTuple
 unfold excMatches
 repeat (first|(with_reducible refine aa1 he ?_;rw[xC])|with_reducible refine aa1 hD ?_|with_reducible refine aa1 hC ?_|(with_reducible refine abQ hD ?_;rw[Rj])|(with_reducible refine abQ hC ?_;rw[Ri])|wp_step)
 exact hq
end
theorem JR {P:Program}{w:World}{K:Frag}{C D fI:Addr}(hq:W.excIn K C eG "ValueError.__new__"=true)(HI:fB K D fI=true)(pD:W.mroIn K C (.ref D)=some false):LQ P w K C D false:=by
 intro A h g d t os ea ob Q E X xt hc q
 obtain⟨bm,Nn,nm,qn,bs,hdct,sn,sub,ab,col,dd,k0,k1,k2,k3,k5,hC,vp⟩:=vP X hq pD
 obtain⟨Ft,Um,LL,Uo,LM,sL,LN,Ba,LO,Bb,LP,j0,j1,j2,j3,j5,Uq,hD,M1,M3,M4⟩:=jL X HI
 exact qi hC hD xt hc (M4.hasType PySem.F.excBase_ValueError.hasBase) vp q
section
variable {X:Cx}{pins:List (Addr × Obj)}{σ:St}{H H':Hp}{s s':Shared}{cls a0:Value}{ea C:Addr}{B h':Heap}{t':Nat}
theorem x9 {D:Ends}{ts:TS}{x n x1 n1:Str}{np mU Pq zO:Pos}{b₀:Stmt}{fu M8:List Stmt}{i:Nat}{D1:Addr}(I:Inv X pins σ H s)(jk:zH X.prog X.w X.stack H s (.ref C) a0 ea B H' s')(mE:X.stack=X.env::X.outer)(hf:X.env.frame=some X.env.locals)
  (Pt:X.mg x1=some (.ref D1)) (Pu:Gl X x1) (M9:LQ X.prog X.w X.K C D1 false) (hm:X.mg x=some (.ref C)) (hg:Gl X x) (hq:W.excIn X.K C eG "ValueError.__new__"=true) (hN:X.N.Nodup) (hi:X.N[i]?=some n) (hk:X.env.scope.names.lookup n=some .local)
  (M0:kL (X.marked ea) (b₀::fu) ts) (h:ts (qd D i) (σ.set i (some (.ref ea))) (upd H' ea (.ext (ExcAt C ea)))) (oj:(x==("__debug__":Str))=false) (F7:(x1==("__debug__":Str))=false) :
  wpAny (model X.prog X.w) X.A (noteFrame (.ref ea) X.env) (fun _ s₂=>wpAny (model X.prog X.w) X.A (setFlight (.ref ea) none) (fun _ s₃=>
   wpAny (model X.prog X.w) X.A (handleBy (.ref ea) X.env [.ExceptHandler (some (.Name x1 Pq)) (some n1) M8 zO,.ExceptHandler (some (.Name x np)) (some n) (b₀::fu) mU]) (SP X pins D) X.xe s₃) X.xe s₂) X.xe s':=by
 obtain⟨hp,gs,dr,tk,os⟩:=s'
 have fr:X.A.frames=some (X.env::X.outer):=by rw[<- mE];exact I.ok.frames
 have fl:Heap.FlyingW B (X.env::X.outer) ea (.ref C) a0 hp:=by rw[<- mE];exact jk.jk
 refine wpAny_looks_onW fr hf fl fun h4 vN u4=>?_
 refine wpAny_landsW vN fun h5 CQ u5=>?_
 have I5:Inv X pins σ H' ⟨h5,gs,dr,tk,os⟩:=I.landed (t':=tk) jk CQ.1 (u4.trans u5)
 obtain⟨ob,xt,Bc⟩:=CQ.there
 refine acV (acF (eY (I5.marked ea) Pu Pt ?_ F7)) (by intro q;cases q)
 refine M9 _ _ _ _ _ _ _ _ _ _ I5.jw xt Bc ?_
 refine acV (acF (eY (I5.marked ea) hg hm ?_ oj)) (by intro q;cases q)
 refine Be hq _ _ _ _ _ _ _ _ _ _ I5.jw xt Bc ?_
 refine adk ?_
 refine lands_againW CQ fun h6 M5 u6=>?_
 have I6:Inv X pins σ (upd H' ea (.ext (ExcAt C ea))) ⟨h6,gs,dr,tk,os⟩:=I.zI (t':=tk) jk M5 ((u4.trans u5).trans u6)
 refine gW (X:=X.marked ea) (i:=i) (v:=.ref ea) (I6.marked ea) hN hi (.inl hk) rfl (fun s7 I7=>?_) (.inr hk)
 refine Z2 (M0 pins s7 _ _ _ I7 h) (fun fw s8 q=>?_) fun _ _ z=>False.elim z
 cases fw with
 | next=>
  obtain⟨σ2,H2,J,q⟩:=q
  exact ck (J.unmarked I.ok) hN hi hk fun s9 J9=>⟨_,_,J9,q⟩
 | ret v=>
  obtain⟨v',σ2,H2,J,r,q⟩:=q
  exact ck (J.unmarked I.ok) hN hi hk fun s9 J9=>⟨v',_,_,J9,r,q⟩
 | brk=>
  obtain⟨σ2,H2,J,q⟩:=q
  exact ck (J.unmarked I.ok) hN hi hk fun s9 J9=>⟨_,_,J9,q⟩
 | cont=>
  obtain⟨σ2,H2,J,q⟩:=q
  exact ck (J.unmarked I.ok) hN hi hk fun s9 J9=>⟨_,_,J9,q⟩
end
section
variable {X:Cx}{k:Nat}{f C1 C2 fI:Addr}{fd:FuncData}{ps:List Str}{sp:Sp}{g x1 x2 n y:Str}{p pos rT Pq zO LR HK yp ap:Pos}{e:Expr}{es:List Expr}{t:TA}{HL HM:TS}{b1 b2:Stmt}{M8 Rn:List Stmt}{i iy:Nat}
end
end L2
namespace L2
open PySem PySem.Spec PyProof.Rows
theorem F8 {P:List Value->Prop}(h:∀ a0:Value,P [a0]):∀ us:List Value,us.length=1->P us:=fun us hl=>match us,hl with|[a0],_=>h a0
theorem Bg {P:List Value->Prop}(h:∀ a0 a1:Value,P [a0,a1]):∀ us:List Value,us.length=2->P us:=fun us hl=>match us,hl with|[a0,a1],_=>h a0 a1
theorem F9 {P:List Value->Prop}(h:∀ a0 a1 a2:Value,P [a0,a1,a2]):∀ us:List Value,us.length=3->P us:=fun us hl=>match us,hl with|[a0,a1,a2],_=>h a0 a1 a2
theorem JS {P:List Value->Prop}(h:∀ a0 a1 a2 a3:Value,P [a0,a1,a2,a3]):∀ us:List Value,us.length=4->P us:=fun us hl=>match us,hl with|[a0,a1,a2,a3],_=>h a0 a1 a2 a3
def CU (x:Str)(st:Stmt)(ps:List Str):Prop:=∀ (kV doc pm:Value) (an:Option Addr) (aZ ct:Value) (us:List Value),us.length=ps.length->bindArgs (W.fnOf x x (fM st) (aP st) (ar st) .none kV doc pm an aZ ct) ⟨us,[]⟩=pure (ps.zip us)
inductive Fn (K:W.Frag)(mg:Str->Option Value)(x:Str)(st:Stmt):Prop
 | mk:∀ (f:Addr) (fd:FuncData),zF K x x st f fd->mg x=some (.ref f)->Fn K mg x st
section
variable {P:Program}{w:World}{K:W.Frag}{mg:Str->Option Value}{base:Heap}{x:Str}{st:Stmt}{N ps:List Str}{k:Nat}{sp:Sp}
theorem V0 {h:Heap}{f:Addr}{oc:Value}{od an:Option Addr}{pF:Array (Option Value)}{kV doc pm aZ ct:Value}(X:K.In h)(G:h.Ns mainGlobals mg)(a:W.nsIn K mainGlobals x=some (some (.ref f)))
  (l:K.lookup f=some ⟨oc,od,.func (W.fnOf x x (fM st) (aP st) (ar st) .none kV doc pm an aZ ct),pF⟩) (c:W.codeIn K aZ x=true) (k:W.keepIn K (.ref f)=true):Fn K mg x st:=⟨f,_,xQ l c k,adA X G a⟩
theorem Fn.ok (F:Fn K mg x st)(S:ay N ps (ar st))
  (eF:∀ (f:Addr) (aZ:Value) (A:Around) (outer:List Env) (s:Shared) (H:Hp) (vs:List V) (Q:VK) (E:XK),dt k (A.deeper (envOfC x (ar st) s.heap.objs.size f aZ))->sp vs H Q E ->
   ∃ t,kL (cR aU P w K mg base N x (ar st) f aZ A outer s H E).vt (aP st) t/\t { nx:=fun _ H'=>Q .eB H',rt:=Q } (start N vs) H) (len:∀ vs H Q E,sp vs H Q E->vs.length=ps.length:=by (intro vs H Q E h;cases h;subst_vars;rfl)) (B:CU x st ps:=by first|exact fun _ _ _ _ _ _=>F8 fun _=>rfl|exact fun _ _ _ _ _ _=>Bg fun _ _=>rfl|exact fun _ _ _ _ _ _=>F9 fun _ _ _=>rfl|exact fun _ _ _ _ _ _=>Na rfl|exact fun _ _ _ _ _ _=>JS fun _ _ _ _=>rfl|exact fun _ _ _ _ _ _=>Nb fun _ _ _ _ _=>rfl):aV P w K mg base aU (k+1) x ps sp:=by
 obtain⟨f,fd,F,m⟩:=F
 exact⟨f,fd,F.ok S len (eF f),F.binds B,F.kp,m⟩
theorem Fn.Q3 (F:Fn K mg x st)(S:ay N ps (ar st))
  (eF:∀ (f:Addr) (aZ:Value) (A:Around) (outer:List Env) (s:Shared) (H:Hp) (vs:List V) (Q:VK) (E:XK),dt k (A.deeper (envOfC x (ar st) s.heap.objs.size f aZ))->sp vs H Q E ->
   ∃ t,kL (cR (XF P w) P w K mg base N x (ar st) f aZ A outer s H E) (aP st) t/\t { nx:=fun _ H'=>Q .eB H',rt:=Q } (start N vs) H) (len:∀ vs H Q E,sp vs H Q E->vs.length=ps.length:=by (intro vs H Q E h;cases h;subst_vars;rfl)) (B:CU x st ps:=by first|exact fun _ _ _ _ _ _=>F8 fun _=>rfl|exact fun _ _ _ _ _ _=>Bg fun _ _=>rfl|exact fun _ _ _ _ _ _=>F9 fun _ _ _=>rfl|exact fun _ _ _ _ _ _=>Na rfl|exact fun _ _ _ _ _ _=>JS fun _ _ _ _=>rfl|exact fun _ _ _ _ _ _=>Nb fun _ _ _ _ _=>rfl):aV P w K mg base (XF P w) (k+1) x ps sp:=by
 obtain⟨f,fd,F,m⟩:=F
 exact⟨f,fd,F.Q3 S len (eF f),F.binds B,F.kp,m⟩
theorem Fn.LJ (F:Fn K mg x st)(S:ay N ps (ar st))
  (eF:∀ (f:Addr) (aZ:Value) (A:Around) (outer:List Env) (s:Shared) (H:Hp) (fz:List (Addr × Obj × HO)) (vs:List V) (Q:VK) (E:XK),iU k (A.deeper (envOfC x (ar st) s.heap.objs.size f aZ))->sp vs H Q E ->
   ∃ t,kL (LI P w K mg base N x (ar st) f aZ A outer s H fz) (aP st) t/\t { nx:=fun _ H'=>Q .eB H',rt:=Q } (start N vs) H) (len:∀ vs H Q E,sp vs H Q E->vs.length=ps.length:=by (intro vs H Q E h;cases h;subst_vars;rfl)) (B:CU x st ps:=by first|exact fun _ _ _ _ _ _=>F8 fun _=>rfl|exact fun _ _ _ _ _ _=>Bg fun _ _=>rfl|exact fun _ _ _ _ _ _=>F9 fun _ _ _=>rfl|exact fun _ _ _ _ _ _=>Na rfl|exact fun _ _ _ _ _ _=>JS fun _ _ _ _=>rfl|exact fun _ _ _ _ _ _=>Nb fun _ _ _ _ _=>rfl):qh P w K mg base (k+1) x ps sp:=by
 obtain⟨f,fd,F,m⟩:=F
 exact⟨f,fd,F.LJ S len (eF f),F.binds B,F.kp,m⟩
end
section
variable {X:Cx}{CX:sj}{k n:Nat}{x:Str}{ps:List Str}{sp:Sp}{e:Expr}{es:List Expr}{t:TA}{E:XK}{p pos:Pos}
theorem aj (F:aV X.prog X.w X.K X.mg X.base CX k x ps sp)(hr:dt n X.A)(hx:Passes CX X E)(ha:PA X (e::es) t)(le:k<=n:=by decide)(hg:Gl X x:=by rfl)
  (oj:(x==("__debug__":Str))=false:=by decide) (he:starEach (e::es) X.env=(false,eval e X.env)::starEach es X.env:=by rfl) (ir:(backTo pos (starEach es X.env)).any (·.1)=false:=by rfl) :
  PE X (.Call (.Name x p) (e::es) [] pos) (zu sp [] E t):=by
 obtain⟨f,fd,G,b,kk,m⟩:=F
 exact FP G (hr.mono le) hg m kk b .nil hx ha oj he ir
theorem kv (F:qh X.prog X.w X.K X.mg X.base k x ps sp)(hr:iU n X.A)(ha:PA X (e::es) t)(hc:X.cb=true:=by rfl)(le:k<=n:=by decide)(hg:Gl X x:=by rfl)
  (oj:(x==("__debug__":Str))=false:=by decide) (he:starEach (e::es) X.env=(false,eval e X.env)::starEach es X.env:=by rfl) (ir:(backTo pos (starEach es X.env)).any (·.1)=false:=by rfl) :
  PE X (.Call (.Name x p) (e::es) [] pos) (zu sp [] E0 t):=by
 obtain⟨f,fd,G,b,kk,m⟩:=F
 exact CO G (hr.mono le) hc hg m kk b .nil ha oj he ir
theorem aW {r:R2}{a b:Expr}{ta tb:TE}(hr:AW X r)(ha:PE X a ta)(hb:PE X b tb)(hs:zA b:=by exact fun _ _=>rfl):PE X (.Subscript a b pos) (Mx r ta tb):=MD hr ha hb hs
theorem bH {i:Nat}{x:Str}{e:Expr}{te:TE}{pos':Pos}(hN:X.N.Nodup)(he:PE X e te)(hi:X.N[i]?=some x:=by rfl)(hx:Loc X.env.scope x:=by first|exact Or.inl rfl|exact Or.inr rfl)(hs:swapsWith e (some (.Name x pos')) pos.line X.env=pure false:=by rfl)
  (hf:X.fn x=true\/X.env.scope.names.lookup x=some .local:=by first|exact .inl rfl|exact .inr rfl):PS X (.Assign [.Name x pos'] e pos) (Jl te (pW i)):=Jm hN hi hx he hs hf
theorem sM {i:Nat}{x:Str}(hN:X.N.Nodup)(hi:X.N[i]?=some x:=by rfl)(hx:Loc X.env.scope x:=by first|exact Or.inl rfl|exact Or.inr rfl)(hf:X.fn x=true\/X.env.scope.names.lookup x=some .local:=by first|exact .inl rfl|exact .inr rfl):PG X (.Name x pos) (pW i):=pE hN hi hx hf
end
theorem cw (K:W.Frag){X:Cx}(e:X.K=K:=by rfl):AW X (FW K):=e▸CA
theorem gi (K:W.Frag){X:Cx}(e:X.K=K:=by rfl):AW X (FV K):=e▸zB
theorem LS (K:W.Frag){X:Cx}(e:X.K=K:=by rfl):AW X (QU K):=e▸JC
theorem HN (K:W.Frag){X:Cx}{tg l:Expr}{tl:TE}(hl:PE X l tl)(e:X.K=K:=by rfl):PI X tg l (Mv K tl):=e▸Jo hl
theorem Bh (K:W.Frag){X:Cx}{tg l:Expr}{tl:TE}(hl:PE X l tl)(e:X.K=K:=by rfl):PI X tg l (HD K tl):=e▸FI hl
theorem Px (K:W.Frag){X:Cx}{es:List Expr}{k n:Nat}{t:FG}{pos:Pos}(h:LD X es t)(e:X.K=K:=by rfl)(hc:X.cb=true:=by rfl)(hn:(assignEach es X.env).length=n:=by rfl)(mE:(assignEach es X.env).findIdx? (·.1)=none:=by rfl):PG X (.Tuple es k pos) (FH K n t):=e▸Co hc h hn mE
theorem ay.of {N P:List Str}{sc:Scope}(h1:sc.kind=.function:=by rfl)(h2:sc.isCoroutine=false:=by rfl)(h3:sc.isGenerator=false:=by rfl)(h4:N.Nodup:=by decide +kernel)(h5:N.take P.length=P:=by rfl)
  (h6:∀ x∈P,sc.names.lookup x=some .local\/sc.names.lookup x=some .cell:=by decide +kernel) (h7:∀ y∈sc.names,y.2≠.free:=by decide +kernel):ay N P sc:=⟨h1,h2,h3,h4,h5,h6,h7⟩
theorem d6 (n:Nat)(h:n<=1000:=by decide):n<=sizeLine:=ZV h (by decide)
theorem HP (n:Nat)(h:n<=1000:=by decide):n<sizeLine:=abh h (by decide)
def ow (X:Cx)(N:List Str)(scope:Scope)(cl:List (Str × Addr))(C:Addr)(s0:Shared)(H0:Hp)(fp:List Addr)(pins:List (Addr × Obj)):Cx:=
 { X with N:=N,s₀:=s0,H₀:=H0,env:=compEnvC scope cl C X.env,outer:=X.stack,ex:=fp,fn:=fun _=>false,pn:=X.pn++pins,xe:=fun _ _=>False }
structure aM (X:Cx)(N:List Str)(fr:List Nat)(x:Str)(scope:Scope)(cl:List (Str × Addr)):Prop where
 kind:scope.kind=.function
 gj:∀ y∈scope.names,y.2≠.cell
 loc:∀ y∈scope.names,y.2=.local->scope.names.lookup y.1=some .local
 own:scope.names.lookup x=some .local
 jA:closureFor scope X.env=pure cl
 sub:∀ y c,cl.lookup y=some c->X.env.cells.lookup y=some c
 has:∀ y,((relabel scope X.env).names.lookup y=some .cell\/(relabel scope X.env).names.lookup y=some .free)->∃ c,cl.lookup y=some c
 nd:N.Nodup
 hN:N[0]?=some x
 len:N.length=fr.length+1
 tY:∀ (j:Nat) (y:Str),N[j+1]?=some y->(relabel scope X.env).names.lookup y≠some .local
 out:∀ (j k:Nat),fr[j]?=some k->∃ y,N[j+1]?=some y/\X.N[k]?=some y/\X.env.kindOf y=some .cell
def d9 (σ:St)(fr:List Nat)(v:Option V):St:=v::fr.map fun k=>(σ[k]?).join
def Nc (wi:TI)(fr:List Nat)(te:TE):TE:=fun σ H Q=>wi σ H fun J H1=>∀ acc,H1 acc=none->∃ W:Nat->Nat->Hp->List V->Prop,(∃ m,W 0 m (upd H1 acc (.lst [])) []) /\
 ∀ i m H' vs,W i m H' vs->H' acc=some (.lst vs)/\((J.stop i H'/\Q (.ref acc) H')\/(J.go i H'/\vs.length<sizeLine/\∀ x H2,J.zm i H' x H2->te (d9 σ fr (some x)) H2 fun y H3=>H3 acc=some (.lst vs)/\∃ m',m'<m/\W (i+1) m' (upd H3 acc (.lst (vs++[y]))) (vs++[y])))
def tZ (wi:TI)(fr:List Nat)(tc:TT)(te:TE):TE:=fun σ H Q=>wi σ H fun J H1=>∀ acc,H1 acc=none->∃ W:Nat->Nat->Hp->List V->Prop,(∃ m,W 0 m (upd H1 acc (.lst [])) []) /\
 ∀ i m H' vs,W i m H' vs->H' acc=some (.lst vs)/\((J.stop i H'/\Q (.ref acc) H')\/(J.go i H'/\vs.length<sizeLine/\∀ x H2,J.zm i H' x H2->tc (d9 σ fr (some x)) H2 fun b H3=>
  if b=true then te (d9 σ fr (some x)) H3 fun y H4=>H4 acc=some (.lst vs)/\∃ m',m'<m/\W (i+1) m' (upd H4 acc (.lst (vs++[y]))) (vs++[y]) else ∃ m',m'<m/\W (i+1) m' H3 vs))
section
variable {X:Cx}{N:List Str}{fr:List Nat}{x:Str}{scope:Scope}{cl:List (Str × Addr)}{elt iter:Expr}{px pos:Pos}{wi:TI}{te:TE}
theorem JT {pins:List (Addr × Obj)}{σ:St}{H:Hp}{s:Shared}{fp:List Addr}{C:Addr}(S:aM X N fr x scope cl)(I:Inv X pins σ H s)(hf:∀ b∈fp,kI X pins H b)(hC:s.heap.objs.size<=C)(t5:∀ b∈fp,b<s.heap.objs.size):(ow X N scope cl C s H fp pins).Ok where
 mod:=I.ok.mod
 kind:=S.kind
 glob:=I.ok.glob
 blt:=I.ok.blt
 above:=hC
 inj:=fun y z c h1 h2=>I.ok.inj y z c (S.sub _ _ h1) (S.sub _ _ h2)
 has:=fun y h=>S.has y h
 Fo:=fun y c h=>by cases h
 hd:=I.ok.hd
 hs:=I.ok.hs
 frames:=I.ok.frames
 FF:=.inl rfl
 Jf:=fun b hb=>⟨ZP (ZM (t5 b hb) hC),fun y c h=>(hf b hb).2.2.2.2.1 y c (S.sub _ _ h)⟩
 bs:=fun b o e=>I.bs b o e
 vn:=ZV I.ok.vn I.sz
 pT:=fun b o e hb=>by
  rcases (hf b hb).2.2.2.1 with z|z
  ·exact I.ok.pT b o e z
  ·exact absurd (ZM (ZH e) (ZV I.ok.vn z)) (aaT _)
 tF:=fun b hb z=>by
  rcases ZI.mp (I.f7 b z) with e|e
  ·exact (hf b hb).2.1 e
  ·exact (hf b hb).2.2.1 e
 jy:=I.stack
 pU:=I.kj
theorem Bi {pins:List (Addr × Obj)}{σ:St}{H:Hp}{s s4:Shared}{fp:List Addr}{C:Addr}{m:Str->Option Value}(S:aM X N fr x scope cl)(I:Inv X pins σ H s)(hf:∀ b∈fp,kI X pins H b)(hC:s.heap.objs.size<=C)(t5:∀ b∈fp,b<s.heap.objs.size)
  (hn:s4.heap.Ns C m) (hk:∀ b o,s.heap.get? b=some o->s4.heap.get? b=some o) (ho:s4.os=s.os) (hg:s4.gens=s.gens):Inv (ow X N scope cl C s H fp pins) [] (d9 σ fr none) H s4:=by
 obtain⟨m0,Ur,hl⟩:=id I.loc
 refine⟨JT S I hf hC t5,I.vq,ho,by rw[hg];exact I.bare,Un.kept hk,⟨m,hn,fun i y v e1 e2 e3=>?_⟩,fun y c h=>?_,I.bh.fresh hC,fun y c h=>I.eW y c (S.sub _ _ h),fun p hp=>?_,I.bh.kept hk,?_⟩
 ·cases i with
  | zero=>cases e2
  | succ j=>
   have t6:(fr.map fun k=>(σ[k]?).join)[j]?=some (some v):=e2
   rw[ZU] at t6
   cases ek:fr[j]? with
   | none=>rw[ek] at t6;cases t6
   | some k=>
    rw[ek] at t6
    have e4:(σ[k]?).join=some v:=ZG t6
    obtain⟨y',h1,h2,h3⟩:=S.out j k ek
    have Fu:N[j+1]?=some y:=e1
    obtain rfl:y'=y:=ZG (h1.symm.trans Fu)
    have e5:σ[k]?=some (some v):=by
     cases q:σ[k]? with
     | none=>rw[q] at e4;cases e4
     | some w=>rw[q] at e4;exact aai some e4
    obtain⟨u,r,lk⟩:=hl k y' v h2 e5 (.inr (.inl h3))
    refine⟨u,r,.inr ?_⟩
    rcases lk with ⟨z,_⟩|⟨_,c,hc,oh⟩
    ·rw[h3] at z;cases z
    ·have e6:Ml (relabel scope X.env) y':=e3
     have Nd:(relabel scope X.env).names.lookup y'=some .cell\/(relabel scope X.env).names.lookup y'=some .free:=by
      rcases e6 with e6|e6|e6
      ·exfalso
       have nd:=S.nd
       -- a name of Ca Ga own is Ca first one
       exact S.tY _ _ h1 e6
      ·exact .inl e6
      ·exact .inr e6
     obtain⟨c2,HQ⟩:=S.has y' Nd
     have:=S.sub _ _ HQ
     rw[hc] at this;cases this
     obtain⟨o,z1,z2⟩:=oh
     exact⟨Nd,c,HQ,o,hk _ _ z1,z2⟩
 ·obtain⟨v,o,z1,z2⟩:=I.cell y c (S.sub _ _ h)
  exact⟨v,o,hk _ _ z1,z2⟩
 ·rw[aa6] at hp
  obtain⟨e,k,ne,nf,d⟩:=I.pin p hp
  refine⟨hk _ _ e,k,ZP (ZM (ZH e) hC),fun z=>?_,d⟩
  rcases ZI.mp (I.f7 _ z) with q|q
  ·exact ne q
  ·exact nf q
 ·show (d9 σ fr none).length=N.length
  rw[S.len]
  simp[d9]
theorem zP {pins:List (Addr × Obj)}{σ σ':St}{H H':Hp}{s s':Shared}{fp:List Addr}{C:Addr}{h':Heap}(I:Inv X pins σ H s)(hf:∀ b∈fp,kI X pins H b)(hC:s.heap.objs.size<=C)(J:Inv (ow X N scope cl C s H fp pins) [] σ' H' s')(hs:Heap.SameBut C s'.heap h') :
  Inv X pins σ H' { s' with heap:=h' }:=by
 have ne:∀ b o,s.heap.get? b=some o->b≠C:=fun b o e=>ZP (ZM (ZH e) hC)
 have u:Un (eM X.stack) fp H H' s.heap s'.heap:=J.base
 have u2:Un (eM X.stack) fp H H' s.heap h':=⟨fun b o e n hb hx=>(hs.2 b (ne b o e)).trans (u.keep b o e n hb hx),fun b o e n hb hx=>(by
   obtain⟨sl,q⟩:=u.slot b o e n hb hx
   exact⟨sl,(hs.2 b (ne b o e)).trans q⟩),u.free,fun b o e hx=>(by
   obtain⟨o',q⟩:=u.there b o e hx
   exact⟨o',(hs.2 b (ne b o e)).trans q⟩),u.je,u.iF,u.jf⟩
 have nC:H' C=none:=J.free
 refine I.og (s':={ s' with heap:=h' }) (ch:=fp) J.os u2 (J.bh.eZ fun b o hb q=>(hs.2 b fun z=>hb (z▸nC)).trans q) J.bare fun b hb=>?_
 obtain⟨_,f2,_,f4,f5,f6⟩:=hf b hb
 exact⟨f4,f2,f5,f6⟩
def LU (X:Cx)(ifs:List Expr)(t:TT):Prop:=
 ∀ (pins:List (Addr × Obj)) (s:Shared) (σ:St) (H:Hp) (Q:Bool->Hp->Prop),Inv X pins σ H s->t σ H Q->wpAny (model X.prog X.w) X.A (forIn ifs true fun c r=>if r=true then do let ok <- PySem.isTrue c X.env (eval c X.env);pure (ForInStep.yield ok) else pure (ForInStep.yield r)) (TP X pins σ Q) X.xe s
theorem t7 {X:Cx}{c:Expr}{t:TT}(h:PT X c t):LU X [c] t:=fun pins s σ H Q I q=>wpAny_tests_one (h pins s σ H Q I q)
theorem zQ {X:Cx}:LU X [] (fun _ H Q=>Q true H):=fun pins s σ H Q I q=>by
 show wpAny _ _ (pure true) _ _ _
 exact ZF ⟨H,I,q⟩
theorem mW {ifs:List Expr}{tc:TT}{use:Option (Value->Sem Unit)}{R:Value->Shared->Prop}{Q:VK}{pins:List (Addr × Obj)}{s:Shared}{σ:St}{H:Hp}{ep:Pos}(hc:X.cb=true)(S:aM X N fr x scope cl)(hi:PI X (.Name x px) iter wi)
  (ht:∀ (C:Addr) (s0:Shared) (H0:Hp) (fp:List Addr) (pins:List (Addr × Obj)),LU (ow X N scope cl C s0 H0 fp pins) ifs tc) (he:∀ (C:Addr) (s0:Shared) (H0:Hp) (fp:List Addr) (pins:List (Addr × Obj)),PE (ow X N scope cl C s0 H0 fp pins) elt te)
  (hs:∀ y,foldedSetIterable iter X.env y=pure y) (I:Inv X pins σ H s) (h:tZ wi fr tc te σ H Q)
  (fin:∀ (acc C:Addr) (m:Str->Option Value) (H6:Hp) (s7:Shared),Q (.ref acc) H6->s7.heap.Ns C m->(∀ h':Heap,Heap.SameBut C s7.heap h'->Inv X pins σ H6 { s7 with heap:=h' })->H6 C=none->X.env.locals≠C->(∀ z c,X.env.cells.lookup z=some c->c≠C)->(∀ p∈X.pn++pins,p.1≠C)->X.s₀.heap.objs.size<=C->compPost (model X.prog X.w) X.A X.xe use R (.ref acc) C (.ok .next) s7) :
  wpAny (model X.prog X.w) X.A (comprehension (.ListComp elt [⟨.Name x px,iter,ifs,0⟩] scope pos) scope X.env ep (newList []) false (eval iter X.env) use) R X.xe s:=by
 refine wpAny_comprehension_free (use:=use) rfl hs S.jA S.kind S.loc (eD (hi pins s σ H _ I h) fun v s1 h1=>eD h1 fun Pj s2 h2=>?_)
 obtain⟨it,fp,tn,J,H2,e,I2,T,FJ,f2,hW⟩:=h2
 subst e
 have t5:∀ b∈fp,b<s2.heap.objs.size:=fun b hb=>by
  obtain⟨o,q,_⟩:=T.obj _ _ FJ b hb
  exact ZH q
 have JU:H2 s2.heap.objs.size=none:=I2.bh.fresh (ZL _)
 refine aa0 ?_
 have vQ:∀ b o,s2.heap.get? b=some o->(s2.heap.push { cls:=.type "list",dict:=none,data:=.seq ([]:List Value).toArray }).get? b=some o:=fun b o q=>ZE _ q
 have I3:Inv X pins σ (upd H2 s2.heap.objs.size (.lst [])) { s2 with heap:=s2.heap.push { cls:=.type "list",dict:=none,data:=.seq ([]:List Value).toArray } }:=
  I2.laid (t':=s2.toks) vQ (ZL _) ⟨aaH _,[],0,.nil,ZN _ rfl⟩
 obtain⟨W,⟨m0,w0⟩,turn⟩:=hW s2.heap.objs.size JU
 have f3:∀ b∈fp,kI X pins (upd H2 s2.heap.objs.size (.lst [])) b:=fun b hb=>⟨by rw[aG (ZP (t5 b hb))];exact (f2 b hb).1,(f2 b hb).2⟩
 refine adE S.gj (by intro y hy;simp at hy) (fun h4 HR LV=>?_) S.kind
 have CV:∀ b∈fp,b<(s2.heap.push { cls:=.type "list",dict:=none,data:=.seq ([]:List Value).toArray }).objs.size:=fun b hb=>by
  rw[aal]
  exact aaL (t5 b hb)
 have vR:∀ b o,(s2.heap.push { cls:=.type "list",dict:=none,data:=.seq ([]:List Value).toArray }).get? b=some o->h4.get? b=some o:=fun b o q=>
  (LV.2 b (ZP (ZH q))).trans (ZE _ q)
 have I4:Inv (ow X N scope cl (s2.heap.push { cls:=.type "list",dict:=none,data:=.seq ([]:List Value).toArray }).objs.size { s2 with heap:=s2.heap.push { cls:=.type "list",dict:=none,data:=.seq ([]:List Value).toArray } } (upd H2 s2.heap.objs.size (.lst [])) fp pins) [] (d9 σ fr none) (upd H2 s2.heap.objs.size (.lst []))
   { s2 with heap:=h4,toks:=s2.toks+([]:List (Str × Value)).length }:=Bi S I3 f3 (ZL _) CV HR vR rfl rfl
 have Gb:tn 0 h4:=T.keep _ _ _ FJ fun b hb o q=>vR b o (vQ b o q)
 generalize hY:ow X N scope cl (s2.heap.push { cls:=.type "list",dict:=none,data:=.seq ([]:List Value).toArray }).objs.size { s2 with heap:=s2.heap.push { cls:=.type "list",dict:=none,data:=.seq ([]:List Value).toArray } } (upd H2 s2.heap.objs.size (.lst [])) fp pins=Y at I4
 have xu:PE Y elt te:=hY▸he _ _ _ _ _
 have JV:LU Y ifs tc:=hY▸ht _ _ _ _ _
 have eA:Y.A=X.A:=by rw[<- hY];rfl
 have eP:Y.prog=X.prog:=by rw[<- hY];rfl
 have ew:Y.w=X.w:=by rw[<- hY];rfl
 have eK:Y.K=X.K:=by rw[<- hY];rfl
 have eC:Y.cb=true:=by rw[<- hY];exact hc
 have eE:Y.env=compEnvC scope cl (s2.heap.push { cls:=.type "list",dict:=none,data:=.seq ([]:List Value).toArray }).objs.size X.env:=by rw[<- hY];rfl
 have eX:Y.xe=fun _ _=>False:=by rw[<- hY];rfl
 have hg:PG Y (.Name x px) (pW 0):=by
  subst hY
  exact pE (i:=0) S.nd S.hN (.inl (abG S.own)) (.inr (abG S.own))
 have fY:∀ {H':Hp},(∀ b∈fp,H' b=none)->∀ b∈fp,kI Y [] H' b:=fun {H'} hn b hb=>by
  subst hY
  obtain⟨_,g2,g3,g4,g5,g6⟩:=f3 b hb
  refine⟨hn b hb,ZP (CV b hb),fun z=>?_,.inl hb,fun y c q=>g5 y c (S.sub _ _ q),fun p hp=>?_⟩
  ·rcases ZI.mp (I3.f7 b z) with q|q
   ·exact g2 q
   ·exact g3 q
  ·rw[aa6] at hp
   exact g6 p hp
 have loop:∀ s5:Shared,s5={ s2 with heap:=h4,toks:=s2.toks+([]:List (Str × Value)).length } ->
   codeAny (model X.prog X.w) X.A (.compLoop (.ListComp elt [⟨.Name x px,iter,ifs,0⟩] scope pos) 0 (.ref it) (.ref s2.heap.objs.size) (compEnvC scope cl (s2.heap.push { cls:=.type "list",dict:=none,data:=.seq ([]:List Value).toArray }).objs.size X.env))
    (compPost (model X.prog X.w) X.A X.xe use R (.ref s2.heap.objs.size) (s2.heap.push { cls:=.type "list",dict:=none,data:=.seq ([]:List Value).toArray }).objs.size) s5:=by
  rintro s5 rfl
  refine codeAny_compLoop_tests (fun n s'=>∃ i v H' vs,Inv Y [] (d9 σ fr v) H' s'/\tn i s'.heap/\(∀ b∈fp,H' b=none)/\W i n H' vs) ?_ m0 ⟨0,none,_,[],I4,Gb,fun b hb=>(f3 b hb).1,w0⟩
  rintro n s6 ⟨i,v6,H6,vs,I6,Nf,Ng,w6⟩
  obtain⟨bR,JW⟩:=turn i n H6 vs w6
  rcases JW with ⟨stop,qn⟩|⟨go,hz,step⟩
  ·have hd:=T.done Y eP ew eK eC i [] s6 _ H6 (fun _ _=>False) I6 (fY Ng) Nf stop
   rw[eA] at hd
   refine Z2 hd (fun r s7 ⟨hr,I7⟩=>?_) fun _ _ z=>z.elim
   subst hr
   obtain⟨m,hn,_⟩:=id I7.loc
   rw[eE] at hn
   have mX:∀ h':Heap,Heap.SameBut (s2.heap.push { cls:=.type "list",dict:=none,data:=.seq ([]:List Value).toArray }).objs.size s7.heap h'->Inv X pins σ H6 { s7 with heap:=h' }:=fun h' mI=>by
    subst hY
    exact zP I3 f3 (ZL _) I7 mI
   have cf:H6 (s2.heap.push { cls:=.type "list",dict:=none,data:=.seq ([]:List Value).toArray }).objs.size=none:=by
    subst hY
    exact I7.free
   have big:∀ b o,s2.heap.get? b=some o->b≠(s2.heap.push { cls:=.type "list",dict:=none,data:=.seq ([]:List Value).toArray }).objs.size:=fun b o q=>ZP (by rw[aal];exact aaL (ZH q))
   obtain⟨m2,Nh,_⟩:=id I2.loc
   obtain⟨oL,_,_,AM,_⟩:=id Nh
   exact fin _ _ m H6 s7 qn hn mX cf (big _ _ AM) (fun z c q=>by
    obtain⟨_,o,w1,_⟩:=I2.cell z c q
    exact big _ _ w1) (fun p hp=>by
    obtain⟨e,_⟩:=I2.pin p hp
    exact big _ _ e) (by
    rw[aal]
    exact Nat.le_succ_of_le (ZV (ZL _) I2.sz))
  ·have hd:=T.item Y eP ew eK eC i [] s6 _ H6 (fun _ _=>False) I6 (fY Ng) Nf go
   rw[eA] at hd
   refine Z2 hd (fun r s7 ⟨u,hr,h7⟩=>?_) fun _ _ z=>z.elim
   subst hr
   show wpAny _ _ ((pure ():Sem Unit) >>= fun _=>assign (.Name x px) _ u) _ _ s7
   refine ZD (Z2 h7 (fun _ s8 ⟨y,H8,I8,r8,y8,CW,Ro⟩=>?_) fun _ _ z=>z.elim)
   have Rp:=I8.pinned (fY Ro) (T.obj _ _ CW)
   have h9:=hg _ s8 _ H8 y u (fun σ9 H9=>σ9=d9 σ fr (some y)/\H9=H8) Rp r8 ⟨rfl,rfl⟩
   rw[eA,eP,ew,eE,eX] at h9
   refine Z2 h9 (fun _ s9 ⟨σ9,H9,I9,e9,Rq⟩=>?_) fun _ _ z=>z.elim
   subst e9 Rq
   have CY:=JV _ s9 _ _ _ I9 (step y _ y8)
   rw[eA,eP,ew,eE,eX] at CY
   refine Z2 CY (fun ok Rr ⟨V1,Gd,Ge⟩=>?_) fun _ _ z=>z.elim
   cases ok with
   | false=>
    rw[Z4 ZJ] at Ge
    rw[Z4 ZJ]
    obtain⟨m',hm,JX⟩:=Ge
    refine⟨m',hm,i+1,some y,_,vs,Gd.gX,T.keep _ _ _ CW fun b hb o q=>(Gd.pin (b,o) (ZW _ (ZW _ (cF hb q)))).1,fun b hb=>?_,JX⟩
    obtain⟨o,q,_⟩:=T.obj _ _ CW b hb
    exact (Gd.pin (b,o) (ZW _ (ZW _ (cF hb q)))).2.1
   | true=>
   rw[aag rfl] at Ge
   rw[aag rfl]
   have Ni:=xu _ Rr _ _ _ Gd Ge
   rw[eA,eP,ew,eE,eX] at Ni
   refine Z2 Ni (fun Ru Rv ⟨Gf,Nj,Rw,Rx,Nk,m',hm,JX⟩=>?_) fun _ _ z=>z.elim
   have Nl:=iT _ Rv _ Nj (.ref s2.heap.objs.size) [Gf] (.ref s2.heap.objs.size) [Ru] (fun _ Nm=>Nm=upd Nj s2.heap.objs.size (.lst (vs++[Gf]))) Rw rfl (.cons Rx .nil) ⟨_,vs,Gf,rfl,rfl,Nk,hz,rfl⟩
   rw[eA,eP,ew,eX] at Nl
   refine Z2 Nl (fun _ V2 ⟨_,Nm,JY,_,Ry⟩=>?_) fun _ _ z=>z.elim
   subst Ry
   refine⟨m',hm,i+1,some y,_,vs++[Gf],JY.gX,T.keep _ _ _ CW fun b hb o q=>(JY.pin (b,o) (ZW _ (ZW _ (cF hb q)))).1,fun b hb=>?_,JX⟩
   obtain⟨o,q,_⟩:=T.obj _ _ CW b hb
   exact (JY.pin (b,o) (ZW _ (ZW _ (cF hb q)))).2.1
 exact codeAny_compStart_list (loop _ rfl) (T.self _ 0 _ _ _ Gb (loop _ rfl))
theorem Gg (hc:X.cb=true)(S:aM X N fr x scope cl)(hi:PI X (.Name x px) iter wi)(he:∀ (C:Addr) (s0:Shared) (H0:Hp) (fp:List Addr) (pins:List (Addr × Obj)),PE (ow X N scope cl C s0 H0 fp pins) elt te)
  (hs:∀ y,foldedSetIterable iter X.env y=pure y:=by intro _;rfl):PE X (.ListComp elt [⟨.Name x px,iter,[],0⟩] scope pos) (Nc wi fr te):=by
 intro pins s σ H Q I h
 rw[adO]
 exact mW (tc:=fun _ H Q=>Q true H) (use:=none) hc S hi (fun _ _ _ _ _=>zQ) he hs I h fun acc C m H6 s7 qn hn mX _ _ _ _ _=>⟨m,hn,fun h' mI=>⟨.ref acc,H6,mX h' mI,rfl,qn⟩⟩
end
theorem lX {X:Cx}(hc:X.cb=true):gI X (.builtin "all") (fun xs H Q=>∃ (l:Addr) (bs:List Bool),xs=[.ref l]/\H l=some (.lst (bs.map V.bl))/\Q (.bl (bs.all id)) H):=by
 intro pins s σ H xs us Q I rv h
 obtain⟨l,bs,rfl,hH,q⟩:=h
 obtain⟨u,rfl,ru⟩:=rv.one
 cases ru
 obtain⟨z,aH,n,r,hl,e⟩:=I.rR hH
 have fZ:l<s.heap.objs.size:=ZH e
 refine call_all_walk (abq (A:=X.A.in1) ⟨_,e,rfl,n,rfl⟩ ?_)
 obtain⟨fp,st,W,LW,_⟩:=jG (P:=X.prog) (w:=X.w) (I.Hv hc).in1 s.heap.objs.size l (ZP fZ) (I.LA hc (I.bh.fresh (ZL _))) aH.toArray
 refine⟨s.heap.objs.size,_,_,_,_,_,fun i=>bs.getD i true,rfl,W,LW _ ⟨_,ZN _ rfl,rfl,rfl⟩ ⟨_,ZE _ e,rfl,n,rfl⟩ (fun b o x=>ZE _ x),?_,?_⟩
 ·intro i v s' Q' E' hP hQ
  have hv:aH[i]?=some v:=by simpa using hP
  obtain⟨b,hb,rfl⟩:∃ b,bs[i]?=some b/\v=Value.bool b:=by
   cases Rz:bs[i]? with
   | none=>
    have h1:=r.none_of (i:=i) (by rw[ZU,Rz];rfl)
    rw[h1] at hv;cases hv
   | some b=>
    obtain⟨u',h1,h2⟩:=r.get (i:=i) (x:=.bl b) (by rw[ZU,Rz];rfl)
    rw[h1] at hv;cases hv
    exact⟨b,rfl,h2⟩
  have Us:Q' (bs.getD i true) s':=hQ
  rw[aad,hb] at Us
  exact aca Us
 ·intro h' tk hk
  have e2:((List.range aH.toArray.size).all fun i=>bs.getD i true)=bs.all id:=by
   have hlen:aH.toArray.size=bs.length:=by
    rw[ZQ,<- r.length,ZR]
   rw[hlen]
   rw[abV,ab9,ab9]
   constructor
   ·intro hA b hb
    obtain⟨i,hi,e⟩:=aaU hb
    have:=hA i (abN.mpr hi)
    rw[aad,ZK hi,e] at this
    exact this
   ·intro hA i hi
    have Cb:=abN.mp hi
    rw[aad,ZK Cb]
    exact hA _ (abl Cb)
  rw[e2]
  refine⟨.bl (bs.all id),H,?_,rfl,q⟩
  exact I.kept (h':=h') (t':=tk) fun b o q'=>hk b o (fun zz=>by
   have:b=s.heap.objs.size:=by simpa using zz
   subst this
   exact absurd (ZH q') (aaT _)) (ZE _ q')
section
variable {κ:Type} [DecidableEq κ]
end
section
variable {P:Program}{w:World}{H:Hp}{h:Heap}{a:Addr}
end
section
variable {X:Cx}{pins:List (Addr × Obj)}{σ:St}{H:Hp}{s:Shared}{a:Addr}{y v:V}{u r:Value}{o:Option V}{A:Around}{E:Value->Shared->Prop}
end
section
variable {X:Cx}{pins:List (Addr × Obj)}{σ:St}{H:Hp}{s:Shared}{a:Addr}{mC:List (Key × V)}{k:Key}{u:Value}{A:Around}{E:Value->Shared->Prop}
end
section
variable {X:Cx}{o i e value:Expr}{pos pos' QO:Pos}{td ty tv:TE}
end
section
variable {X:Cx}{pos:Pos}
end
section
variable {X:Cx}{pins:List (Addr × Obj)}{σ:St}{H:Hp}{s:Shared}{a:Addr}{y d:V}{u r:Value}{o:Option V}{A:Around}{E:Value->Shared->Prop}
end
section
variable {X:Cx}{o e f:Expr}{apos gL:Pos}{td ty tx:TE}
end
section
variable {X:Cx}{pins:List (Addr × Obj)}{σ:St}{H:Hp}{s:Shared}{a:Addr}{y:V}{u:Value}{A:Around}{E:Value->Shared->Prop}
end
section
variable {P:Program}{w:World}{K:W.Frag}{mg:Str->Option Value}{base:Heap}
end
section
variable {X:Cx}
end
section
variable {κ:Type} [DecidableEq κ]
end
theorem oA:∀ {us:List Value}{ns:List Int},IntsAre us ns->Vals (ns.map V.int) us
 | _,_,.nil=>.nil
 | _,_,.cons a t r=>.cons ⟨t,rfl⟩ (oA r)
section
variable {X:Cx}{N:List Str}{fr:List Nat}{x:Str}{scope:Scope}{cl:List (Str × Addr)}{elt iter:Expr}{px pos:Pos}{wi:TI}{te:TE}
theorem Bj {vS:Expr}{tc:TT}(hc:X.cb=true)(S:aM X N fr x scope cl)(hi:PI X (.Name x px) iter wi)(ht:∀ (C:Addr) (s0:Shared) (H0:Hp) (fp:List Addr) (pins:List (Addr × Obj)),PT (ow X N scope cl C s0 H0 fp pins) vS tc)(he:∀ (C:Addr) (s0:Shared) (H0:Hp) (fp:List Addr) (pins:List (Addr × Obj)),PE (ow X N scope cl C s0 H0 fp pins) elt te)
  (hs:∀ y,foldedSetIterable iter X.env y=pure y:=by intro _;rfl):PE X (.ListComp elt [⟨.Name x px,iter,[vS],0⟩] scope pos) (tZ wi fr tc te):=by
 intro pins s σ H Q I h
 rw[adO]
 exact mW (use:=none) hc S hi (fun _ _ _ _ _=>t7 (ht _ _ _ _ _)) he hs I h fun acc C m H6 s7 qn hn mX _ _ _ _ _=>⟨m,hn,fun h' mI=>⟨.ref acc,H6,mX h' mI,rfl,qn⟩⟩
end
theorem kY (h:Heap):∀ {ns:List Int}{us:List Value},Vals (ns.map V.int) us->ReadsAll h us (ns.map PyData.int) []
 | [],_,.nil=>.nil
 | n::r,_,.cons q t=>by
  obtain⟨k,rfl⟩:=q
  exact ReadsAll.cons (as:=[]) (bs:=[]) (.int n k) (kY h t)
theorem lay_ints:∀ ns:List Int,PyData.canLay0 (.list (ns.map PyData.int))=true/\PyData.depthAll (ns.map PyData.int)<=1
 | []=>⟨rfl,by simp[PyData.depthAll]⟩
 | n::r=>by
  obtain⟨a,b⟩:=lay_ints r
  constructor
  ·simp only[PyData.canLay0,ab0] at a ⊢
   simp_all [PyData.canLay0,PyData.canLayAll0]
  ·simp only[ab0,PyData.depthAll,PyData.depth]
   omega
theorem vT {X:Cx}(hu:X.A.units+64<cLine):oi X (compareOp .NotEq) (fun x y H Q=>∃ (p p':Addr) (ns:List Int),x=.ref p/\y=.ref p'/\H p=some (.lst (ns.map V.int))/\H p'=some (.lst [])/\Q (.bl (!ns.isEmpty)) H):=by
 intro pins s σ H x y v u Q I rx ry h
 obtain⟨p,p',ns,rfl,rfl,hp,F2,q⟩:=h
 cases rx
 cases ry
 obtain⟨aH,rv,⟨o,n,e1,e2,_,e3⟩,_⟩:=I.list (aR.of hp)
 obtain⟨its',V3,⟨o',n',Fu,t6,_,V4⟩,_⟩:=I.list (aR.of F2)
 have ra:Reads s.heap (.ref p) (.list (ns.map PyData.int)) [p]:=.list e1 e2 e3 (kY _ rv)
 have rb:Reads s.heap (.ref p') (.list (([]:List Int).map PyData.int)) [p']:=.list Fu t6 V4 (kY _ (ns:=[]) V3)
 have sh:∀ zs:List Int,SeqAt.shaped (.list (zs.map PyData.int))=true:=fun zs=>by
  unfold SeqAt.shaped
  rw[(lay_ints zs).1,Bool.true_and]
  exact aay (by have:=(lay_ints zs).2;show PyData.depthAll (zs.map PyData.int)+1<=64;omega)
 refine ne_dataH ra rb (sh ns) (sh []) hu ?_
 have e:(!PyData.eqv (.list (ns.map PyData.int)) (.list (([]:List Int).map PyData.int)))=!ns.isEmpty:=by
  rw[PyData.eqv]
  cases ns<;>rfl
 rw[e]
 exact⟨.bl (!ns.isEmpty),H,I,rfl,q⟩
section
variable {X:Cx}{k:Nat}{f C:Addr}{fd:FuncData}{ps:List Str}{sp:Sp}{g x n:Str}{p pos mT rT np mU:Pos}{e:Expr}{es:List Expr}{t:TA}{ts:TS}{b₀:Stmt}{fu:List Stmt}{i:Nat}
end
end L2
namespace L2
open PySem PySem.Spec PyProof.Rows PySem.W PySem.Calls
section
variable {X:Cx}{k:Nat}{f C1 C2 C3 Dc fI:Addr}{fd:FuncData}{ps:List Str}{sp:Sp}{g x n y:Str}{p pos rT np mU yp ap:Pos}{e:Expr}{es:List Expr}{t:TA}{HL HM:TS}{b₀:Stmt}{fu:List Stmt}{i iy:Nat}
end
end L2
namespace L2
open PySem PySem.Spec PyProof.Rows
def Np (wi:TI)(fr:List Nat)(tc:TT)(te:TE)(k:Nat):TS:=fun D σ H=>tZ wi fr tc te σ H fun v H'=>D.nx (σ.set k (some v)) H'
theorem Inv.off {X:Cx}{pins:List (Addr × Obj)}{σ:St}{H:Hp}{s:Shared}{C:Addr}{h':Heap}(I:Inv X pins σ H s)(hs:Heap.SameBut C s.heap h')(V5:X.s₀.heap.objs.size<=C)(hH:H C=none)(hL:C≠X.env.locals)(hc:∀ y c,X.env.cells.lookup y=some c->c≠C)(hp:∀ p∈X.pn++pins,p.1≠C):Inv X pins σ H { s with heap:=h' }:=by
 obtain⟨m,hn,hl⟩:=id I.loc
 have old:∀ b o,X.s₀.heap.get? b=some o->h'.get? b=s.heap.get? b:=fun b o e=>hs.2 b (ZP (ZM (ZH e) V5))
 refine⟨I.ok,I.vq,I.os,I.bare,⟨fun b o e k hb hx=>(old b o e).trans (I.base.keep b o e k hb hx),fun b o e k hb hx=>?_,I.base.free,fun b o e hx=>?_,I.base.je,I.base.iF,I.base.jf⟩,⟨m,hn.sameBut hs hL.symm,fun j y v' e1 e2 e3=>?_⟩,fun y c e=>?_,I.free,I.eW,fun p q=>?_,fun b ob e=>?_,I.len⟩
 ·obtain⟨sl,e1⟩:=I.base.slot b o e k hb hx
  exact⟨sl,(old b o e).trans e1⟩
 ·obtain⟨o',e1⟩:=I.base.there b o e hx
  exact⟨o',(old b o e).trans e1⟩
 ·obtain⟨u',r',q⟩:=hl j y v' e1 e2 e3
  refine⟨u',r',?_⟩
  rcases q with q|⟨k,c,e,z⟩
  ·exact .inl q
  ·exact .inr ⟨k,c,e,z.sameBut hs (hc y c e)⟩
 ·obtain⟨w',z⟩:=I.cell y c e
  exact⟨w',z.sameBut hs (hc y c e)⟩
 ·obtain⟨e,k,ne,nf,d⟩:=I.pin p q
  exact⟨(hs.2 p.1 (hp p q)).trans e,k,ne,nf,d⟩
 ·refine (I.bh b ob e).rN (fun c w' xD q=>(hs.2 c ?_).trans q) (fun _ q=>q) fun _ _ q=>q
  rintro rfl
  rcases xD with rfl|xD
  ·rw[hH] at e;cases e
  ·rw[hH] at xD;cases xD
section
variable {X:Cx}{N:List Str}{fr:List Nat}{x:Str}{scope:Scope}{cl:List (Str × Addr)}{elt iter:Expr}{px pos:Pos}{wi:TI}{te:TE}
theorem Gh {vS:Expr}{tc:TT}{y:Str}{py CZ:Pos}{k:Nat}(hN:X.N.Nodup)(hk:X.N[k]?=some y)(hy:Loc X.env.scope y)(Gi:swapsWith (.ListComp elt [⟨.Name x px,iter,[vS],0⟩] scope pos) (some (.Name y py)) CZ.line X.env=pure true)(hc:X.cb=true)(S:aM X N fr x scope cl)(hi:PI X (.Name x px) iter wi)(ht:∀ (C:Addr) (s0:Shared) (H0:Hp) (fp:List Addr) (pins:List (Addr × Obj)),PT (ow X N scope cl C s0 H0 fp pins) vS tc)(he:∀ (C:Addr) (s0:Shared) (H0:Hp) (fp:List Addr) (pins:List (Addr × Obj)),PE (ow X N scope cl C s0 H0 fp pins) elt te)
  (hf:X.fn y=true\/X.env.scope.names.lookup y=some .local) (hs:∀ y,foldedSetIterable iter X.env y=pure y:=by intro _;rfl):PS X (.Assign [.Name y py] (.ListComp elt [⟨.Name x px,iter,[vS],0⟩] scope pos) CZ) (Np wi fr tc te k):=by
 intro pins s σ H D I h
 rw[exec_Assign_Name_used _ _ _ _ Gi]
 refine ZD (aba (ZD ?_))
 show wpAny _ X.A (do let _ <- comprehension (.ListComp elt [⟨.Name x px,iter,[vS],0⟩] scope pos) scope X.env _ (newList []) false (eval iter X.env) (some (assign (.Name y py) X.env))) _ _ s
 refine ZD (Z2 (mW (use:=some (assign (.Name y py) X.env)) (R:=fun _ s'=>SP X pins D .next s') hc S hi (fun _ _ _ _ _=>t7 (ht _ _ _ _ _)) he hs I h (fun acc C m H6 s7 qn hn mX cf cL cC cP cS=>by
  have J7:Inv X pins σ H6 s7:=mX s7.heap ⟨rfl,fun _ _=>rfl⟩
  show wpAny _ X.A (assign (.Name y py) X.env (.ref acc)) _ _ _
  refine wpAny_assign_Name (se J7 hN hk hy (v:=.ref acc) rfl (fun s8 J8 ⟨a,V6,ha⟩=>?_) hf)
  have aC:C≠a:=by
   rcases ha with e|e
   ·rw[e];exact Ne.symm cL
   ·exact Ne.symm (cC _ _ e)
  exact⟨m,hn.sameBut V6 aC,fun h' mI=>⟨_,H6,J8.off mI cS cf (Ne.symm cL) cC cP,qn⟩⟩)) (fun _ s' hq=>ZF (ZF hq)) fun _ _ e=>e)
end
def CompEnd (J:It)(Q:VK)(H1:Hp)(te:TE)(σ:V->St):Prop:=∀ acc,H1 acc=none->∃ W:Nat->Nat->Hp->List V->Prop,(∃ m,W 0 m (upd H1 acc (.lst [])) []) /\
 ∀ i m H' vs,W i m H' vs->H' acc=some (.lst vs)/\((J.stop i H'/\Q (.ref acc) H')\/(J.go i H'/\vs.length<sizeLine/\∀ x H2,J.zm i H' x H2->te (σ x) H2 fun y H3=>H3 acc=some (.lst vs)/\∃ m',m'<m/\W (i+1) m' (upd H3 acc (.lst (vs++[y]))) (vs++[y])))
def gR (J:It)(Q:VK)(H1:Hp)(tc:TT)(te:TE)(σ:V->St):Prop:=∀ acc,H1 acc=none->∃ W:Nat->Nat->Hp->List V->Prop,(∃ m,W 0 m (upd H1 acc (.lst [])) []) /\
 ∀ i m H' vs,W i m H' vs->H' acc=some (.lst vs)/\((J.stop i H'/\Q (.ref acc) H')\/(J.go i H'/\vs.length<sizeLine/\∀ x H2,J.zm i H' x H2->tc (σ x) H2 fun b H3=>
  if b=true then te (σ x) H3 fun y H4=>H4 acc=some (.lst vs)/\∃ m',m'<m/\W (i+1) m' (upd H4 acc (.lst (vs++[y]))) (vs++[y]) else ∃ m',m'<m/\W (i+1) m' H3 vs))
def JZ (wi:TI)(fr:List Nat)(te:TE):TE:=fun σ H Q=>wi σ H fun J H1=>CompEnd J Q H1 te (fun x=>d9 σ fr (some x))
def vU (wi:TI)(fr:List Nat)(tc:TT)(te:TE):TE:=fun σ H Q=>wi σ H fun J H1=>gR J Q H1 tc te (fun x=>d9 σ fr (some x))
section
variable {X:Cx}{N:List Str}{fr:List Nat}{x:Str}{scope:Scope}{cl:List (Str × Addr)}{elt iter:Expr}{px pos:Pos}{wi:TI}{te:TE}
end
section
variable {X:Cx}{N:List Str}{fr:List Nat}{x:Str}{scope:Scope}{cl:List (Str × Addr)}{elt iter:Expr}{px pos:Pos}{wi:TI}{te:TE}
theorem eH (hc:X.cb=true)(S:aM X N fr x scope cl)(hi:PI X (.Name x px) iter wi)(he:∀ (C:Addr) (s0:Shared) (H0:Hp) (fp:List Addr) (pins:List (Addr × Obj)),PE (ow X N scope cl C s0 H0 fp pins) elt te)
  (hs:∀ y,foldedSetIterable iter X.env y=pure y:=by intro _;rfl):PE X (.ListComp elt [⟨.Name x px,iter,[],0⟩] scope pos) (JZ wi fr te):=Gg hc S hi he hs
theorem fC {vS:Expr}{tc:TT}(hc:X.cb=true)(S:aM X N fr x scope cl)(hi:PI X (.Name x px) iter wi)(ht:∀ (C:Addr) (s0:Shared) (H0:Hp) (fp:List Addr) (pins:List (Addr × Obj)),PT (ow X N scope cl C s0 H0 fp pins) vS tc)(he:∀ (C:Addr) (s0:Shared) (H0:Hp) (fp:List Addr) (pins:List (Addr × Obj)),PE (ow X N scope cl C s0 H0 fp pins) elt te)
  (hs:∀ y,foldedSetIterable iter X.env y=pure y:=by intro _;rfl):PE X (.ListComp elt [⟨.Name x px,iter,[vS],0⟩] scope pos) (vU wi fr tc te):=Bj hc S hi ht he hs
end
theorem fU {H0 H:Hp}{p:Addr}{o:HO}(g:aw H0 H)(h:H0 p=none):aw H0 (upd H p o):=fun b u q=>by
 rw[aG (aI q h)]
 exact g b u q
theorem kZ {te:TE}{σ:V->St}{H:Hp}{Q:VK}{lo:Int}(n:Nat)(hn:n<sizeLine)(R:Nat->List V->Hp->Prop)(R0:∀ p,H p=none->R 0 [] (upd H p (.lst [])))
  (he:∀ i vs H' acc (Q':VK),i<n->aw H H'->H acc=none->H' acc=some (.lst vs)->R i vs H'->vs.length=i->(∀ y H2,aw H' H2->(R (i+1) (vs++[y]) (upd H2 acc (.lst (vs++[y]))))->Q' y H2)->te (σ (.int (lo+i))) H' Q')
  (q:∀ p H' vs,aw H H'->H p=none->H' p=some (.lst vs)->vs.length=n->R n vs H'->Q (.ref p) H'):CompEnd (HC lo n) Q H te σ:=by
 intro acc bR
 refine⟨fun i m H' vs=>i<=n/\m=n-i/\aw H H'/\H' acc=some (.lst vs)/\vs.length=i/\R i vs H',⟨n,aaH _,by simp,au bR _,ah,rfl,R0 _ bR⟩,?_⟩
 rintro i m H' vs ⟨hi,rfl,g,ha,hl,r⟩
 refine⟨ha,?_⟩
 by_cases h:i=n
 ·subst h
  exact .inl ⟨ZL _,q acc H' vs g bR ha hl r⟩
 ·refine .inr ⟨by (show i<n;omega),by omega,?_⟩
  rintro z H2 ⟨rfl,rfl⟩
  refine he i vs H2 acc _ (by omega) g bR ha r hl fun y H3 g3 r3=>⟨g3 _ _ ha,n-(i+1),by omega,by omega,rfl,fU (g.trans g3) bR,ah,?_,r3⟩
  rw[aaN,hl]
  rfl
theorem jM {te:TE}{σ:V->St}{H:Hp}{Q:VK}{lo:Int}(n:Nat)(hn:n<sizeLine)(f:Nat->V)
  (he:∀ i H' (Q':VK),i<n->aw H H'->(∀ H2,aw H' H2->Q' (f i) H2)->te (σ (.int (lo+i))) H' Q')
  (q:∀ p H',aw H H'->H p=none->H' p=some (.lst ((List.range n).map f))->Q (.ref p) H'):CompEnd (HC lo n) Q H te σ:=by
 refine kZ n hn (fun i vs _=>vs=(List.range i).map f) (fun _ _=>rfl) ?_ ?_
 ·intro i vs H' acc Q' hi g h0 h1 r hl k
  refine he i H' Q' hi g fun H2 g2=>k _ _ g2 ?_
  rw[r,adR,aaw]
  rfl
 ·intro p H' vs g h0 h1 hl r
  exact q p H' g h0 (r▸h1)
theorem mY {K:W.Frag}{a:Addr}{xs:List V}{te:TE}{σ:V->St}{H:Hp}{Q:VK}(hx:aO K H a xs)(hn:xs.length<sizeLine)(f:V->V)(hK:∀ H',aw H H'->aO K H' a xs)
  (he:∀ (i:Nat) (x:V) (H':Hp) (Q':VK),xs[i]?=some x->aw H H'->(∀ H2,aw H' H2->Q' (f x) H2)->te (σ x) H' Q')
  (q:∀ p H',aw H H'->H p=none->H' p=some (.lst (xs.map f))->Q (.ref p) H'):CompEnd (Fs K a) Q H te σ:=by
 intro acc bR
 refine⟨fun i m H' vs=>i<=xs.length/\m=xs.length-i/\aw H H'/\H' acc=some (.lst vs)/\vs=(xs.take i).map f,⟨xs.length,aaH _,by simp,au bR _,ah,by simp⟩,?_⟩
 rintro i m H' vs ⟨hi,rfl,g,ha,rfl⟩
 refine⟨ha,?_⟩
 by_cases h:i=xs.length
 ·refine .inl ⟨⟨xs,hK _ g,by omega⟩,q acc H' g bR ?_⟩
  rw[ha,h,abj]
 ·have fZ:i<xs.length:=by omega
  refine .inr ⟨⟨xs,xs[i],hK _ g,by simp[fZ]⟩,by rw[ZR,abk];omega,?_⟩
  rintro z H2 ⟨rfl,hz⟩
  have Bk:=hz xs (hK _ g)
  refine he i z H2 _ Bk g fun H3 g3=>⟨g3 _ _ ha,xs.length-(i+1),by omega,by omega,rfl,fU (g.trans g3) bR,ah,?_⟩
  rw[ab7,Bk,aaw]
  rfl
theorem oB {J:It}{xs:List V}{tc:TT}{te:TE}{σ:V->St}{H:Hp}{Q:VK}(hn:xs.length<sizeLine)(p:V->Bool)(f:V->V)
  (C5:∀ H',aw H H'->J.stop xs.length H') (JW:∀ (i:Nat) H',i<xs.length->aw H H'->J.go i H') (J0:∀ (i:Nat) H' x H2,aw H H'->J.zm i H' x H2->H2=H'/\xs[i]?=some x)
  (ht:∀ (i:Nat) (x:V) (H':Hp) (Q':Bool->Hp->Prop),xs[i]?=some x->aw H H'->(∀ H2,aw H' H2->Q' (p x) H2)->tc (σ x) H' Q')
  (he:∀ (i:Nat) (x:V) (H':Hp) (Q':VK),xs[i]?=some x->p x=true->aw H H'->(∀ H2,aw H' H2->Q' (f x) H2)->te (σ x) H' Q')
  (q:∀ a H',aw H H'->H a=none->H' a=some (.lst ((xs.filter p).map f))->Q (.ref a) H'):gR J Q H tc te σ:=by
 intro acc bR
 refine⟨fun i m H' vs=>i<=xs.length/\m=xs.length-i/\aw H H'/\H' acc=some (.lst vs)/\vs=((xs.take i).filter p).map f,⟨xs.length,aaH _,by simp,au bR _,ah,by simp⟩,?_⟩
 rintro i m H' vs ⟨hi,rfl,g,ha,rfl⟩
 refine⟨ha,?_⟩
 by_cases h:i=xs.length
 ·refine .inl ⟨h▸C5 _ g,q acc H' g bR ?_⟩
  rw[ha,h,abj]
 ·have fZ:i<xs.length:=by omega
  refine .inr ⟨JW i _ fZ g,?_,?_⟩
  ·rw[ZR]
   have h1:=abT p (xs.take i)
   rw[abk] at h1
   omega
  intro z H2 hz
  obtain⟨rfl,Bk⟩:=J0 i _ _ _ g hz
  refine ht i z H2 _ Bk g fun H3 g3=>?_
  have ts:xs.take (i+1)=xs.take i++[z]:=by rw[ab7,Bk];rfl
  cases e:p z with
  | true=>
   rw[aag rfl]
   refine he i z H3 _ Bk e (g.trans g3) fun H4 g4=>⟨g4 _ _ (g3 _ _ ha),xs.length-(i+1),by omega,by omega,rfl,fU (g.trans (g3.trans g4)) bR,ah,?_⟩
   rw[ts,abP,aaw]
   have:[z].filter p=[z]:=by simp[e]
   rw[this]
   rfl
  | false=>
   rw[Z4 ZJ]
   refine⟨xs.length-(i+1),by omega,by omega,rfl,g.trans g3,g3 _ _ ha,?_⟩
   rw[ts,abP,aaw]
   have:[z].filter p=[]:=by simp[e]
   rw[this]
   simp
theorem oC {K:W.Frag}{a:Addr}{xs:List V}{tc:TT}{te:TE}{σ:V->St}{H:Hp}{Q:VK}(hn:xs.length<sizeLine)(p:V->Bool)(f:V->V)(hK:∀ H',aw H H'->aO K H' a xs)
  (ht:∀ (i:Nat) (x:V) (H':Hp) (Q':Bool->Hp->Prop),xs[i]?=some x->aw H H'->(∀ H2,aw H' H2->Q' (p x) H2)->tc (σ x) H' Q')
  (he:∀ (i:Nat) (x:V) (H':Hp) (Q':VK),xs[i]?=some x->p x=true->aw H H'->(∀ H2,aw H' H2->Q' (f x) H2)->te (σ x) H' Q')
  (q:∀ a H',aw H H'->H a=none->H' a=some (.lst ((xs.filter p).map f))->Q (.ref a) H'):gR (Fs K a) Q H tc te σ:=
 oB hn p f (fun H' g=>⟨xs,hK _ g,ZL _⟩) (fun i H' hi g=>⟨xs,xs[i],hK _ g,by simp[hi]⟩) (fun i H' x H2 g h=>⟨h.1,h.2 xs (hK _ g)⟩) ht he q
theorem jo {K:W.Frag}{a:Addr}{xs:List V}{tc:TT}{te:TE}{σ:V->St}{H:Hp}{Q:VK}(hn:xs.length<sizeLine)(p:V->Bool)(f:V->V)(hK:∀ H',aw H H'->aR K H' a xs)
  (ht:∀ (i:Nat) (x:V) (H':Hp) (Q':Bool->Hp->Prop),xs[i]?=some x->aw H H'->(∀ H2,aw H' H2->Q' (p x) H2)->tc (σ x) H' Q')
  (he:∀ (i:Nat) (x:V) (H':Hp) (Q':VK),xs[i]?=some x->p x=true->aw H H'->(∀ H2,aw H' H2->Q' (f x) H2)->te (σ x) H' Q')
  (q:∀ a H',aw H H'->H a=none->H' a=some (.lst ((xs.filter p).map f))->Q (.ref a) H'):gR (Fq K a) Q H tc te σ:=
 oB hn p f (fun H' g=>⟨xs,hK _ g,ZL _⟩) (fun i H' hi g=>⟨xs,xs[i],hK _ g,by simp[hi]⟩) (fun i H' x H2 g h=>⟨h.1,h.2 xs (hK _ g)⟩) ht he q
mutual
inductive DA (H:Hp):V->PyData->Prop where
 | int {i:Int}:DA H (.int i) (.int i)
 | bl {b:Bool}:DA H (.bl b) (.bool b)
 | str {x:Str}:DA H (.str x) (.str x)
 | lst {p:Addr}{xs:List V}{ds:List PyData}:H p=some (.lst xs)->C7 H xs ds->DA H (.ref p) (.list ds)
 | tup {p:Addr}{xs:List V}{ds:List PyData}:H p=some (.tup xs)->C7 H xs ds->DA H (.ref p) (.tuple ds)
inductive C7 (H:Hp):List V->List PyData->Prop where
 | nil:C7 H [] []
 | cons {x:V}{d:PyData}{xs:List V}{ds:List PyData}:DA H x d->C7 H xs ds->C7 H (x::xs) (d::ds)
end
mutual
theorem DA.reads {X:Cx}{pins:List (Addr × Obj)}{σ:St}{H:Hp}{s:Shared}(I:Inv X pins σ H s):∀ {v:V}{d:PyData}{u:Value},DA H v d->RelV v u->∃ as,Reads s.heap u d as
 | _,_,_,.int,r=>by obtain⟨t,rfl⟩:=r;exact⟨_,.int _ _⟩
 | _,_,_,.bl,r=>by cases r;exact⟨_,.bool _⟩
 | _,_,_,.str,r=>by obtain⟨t,rfl⟩:=r;exact⟨_,.str _ _⟩
 | _,_,_,.lst h hs,r=>by
  cases r
  obtain⟨aH,rv,⟨o,n,e1,e2,_,e3⟩,_⟩:=I.list (aR.of h)
  obtain⟨as,z⟩:=C7.reads I hs rv
  exact⟨_,.list e1 e2 e3 z⟩
 | _,_,_,.tup h hs,r=>by
  cases r
  obtain⟨aH,rv,⟨o,e1,e2,n,e3⟩,_⟩:=I.tuple (aO.of h)
  obtain⟨as,z⟩:=C7.reads I hs rv
  exact⟨_,.tuple e1 e2 e3 z⟩
theorem C7.reads {X:Cx}{pins:List (Addr × Obj)}{σ:St}{H:Hp}{s:Shared}(I:Inv X pins σ H s):∀ {vs:List V}{ds:List PyData}{us:List Value},C7 H vs ds->Vals vs us->∃ as,ReadsAll s.heap us ds as
 | _,_,_,.nil,r=>by cases r;exact⟨_,.nil⟩
 | _,_,_,.cons h hs,r=>by
  cases r with
  | cons r1 r2=>
   obtain⟨a1,z1⟩:=DA.reads I h r1
   obtain⟨a2,z2⟩:=C7.reads I hs r2
   exact⟨_,.cons z1 z2⟩
end
inductive Nq (x:V)(y:V)(H:Hp)(Q:VK):Prop
 | mk:∀ (da db:PyData),(DA H x da)->(DA H y db)->(SeqAt.shaped da=true)->(SeqAt.shaped db=true)->(Q (.bl (!PyData.eqv da db)) H)->Nq  x y H Q
theorem J1 {X:Cx}(hu:X.A.units+64<cLine):oi X (compareOp .NotEq) Nq:=by
 intro pins s σ H x y v u Q I rx ry h
 obtain⟨da,db,ha,hb,sa,sb,q⟩:=h
 obtain⟨as,ra⟩:=ha.reads I rx
 obtain⟨bs,rb⟩:=hb.reads I ry
 exact ne_dataH ra rb sa sb hu ⟨.bl _,H,I,rfl,q⟩
structure cG (X:Cx)(N:List Str)(fr:List Nat)(x x2:Str)(scope:Scope)(cl:List (Str × Addr)):Prop where
 kind:scope.kind=.function
 gj:∀ y∈scope.names,y.2≠.cell
 loc:∀ y∈scope.names,y.2=.local->scope.names.lookup y.1=some .local
 own:scope.names.lookup x=some .local
 Gj:scope.names.lookup x2=some .local
 jA:closureFor scope X.env=pure cl
 sub:∀ y c,cl.lookup y=some c->X.env.cells.lookup y=some c
 has:∀ y,((relabel scope X.env).names.lookup y=some .cell\/(relabel scope X.env).names.lookup y=some .free)->∃ c,cl.lookup y=some c
 nd:N.Nodup
 hN:N[0]?=some x
 V7:N[1]?=some x2
 len:N.length=fr.length+2
 tY:∀ (j:Nat) (y:Str),N[j+2]?=some y->(relabel scope X.env).names.lookup y≠some .local
 out:∀ (j k:Nat),fr[j]?=some k->∃ y,N[j+2]?=some y/\X.N[k]?=some y/\X.env.kindOf y=some .cell
def iw (σ:St)(fr:List Nat)(v v2:Option V):St:=v::v2::fr.map fun k=>(σ[k]?).join
def qj (K:W.Frag)(J:It)(Q:VK)(H1:Hp)(te:TE)(σ:V->V->St):Prop:=∀ acc,H1 acc=none->∃ W:Nat->Nat->Hp->List V->Prop,(∃ m,W 0 m (upd H1 acc (.lst [])) []) /\
 ∀ i m H' vs,W i m H' vs->H' acc=some (.lst vs)/\((J.stop i H'/\Q (.ref acc) H')\/(J.go i H'/\vs.length<sizeLine/\∀ x H2,J.zm i H' x H2->∃ (t:Addr) (v1 v2:V),x=.ref t/\aO K H2 t [v1,v2]/\te (σ v1 v2) H2 fun y H3=>H3 acc=some (.lst vs)/\∃ m',m'<m/\W (i+1) m' (upd H3 acc (.lst (vs++[y]))) (vs++[y])))
def J3 (K:W.Frag)(wi:TI)(fr:List Nat)(te:TE):TE:=fun σ H Q=>wi σ H fun J H1=>qj K J Q H1 te (fun v1 v2=>iw σ fr (some v1) (some v2))
theorem oZ {P:Program}{w:World}{A:Around}{s:Shared}{elt iter:Expr}{ifs:List Expr}{es:List Expr}{x1:Nat}{tp:Pos}{scope:Scope}{pos:Pos}{it acc:Value}{env:Env}{R:Result->Shared->Prop}(I:Nat->Shared->Prop)
  (turn:∀ n s,I n s->wpAny (model P w) A (pyNext it) (fun r s₁=>match r with
   | none=>R (.ok .next) s₁
   | some v=>wpAny (model P w) A (letOwnedTupleGo (.Tuple es x1 tp) it v) (fun _ Nr=>wpAny (model P w) A (assign (.Tuple es x1 tp) env v) (fun _ s₂=>
     wpAny (model P w) A (forIn ifs true fun c r=>if r=true then do let ok <- isTrue c env (eval c env);pure (ForInStep.yield ok) else pure (ForInStep.yield r)) (fun ok s₃=>
      if ok=true then wpAny (model P w) A (eval elt env) (fun x s₄=>
       wpAny (model P w) A (call (.builtin "list.append") [acc,x]) (fun _ s₅=>∃ m,m<n/\I m s₅) (notedBy (model P w) A env fun e s'=>R (.error e) s') s₄) (notedBy (model P w) A env fun e s'=>R (.error e) s') s₃
      else ∃ m,m<n/\I m s₃) (notedBy (model P w) A env fun e s'=>R (.error e) s') s₂)
     (notedBy (model P w) A env fun e s'=>R (.error e) s') Nr) (notedBy (model P w) A env fun e s'=>R (.error e) s') s₁) (notedBy (model P w) A env fun e s'=>R (.error e) s') s)
  (n:Nat) (h:I n s):codeAny (model P w) A (.compLoop (.ListComp elt [⟨.Tuple es x1 tp,iter,ifs,0⟩] scope pos) 0 it acc env) R s:=by
 refine codeAny_loop rfl I (fun m s1 hI=>?_) n h
 show wpAny _ A ((compTurn (.ListComp elt [⟨.Tuple es x1 tp,iter,ifs,0⟩] scope pos) 0 it acc env).onRaise (fun x=>do noteFrame x env;theTreesLotGoes x)) _ _ s1
 refine wpAny_noted ?_
 rw[compTurn_list]
 refine ZD (aba (ZD (Z2 (turn m s1 hI) (fun r s2 k2=>?_) fun _ _ z=>z)))
 cases r with
 | none=>exact ZF k2
 | some v=>
  refine ZD (Z2 k2 (fun _ s3 k3=>?_) fun _ _ z=>z)
  refine ZD (Z2 k3 (fun _ s4 k4=>ZD (Z2 k4 (fun ok s5 k5=>?_) fun _ _ z=>z)) fun _ _ z=>z)
  cases ok with
  | false=>exact ZF ⟨rfl,k5⟩
  | true=>
   exact ZD (ZD (Z2 k5 (fun x s6 k6=>ZD (Z2 k6 (fun _ s7 k7=>ZF (ZF ⟨rfl,k7⟩)) fun _ _ z=>z)) fun _ _ z=>z))
def sN (K:W.Frag)(J:It)(Q:VK)(H1:Hp)(tc:TT)(te:TE)(σ:V->V->St):Prop:=∀ acc,H1 acc=none->∃ W:Nat->Nat->Hp->List V->Prop,(∃ m,W 0 m (upd H1 acc (.lst [])) []) /\
 ∀ i m H' vs,W i m H' vs->H' acc=some (.lst vs)/\((J.stop i H'/\Q (.ref acc) H')\/(J.go i H'/\vs.length<sizeLine/\∀ x H2,J.zm i H' x H2->∃ (t:Addr) (v1 v2:V),x=.ref t/\aO K H2 t [v1,v2]/\tc (σ v1 v2) H2 fun b H3=>
  if b=true then te (σ v1 v2) H3 fun y H4=>H4 acc=some (.lst vs)/\∃ m',m'<m/\W (i+1) m' (upd H4 acc (.lst (vs++[y]))) (vs++[y]) else ∃ m',m'<m/\W (i+1) m' H3 vs))
def zR (K:W.Frag)(wi:TI)(fr:List Nat)(tc:TT)(te:TE):TE:=fun σ H Q=>wi σ H fun J H1=>sN K J Q H1 tc te (fun v1 v2=>iw σ fr (some v1) (some v2))
section
variable {X:Cx}{N:List Str}{fr:List Nat}{x x2:Str}{scope:Scope}{cl:List (Str × Addr)}{elt iter:Expr}{px Cc tp pos:Pos}{kt:Nat}{wi:TI}{te:TE}
theorem Gk {pins:List (Addr × Obj)}{σ:St}{H:Hp}{s:Shared}{fp:List Addr}{C:Addr}(S:cG X N fr x x2 scope cl)(I:Inv X pins σ H s)(hf:∀ b∈fp,kI X pins H b)(hC:s.heap.objs.size<=C)(t5:∀ b∈fp,b<s.heap.objs.size):(ow X N scope cl C s H fp pins).Ok where
 mod:=I.ok.mod
 kind:=S.kind
 glob:=I.ok.glob
 blt:=I.ok.blt
 above:=hC
 inj:=fun y z c h1 h2=>I.ok.inj y z c (S.sub _ _ h1) (S.sub _ _ h2)
 has:=fun y h=>S.has y h
 Fo:=fun y c h=>by cases h
 hd:=I.ok.hd
 hs:=I.ok.hs
 frames:=I.ok.frames
 FF:=.inl rfl
 Jf:=fun b hb=>⟨ZP (ZM (t5 b hb) hC),fun y c h=>(hf b hb).2.2.2.2.1 y c (S.sub _ _ h)⟩
 bs:=fun b o e=>I.bs b o e
 vn:=ZV I.ok.vn I.sz
 pT:=fun b o e hb=>by
  rcases (hf b hb).2.2.2.1 with z|z
  ·exact I.ok.pT b o e z
  ·exact absurd (ZM (ZH e) (ZV I.ok.vn z)) (aaT _)
 tF:=fun b hb z=>by
  rcases ZI.mp (I.f7 b z) with e|e
  ·exact (hf b hb).2.1 e
  ·exact (hf b hb).2.2.1 e
 jy:=I.stack
 pU:=I.kj
theorem ya {pins:List (Addr × Obj)}{σ:St}{H:Hp}{s s4:Shared}{fp:List Addr}{C:Addr}{m:Str->Option Value}(S:cG X N fr x x2 scope cl)(I:Inv X pins σ H s)(hf:∀ b∈fp,kI X pins H b)(hC:s.heap.objs.size<=C)(t5:∀ b∈fp,b<s.heap.objs.size)
  (hn:s4.heap.Ns C m) (hk:∀ b o,s.heap.get? b=some o->s4.heap.get? b=some o) (ho:s4.os=s.os) (hg:s4.gens=s.gens):Inv (ow X N scope cl C s H fp pins) [] (iw σ fr none none) H s4:=by
 obtain⟨m0,Ur,hl⟩:=id I.loc
 refine⟨Gk S I hf hC t5,I.vq,ho,by rw[hg];exact I.bare,Un.kept hk,⟨m,hn,fun i y v e1 e2 e3=>?_⟩,fun y c h=>?_,I.bh.fresh hC,fun y c h=>I.eW y c (S.sub _ _ h),fun p hp=>?_,I.bh.kept hk,?_⟩
 ·match i,e1,e2 with
  | 0,e1,e2=>cases e2
  | 1,e1,e2=>cases e2
  | j+2,e1,e2=>
   have t6:(fr.map fun k=>(σ[k]?).join)[j]?=some (some v):=e2
   rw[ZU] at t6
   cases ek:fr[j]? with
   | none=>rw[ek] at t6;cases t6
   | some k=>
    rw[ek] at t6
    have e4:(σ[k]?).join=some v:=ZG t6
    obtain⟨y',h1,h2,h3⟩:=S.out j k ek
    have Fu:N[j+2]?=some y:=e1
    obtain rfl:y'=y:=ZG (h1.symm.trans Fu)
    have e5:σ[k]?=some (some v):=by
     cases q:σ[k]? with
     | none=>rw[q] at e4;cases e4
     | some w=>rw[q] at e4;exact aai some e4
    obtain⟨u,r,lk⟩:=hl k y' v h2 e5 (.inr (.inl h3))
    refine⟨u,r,.inr ?_⟩
    rcases lk with ⟨z,_⟩|⟨_,c,hc,oh⟩
    ·rw[h3] at z;cases z
    ·have e6:Ml (relabel scope X.env) y':=e3
     have Nd:(relabel scope X.env).names.lookup y'=some .cell\/(relabel scope X.env).names.lookup y'=some .free:=by
      rcases e6 with e6|e6|e6
      ·exfalso
       have nd:=S.nd
       -- a name of Ca Ga own is Ca first one
       exact S.tY _ _ h1 e6
      ·exact .inl e6
      ·exact .inr e6
     obtain⟨c2,HQ⟩:=S.has y' Nd
     have:=S.sub _ _ HQ
     rw[hc] at this;cases this
     obtain⟨o,z1,z2⟩:=oh
     exact⟨Nd,c,HQ,o,hk _ _ z1,z2⟩
 ·obtain⟨v,o,z1,z2⟩:=I.cell y c (S.sub _ _ h)
  exact⟨v,o,hk _ _ z1,z2⟩
 ·rw[aa6] at hp
  obtain⟨e,k,ne,nf,d⟩:=I.pin p hp
  refine⟨hk _ _ e,k,ZP (ZM (ZH e) hC),fun z=>?_,d⟩
  rcases ZI.mp (I.f7 _ z) with q|q
  ·exact ne q
  ·exact nf q
 ·show (iw σ fr none none).length=N.length
  rw[S.len]
  simp[iw]
theorem qk {ifs:List Expr}{tc:TT}{use:Option (Value->Sem Unit)}{R:Value->Shared->Prop}{Q:VK}{pins:List (Addr × Obj)}{s:Shared}{σ:St}{H:Hp}{ep:Pos}(hc:X.cb=true)(S:cG X N fr x x2 scope cl)(hi:PI X (.Tuple [.Name x px,.Name x2 Cc] kt tp) iter wi)
  (ht:∀ (C:Addr) (s0:Shared) (H0:Hp) (fp:List Addr) (pins:List (Addr × Obj)),LU (ow X N scope cl C s0 H0 fp pins) ifs tc) (he:∀ (C:Addr) (s0:Shared) (H0:Hp) (fp:List Addr) (pins:List (Addr × Obj)),PE (ow X N scope cl C s0 H0 fp pins) elt te)
  (hs:∀ y,foldedSetIterable iter X.env y=pure y) (I:Inv X pins σ H s) (h:zR X.K wi fr tc te σ H Q)
  (fin:∀ (acc C:Addr) (m:Str->Option Value) (H6:Hp) (s7:Shared),Q (.ref acc) H6->s7.heap.Ns C m->(∀ h':Heap,Heap.SameBut C s7.heap h'->Inv X pins σ H6 { s7 with heap:=h' })->H6 C=none->X.env.locals≠C->(∀ z c,X.env.cells.lookup z=some c->c≠C)->(∀ p∈X.pn++pins,p.1≠C)->X.s₀.heap.objs.size<=C->compPost (model X.prog X.w) X.A X.xe use R (.ref acc) C (.ok .next) s7) :
  wpAny (model X.prog X.w) X.A (comprehension (.ListComp elt [⟨.Tuple [.Name x px,.Name x2 Cc] kt tp,iter,ifs,0⟩] scope pos) scope X.env ep (newList []) false (eval iter X.env) use) R X.xe s:=by
 refine wpAny_comprehension_free (use:=use) rfl hs S.jA S.kind S.loc (eD (hi pins s σ H _ I h) fun v s1 h1=>eD h1 fun Pj s2 h2=>?_)
 obtain⟨it,fp,tn,J,H2,e,I2,T,FJ,f2,hW⟩:=h2
 subst e
 have t5:∀ b∈fp,b<s2.heap.objs.size:=fun b hb=>by
  obtain⟨o,q,_⟩:=T.obj _ _ FJ b hb
  exact ZH q
 have JU:H2 s2.heap.objs.size=none:=I2.bh.fresh (ZL _)
 refine aa0 ?_
 have vQ:∀ b o,s2.heap.get? b=some o->(s2.heap.push { cls:=.type "list",dict:=none,data:=.seq ([]:List Value).toArray }).get? b=some o:=fun b o q=>ZE _ q
 have I3:Inv X pins σ (upd H2 s2.heap.objs.size (.lst [])) { s2 with heap:=s2.heap.push { cls:=.type "list",dict:=none,data:=.seq ([]:List Value).toArray } }:=
  I2.laid (t':=s2.toks) vQ (ZL _) ⟨aaH _,[],0,.nil,ZN _ rfl⟩
 obtain⟨W,⟨m0,w0⟩,turn⟩:=hW s2.heap.objs.size JU
 have f3:∀ b∈fp,kI X pins (upd H2 s2.heap.objs.size (.lst [])) b:=fun b hb=>⟨by rw[aG (ZP (t5 b hb))];exact (f2 b hb).1,(f2 b hb).2⟩
 refine adE S.gj (by intro y hy;simp at hy) (fun h4 HR LV=>?_) S.kind
 have CV:∀ b∈fp,b<(s2.heap.push { cls:=.type "list",dict:=none,data:=.seq ([]:List Value).toArray }).objs.size:=fun b hb=>by
  rw[aal]
  exact aaL (t5 b hb)
 have vR:∀ b o,(s2.heap.push { cls:=.type "list",dict:=none,data:=.seq ([]:List Value).toArray }).get? b=some o->h4.get? b=some o:=fun b o q=>
  (LV.2 b (ZP (ZH q))).trans (ZE _ q)
 have I4:Inv (ow X N scope cl (s2.heap.push { cls:=.type "list",dict:=none,data:=.seq ([]:List Value).toArray }).objs.size { s2 with heap:=s2.heap.push { cls:=.type "list",dict:=none,data:=.seq ([]:List Value).toArray } } (upd H2 s2.heap.objs.size (.lst [])) fp pins) [] (iw σ fr none none) (upd H2 s2.heap.objs.size (.lst []))
   { s2 with heap:=h4,toks:=s2.toks+([]:List (Str × Value)).length }:=ya S I3 f3 (ZL _) CV HR vR rfl rfl
 have Gb:tn 0 h4:=T.keep _ _ _ FJ fun b hb o q=>vR b o (vQ b o q)
 generalize hY:ow X N scope cl (s2.heap.push { cls:=.type "list",dict:=none,data:=.seq ([]:List Value).toArray }).objs.size { s2 with heap:=s2.heap.push { cls:=.type "list",dict:=none,data:=.seq ([]:List Value).toArray } } (upd H2 s2.heap.objs.size (.lst [])) fp pins=Y at I4
 have xu:PE Y elt te:=hY▸he _ _ _ _ _
 have JV:LU Y ifs tc:=hY▸ht _ _ _ _ _
 have eA:Y.A=X.A:=by rw[<- hY];rfl
 have eP:Y.prog=X.prog:=by rw[<- hY];rfl
 have ew:Y.w=X.w:=by rw[<- hY];rfl
 have eK:Y.K=X.K:=by rw[<- hY];rfl
 have eC:Y.cb=true:=by rw[<- hY];exact hc
 have eE:Y.env=compEnvC scope cl (s2.heap.push { cls:=.type "list",dict:=none,data:=.seq ([]:List Value).toArray }).objs.size X.env:=by rw[<- hY];rfl
 have eX:Y.xe=fun _ _=>False:=by rw[<- hY];rfl
 have hg:PG Y (.Tuple [.Name x px,.Name x2 Cc] kt tp) (FH Y.K 2 (zk (pW 0) (zk (pW 1) Mu))):=by
  refine Co eC (cM ?_ (cM ?_ kq)) (by rfl) (by rfl)
  ·subst hY
   exact pE (i:=0) S.nd S.hN (.inl (abG S.own)) (.inr (abG S.own))
  ·subst hY
   exact pE (i:=1) S.nd S.V7 (.inl (abG S.Gj)) (.inr (abG S.Gj))
 have fY:∀ {H':Hp},(∀ b∈fp,H' b=none)->∀ b∈fp,kI Y [] H' b:=fun {H'} hn b hb=>by
  subst hY
  obtain⟨_,g2,g3,g4,g5,g6⟩:=f3 b hb
  refine⟨hn b hb,ZP (CV b hb),fun z=>?_,.inl hb,fun y c q=>g5 y c (S.sub _ _ q),fun p hp=>?_⟩
  ·rcases ZI.mp (I3.f7 b z) with q|q
   ·exact g2 q
   ·exact g3 q
  ·rw[aa6] at hp
   exact g6 p hp
 have loop:∀ s5:Shared,s5={ s2 with heap:=h4,toks:=s2.toks+([]:List (Str × Value)).length } ->
   codeAny (model X.prog X.w) X.A (.compLoop (.ListComp elt [⟨.Tuple [.Name x px,.Name x2 Cc] kt tp,iter,ifs,0⟩] scope pos) 0 (.ref it) (.ref s2.heap.objs.size) (compEnvC scope cl (s2.heap.push { cls:=.type "list",dict:=none,data:=.seq ([]:List Value).toArray }).objs.size X.env))
    (compPost (model X.prog X.w) X.A X.xe use R (.ref s2.heap.objs.size) (s2.heap.push { cls:=.type "list",dict:=none,data:=.seq ([]:List Value).toArray }).objs.size) s5:=by
  rintro s5 rfl
  refine oZ (fun n s'=>∃ i v v2 H' vs,Inv Y [] (iw σ fr v v2) H' s'/\tn i s'.heap/\(∀ b∈fp,H' b=none)/\W i n H' vs) ?_ m0 ⟨0,none,none,_,[],I4,Gb,fun b hb=>(f3 b hb).1,w0⟩
  rintro n s6 ⟨i,v6,Za,H6,vs,I6,Nf,Ng,w6⟩
  obtain⟨bR,JW⟩:=turn i n H6 vs w6
  rcases JW with ⟨stop,qn⟩|⟨go,hz,step⟩
  ·have hd:=T.done Y eP ew eK eC i [] s6 _ H6 (fun _ _=>False) I6 (fY Ng) Nf stop
   rw[eA] at hd
   refine Z2 hd (fun r s7 ⟨hr,I7⟩=>?_) fun _ _ z=>z.elim
   subst hr
   obtain⟨m,hn,_⟩:=id I7.loc
   rw[eE] at hn
   have mX:∀ h':Heap,Heap.SameBut (s2.heap.push { cls:=.type "list",dict:=none,data:=.seq ([]:List Value).toArray }).objs.size s7.heap h'->Inv X pins σ H6 { s7 with heap:=h' }:=fun h' mI=>by
    subst hY
    exact zP I3 f3 (ZL _) I7 mI
   have cf:H6 (s2.heap.push { cls:=.type "list",dict:=none,data:=.seq ([]:List Value).toArray }).objs.size=none:=by
    subst hY
    exact I7.free
   have big:∀ b o,s2.heap.get? b=some o->b≠(s2.heap.push { cls:=.type "list",dict:=none,data:=.seq ([]:List Value).toArray }).objs.size:=fun b o q=>ZP (by rw[aal];exact aaL (ZH q))
   obtain⟨m2,Nh,_⟩:=id I2.loc
   obtain⟨oL,_,_,AM,_⟩:=id Nh
   exact fin _ _ m H6 s7 qn hn mX cf (big _ _ AM) (fun z c q=>by
    obtain⟨_,o,w1,_⟩:=I2.cell z c q
    exact big _ _ w1) (fun p hp=>by
    obtain⟨e,_⟩:=I2.pin p hp
    exact big _ _ e) (by
    rw[aal]
    exact Nat.le_succ_of_le (ZV (ZL _) I2.sz))
  ·have hd:=T.item Y eP ew eK eC i [] s6 _ H6 (fun _ _=>False) I6 (fY Ng) Nf go
   rw[eA] at hd
   refine Z2 hd (fun r s7 ⟨u,hr,h7⟩=>?_) fun _ _ z=>z.elim
   subst hr
   refine Z2 h7 (fun _ s8 ⟨y,H8,I8,r8,y8,CW,Ro⟩=>?_) fun _ _ z=>z.elim
   have Rp:=I8.pinned (fY Ro) (T.obj _ _ CW)
   obtain⟨ta,va,vb,ey,V8,Nt⟩:=step y _ y8
   have h9:=hg _ s8 _ H8 y u (fun σ9 H9=>σ9=iw σ fr (some va) (some vb)/\H9=H8) Rp r8 ⟨ta,[va,vb],ey,by rw[eK];exact V8,rfl,va,[vb],rfl,vb,[],rfl,rfl,rfl,rfl⟩
   rw[eA,eP,ew,eE,eX] at h9
   refine Z2 h9 (fun _ s9 ⟨σ9,H9,I9,e9,Rq⟩=>?_) fun _ _ z=>z.elim
   subst e9 Rq
   have CY:=JV _ s9 _ _ _ I9 Nt
   rw[eA,eP,ew,eE,eX] at CY
   refine Z2 CY (fun ok Rr ⟨V1,Gd,Ge⟩=>?_) fun _ _ z=>z.elim
   cases ok with
   | false=>
    rw[Z4 ZJ] at Ge
    rw[Z4 ZJ]
    obtain⟨m',hm,JX⟩:=Ge
    refine⟨m',hm,i+1,some va,some vb,_,vs,Gd.gX,T.keep _ _ _ CW fun b hb o q=>(Gd.pin (b,o) (ZW _ (ZW _ (cF hb q)))).1,fun b hb=>?_,JX⟩
    obtain⟨o,q,_⟩:=T.obj _ _ CW b hb
    exact (Gd.pin (b,o) (ZW _ (ZW _ (cF hb q)))).2.1
   | true=>
   rw[aag rfl] at Ge
   rw[aag rfl]
   have Ni:=xu _ Rr _ _ _ Gd Ge
   rw[eA,eP,ew,eE,eX] at Ni
   refine Z2 Ni (fun Ru Rv ⟨Gf,Nj,Rw,Rx,Nk,m',hm,JX⟩=>?_) fun _ _ z=>z.elim
   have Nl:=iT _ Rv _ Nj (.ref s2.heap.objs.size) [Gf] (.ref s2.heap.objs.size) [Ru] (fun _ Nm=>Nm=upd Nj s2.heap.objs.size (.lst (vs++[Gf]))) Rw rfl (.cons Rx .nil) ⟨_,vs,Gf,rfl,rfl,Nk,hz,rfl⟩
   rw[eA,eP,ew,eX] at Nl
   refine Z2 Nl (fun _ V2 ⟨_,Nm,JY,_,Ry⟩=>?_) fun _ _ z=>z.elim
   subst Ry
   refine⟨m',hm,i+1,some va,some vb,_,vs++[Gf],JY.gX,T.keep _ _ _ CW fun b hb o q=>(JY.pin (b,o) (ZW _ (ZW _ (cF hb q)))).1,fun b hb=>?_,JX⟩
   obtain⟨o,q,_⟩:=T.obj _ _ CW b hb
   exact (JY.pin (b,o) (ZW _ (ZW _ (cF hb q)))).2.1
 exact codeAny_compStart_list (loop _ rfl) (T.self _ 0 _ _ _ Gb (loop _ rfl))
theorem oE (hc:X.cb=true)(S:cG X N fr x x2 scope cl)(hi:PI X (.Tuple [.Name x px,.Name x2 Cc] kt tp) iter wi)(he:∀ (C:Addr) (s0:Shared) (H0:Hp) (fp:List Addr) (pins:List (Addr × Obj)),PE (ow X N scope cl C s0 H0 fp pins) elt te)
  (hs:∀ y,foldedSetIterable iter X.env y=pure y:=by intro _;rfl):PE X (.ListComp elt [⟨.Tuple [.Name x px,.Name x2 Cc] kt tp,iter,[],0⟩] scope pos) (J3 X.K wi fr te):=by
 intro pins s σ H Q I h
 rw[adO]
 exact qk (tc:=fun _ H Q=>Q true H) (use:=none) hc S hi (fun _ _ _ _ _=>zQ) he hs I h fun acc C m H6 s7 qn hn mX _ _ _ _ _=>⟨m,hn,fun h' mI=>⟨.ref acc,H6,mX h' mI,rfl,qn⟩⟩
end
section
variable {X:Cx}{N:List Str}{fr:List Nat}{x:Str}{scope:Scope}{cl:List (Str × Addr)}{elt iter:Expr}{px pos:Pos}{wi:TI}{te:TE}
end
theorem oF (ns:List Int):∀ k,k<=ns.length->preSum (fun i=>ns.getD i 0) k=(ns.take k).sum
 | 0,_=>by simp[preSum]
 | k+1,h=>by
  have hk:k<ns.length:=h
  show preSum (fun i=>ns.getD i 0) k+ns.getD k 0=_
  rw[oF ns k (acg hk),ab7,ZK hk,aad,ZK hk,List.sum_append]
  show _+ns[k]=_+([ns[k]]:List Int).sum
  simp
theorem vV {X:Cx}(hc:X.cb=true):gI X (.builtin "sum") (fun xs H Q=>∃ (l:Addr) (ns:List Int),xs=[.ref l]/\H l=some (.lst (ns.map V.int))/\Q (.int ns.sum) H):=by
 intro pins s σ H xs us Q I rv h
 obtain⟨l,ns,rfl,hH,q⟩:=h
 obtain⟨u,rfl,ru⟩:=rv.one
 cases ru
 obtain⟨z,aH,n,r,hl,e⟩:=I.rR hH
 have fZ:l<s.heap.objs.size:=ZH e
 refine call_sum_walkAnyS (abq (A:=X.A.in1) ⟨_,e,rfl,n,rfl⟩ ?_)
 obtain⟨fp,st,W0,LW,V9⟩:=jG (P:=X.prog) (w:=X.w) (I.Hv hc).in1 s.heap.objs.size l (ZP fZ) (I.LA hc (I.bh.fresh (ZL _))) aH.toArray
 have W:=W0.toS
 refine⟨s.heap.objs.size,_,_,_,_,_,_,fun i=>ns.getD i 0,rfl,W,?_,?_,?_,?_⟩
 ·exact LW _ ⟨_,ZN _ rfl,rfl,rfl⟩ ⟨_,ZE _ e,rfl,n,rfl⟩ (fun b o x=>ZE _ x)
 ·intro b hb
  have:=V9 b hb
  rw[aal]
  rcases this with rfl|rfl|⟨o,ho⟩
  ·exact acB _
  ·exact aaL fZ
  ·exact aaL (ZH ho)
 ·intro i v hP
  have hv:aH[i]?=some v:=by simpa using hP
  cases hn:ns[i]? with
  | none=>
   have h1:=r.none_of (i:=i) (by rw[ZU,hn];rfl)
   rw[h1] at hv;cases hv
  | some m=>
   obtain⟨u',h1,t,h2⟩:=r.get (i:=i) (x:=.int m) (by rw[ZU,hn];rfl)
   rw[h1] at hv;cases hv
   exact⟨t,by show v=Value.int (ns.getD i 0) t;rw[aad,hn];exact h2⟩
 ·intro s' t' hm
  have hlen:aH.toArray.size=ns.length:=by rw[ZQ,<- r.length,ZR]
  rw[hlen,oF ns _ (ZL _),abj]
  obtain⟨h',g',d',tk,o'⟩:=s'
  obtain rfl:g'=s.gens:=hm.gens
  obtain rfl:d'=s.drawn:=hm.drawn
  obtain rfl:o'=s.os:=hm.os
  refine⟨.int ns.sum,H,?_,⟨_,rfl⟩,q⟩
  exact I.kept (h':=h') (t':=tk) fun b o q'=>hm.heap b o (fun zz=>by
   have:b=s.heap.objs.size:=by simpa using zz
   subst this
   exact absurd (ZH q') (aaT _)) (ZE _ q')
section
variable {P:Program}{w:World}{A:Around}{E:Value->Shared->Prop}{s:Shared}
theorem ql {j a:Addr}{i:Nat}{us:Array Value}{u:Value}{Q:Value->Shared->Prop}(g0:s.heap.IsTupleIter j a i)(g1:s.heap.IsTuple a us)(ex:us[i]?=some u)
  (q:∀ h',h'.IsTupleIter j a (i+1)->Heap.SameBut j s.heap h'->Q u { s with heap:=h' }):wpAny (model P w) A (Builtin.SmallTypes.nextOf (.ref j)) Q E s:=by
 obtain⟨o1,k1,k2,k3⟩:=id g0
 obtain⟨o2,k4,_,n2,k5⟩:=g1
 unfold Builtin.SmallTypes.nextOf
 refine ZD (aaA (name:=Str.ofString "__next__") g0.typeIs abe (aaP abe g0.typeIs acZ ?_ (acS _)))
 show wpAny _ _ (field (.ref j) 0 >>= _) _ _ s
 refine ZD (aaG k1 k3 (x:=.ref a) rfl ?_)
 show wpAny _ _ (if (Value.ref a==Value.none)=true then _ else _) _ _ s
 rw[Z4 (show ¬ ((Value.ref a==Value.none)=true) from ZJ)]
 show wpAny _ _ (field (.ref j) 1 >>= _) _ _ s
 refine ZD (aaG k1 k3 (x:=.int i 0) rfl ?_)
 show wpAny _ _ (seqItems? (.ref a) >>= _) _ _ s
 refine ZD (abi k4 k5 ?_)
 simp only[aaE,ex]
 refine ZD (aa9 k1 k3 (by simp) (ZF ⟨u,rfl,ZF (q _ ?_ (aam ..))⟩))
 refine⟨_,aaq _ k1 (aa5 (aan k3 _)),(acb ..).trans k2,?_⟩
 rw[aan k3]
 simp[rawInt]
structure ZT (z TI TO j1 j2 a1 a2:Addr)(us vs:Array Value)(i:Nat)(f0:Value)(h:Heap):Prop where
 zip:IsZip h z TI TO f0
 aH:IsPair h TI (.ref j1) (.ref j2)
 to:∃ a b,IsPair h TO a b
 i1:h.IsTupleIter j1 a1 i
 i2:h.IsTupleIter j2 a2 i
theorem Gm {z TI TO j1 j2 a1 a2:Addr}{us vs:Array Value}{i:Nat}{u v:Value}{Q:Value->Shared->Prop}(D:ZipApart z TI TO j1 j2 a1 a2)(Z:ZT z TI TO j1 j2 a1 a2 us vs i .none s.heap)
  (t1:s.heap.IsTuple a1 us) (t2:s.heap.IsTuple a2 vs) (eu:us[i]?=some u) (ev:vs[i]?=some v)
  (q:∀ h',ZT z TI TO j1 j2 a1 a2 us vs (i+1) (rawInt s.heap.objs.size) h'->IsPair h' s.heap.objs.size u v->h'.objs.size=s.heap.objs.size+1 ->
   (∀ c o,c≠z->c≠TO->c≠j1->c≠j2->s.heap.get? c=some o->h'.get? c=some o)->Q (.ref s.heap.objs.size) { s with heap:=h' }) :
  wpAny (model P w) A (Builtin.«zip.__next__» ⟨[.ref z],[]⟩) (fun fin s'=>∃ v,fin=.done (.ret v)/\Q v s') E s:=by
 obtain⟨hz,hI,⟨p1,p2,hO⟩,y1,y2⟩:=Z
 show wpAny _ _ (field (.ref z) (1+1) >>= _) _ _ _
 refine ZD (aaG hz rfl (x:=.bool false) rfl ?_);show wpAny _ _ (field (.ref z) (2+1) >>= _) _ _ _
 refine ZD (aaG hz rfl (x:=.ref TI) rfl (ZD (abi hI rfl ?_)))
 refine ZD (m:=Builtin.SmallTypes.ownedTupleIsFree (.ref z)) ?_
 unfold Builtin.SmallTypes.ownedTupleIsFree;refine ZD (aaG hz rfl (x:=.none) rfl (ZF ?_))
 simp only[acR]
 refine ZD (abK (ZD (aaG hz rfl (x:=.ref TO) rfl ?_)))
 refine ZD (acw hz (by simp) fun w1 C8 b1=>?_)
 replace C8:IsZip w1 z TI TO .ellipsis:=C8
 refine ZD ?_
 simp only[List.zipIdx_cons,List.zipIdx_nil,List.forIn_cons,List.forIn_nil];refine ZD (ZD (wpAny_onRaise ?_))
 refine ZD (m:=Builtin.SmallTypes.nextOf (.ref j1)) (ql (y1.extBut b1.extBut D.i1z) (t1.extBut b1.extBut D.l1z) eu fun w2 Wa b2=>ZF ?_)
 have Ut:IsPair w2 TO p1 p2:=b2.extBut _ _ D.TOi1 (b1.extBut _ _ D.TOz hO)
 refine ZD (abi Ut rfl (ZD (wpAny_updateSeq_pair Ut fun w3 RA b3=>?_)))
 replace RA:IsPair w3 TO u p2:=RA
 refine ZD (wpAny_letGo (ZF ?_));refine ZD (ZD (wpAny_onRaise ?_))
 refine ZD (m:=Builtin.SmallTypes.nextOf (.ref j2)) (ql (((y2.extBut b1.extBut D.i2z).extBut b2.extBut D.i12.symm).extBut b3.extBut D.TOi2.symm) (((t2.extBut b1.extBut D.l2z).extBut b2.extBut D.l2i1).extBut b3.extBut D.l2TO) ev fun w4 Wb b4=>ZF ?_)
 have Uu:IsPair w4 TO u p2:=b4.extBut _ _ D.TOi2 RA
 refine ZD (abi Uu rfl (ZD (wpAny_updateSeq_pair Uu fun w5 Py b5=>?_)))
 replace Py:IsPair w5 TO u v:=Py
 refine ZD (wpAny_letGo (ZF (ZF ?_)));refine ZD (abi Py rfl (ZD (wpAny_newTuple ?_)))
 have HU:w5.objs.size=s.heap.objs.size:=by rw[b5.1,b4.1,b3.1,b2.1,b1.1]
 have Uv:IsZip w5 z TI TO .ellipsis:=b5.extBut _ _ D.TOz.symm (b4.extBut _ _ D.i2z.symm (b3.extBut _ _ D.TOz.symm (b2.extBut _ _ D.i1z.symm C8)))
 have HV:∀ c o,c≠z->c≠TO->c≠j1->c≠j2->s.heap.get? c=some o->w5.get? c=some o:=fun c o c1 c2 c3 c4 e=>b5.extBut _ _ c2 (b4.extBut _ _ c4 (b3.extBut _ _ c2 (b2.extBut _ _ c3 (b1.extBut _ _ c1 e))))
 have Wc:w5.IsTupleIter j1 a1 (i+1):=((Wa.extBut b3.extBut D.TOi1.symm).extBut b4.extBut D.i12).extBut b5.extBut D.TOi1.symm
 have Wd:w5.IsTupleIter j2 a2 (i+1):=Wb.extBut b5.extBut D.TOi2.symm
 have Uw:z<w5.objs.size:=ZH Uv
 refine ZD (m:=Builtin.SmallTypes.ownedTupleHandOut (.ref z) (.ref w5.objs.size)) ?_
 unfold Builtin.SmallTypes.ownedTupleHandOut
 have We:IsZip (w5.push { cls:=.type "tuple",data:=.seq #[u,v] }) z TI TO .ellipsis:=ZE _ Uv
 refine ZD (acw We (by simp) fun w7 RB b7=>?_)
 replace RB:IsZip w7 z TI TO (rawInt w5.objs.size):=RB
 refine acw RB (by simp) fun w8 Pz b8=>?_
 replace Pz:IsZip w8 z TI TO (rawInt w5.objs.size):=Pz
 have up:∀ c o,c≠z->w5.get? c=some o->w8.get? c=some o:=fun c o c1 e=>b8.extBut _ _ c1 (b7.extBut _ _ c1 (ZE _ e))
 have Nu:IsPair w8 w5.objs.size u v:=b8.extBut _ _ (ace Uw) (b7.extBut _ _ (ace Uw) (ZN _ rfl))
 have HW:w8.objs.size=w5.objs.size+1:=by rw[b8.1,b7.1,aal]
 rw[HU] at Pz Nu HW
 refine ZF ⟨_,rfl,?_⟩
 show Q (.ref w5.objs.size) _
 rw[HU]
 exact q w8 ⟨Pz,up _ _ D.TIz (HV _ _ D.TIz D.TITO D.TIi1 D.TIi2 hI),⟨_,_,up _ _ D.TOz Py⟩,(let ⟨o,e,r⟩:=Wc;⟨o,up _ _ D.i1z e,r⟩),(let ⟨o,e,r⟩:=Wd;⟨o,up _ _ D.i2z e,r⟩)⟩ Nu HW fun c o c1 c2 c3 c4 e=>up c o c1 (HV c o c1 c2 c3 c4 e)
theorem J4 {z TI TO j1 j2 a1 a2:Addr}{us vs:Array Value}{i:Nat}{Q:Fin->Shared->Prop}(ha:Still A s.heap)(nz:A.handled≠some (.ref z))(nj:A.handled≠some (.ref j1))(D:ZipApart z TI TO j1 j2 a1 a2)(Z:ZT z TI TO j1 j2 a1 a2 us vs i .none s.heap)
  (t1:s.heap.IsTuple a1 us) (eu:us[i]?=none)
  (q:∀ h' e,(∀ c o,c≠z->c≠TO->c≠j1->c≠j2->s.heap.get? c=some o->h'.get? c=some o)->(∃ o,h'.get? e=some o/\o.cls=.type "StopIteration")->E (.ref e) { s with heap:=h' }) :
  wpAny (model P w) A (Builtin.«zip.__next__» ⟨[.ref z],[]⟩) Q E s:=by
 obtain⟨hz,hI,⟨p1,p2,hO⟩,y1,y2⟩:=Z
 show wpAny _ _ (field (.ref z) (1+1) >>= _) _ _ _
 refine ZD (aaG hz rfl (x:=.bool false) rfl ?_);show wpAny _ _ (field (.ref z) (2+1) >>= _) _ _ _
 refine ZD (aaG hz rfl (x:=.ref TI) rfl (ZD (abi hI rfl ?_)))
 refine ZD (m:=Builtin.SmallTypes.ownedTupleIsFree (.ref z)) ?_
 unfold Builtin.SmallTypes.ownedTupleIsFree;refine ZD (aaG hz rfl (x:=.none) rfl (ZF ?_))
 simp only[acR]
 refine ZD (abK (ZD (aaG hz rfl (x:=.ref TO) rfl ?_)))
 refine ZD (acw hz (by simp) fun w1 C8 b1=>?_)
 replace C8:IsZip w1 z TI TO .ellipsis:=C8
 refine ZD ?_
 simp only[List.zipIdx_cons,List.zipIdx_nil,List.forIn_cons,List.forIn_nil];refine ZD (ZD (wpAny_onRaise ?_))
 refine ZD (m:=Builtin.SmallTypes.nextOf (.ref j1)) (oW (ha.mono fun e o hh h=>b1.extBut _ _ (fun x=>nz (by rw[<- x];exact hh)) h) nj (y1.extBut b1.extBut D.i1z) (t1.extBut b1.extBut D.l1z) eu fun w2 e b2 he=>?_)
 obtain⟨oe,e1,e2⟩:=he
 have Fv:IsZip w2 z TI TO .ellipsis:=b2 _ _ D.i1z.symm C8
 have ez:e≠z:=fun x=>by
  subst x
  rw[Fv] at e1;cases e1;simp at e2
 exact acw Fv (by simp) fun w3 _ b3=>q w3 e (fun c o c1 _ c3 _ x=>b3.extBut _ _ c1 (b2 _ _ c3 (b1.extBut _ _ c1 x))) ⟨oe,b3.extBut _ _ ez e1,e2⟩
theorem J5 (a1 a2:Addr)(us vs:Array Value) :
  Meets (Builtin.«zip.__new__» ⟨[.type "zip",.ref a1,.ref a2],[]⟩) (fun _ R s=>s.heap.IsTuple a1 us/\s.heap.IsTuple a2 vs /\
   ∀ h',(∀ c o,s.heap.get? c=some o->h'.get? c=some o)->ZT (s.heap.objs.size+4) (s.heap.objs.size+2) (s.heap.objs.size+3) s.heap.objs.size (s.heap.objs.size+1) a1 a2 us vs 0 .none h'->h'.objs.size=s.heap.objs.size+5->R (.ok (.ret (.ref (s.heap.objs.size+4)))) { s with heap:=h' }):=
 .of_wp fun prog w A R s h=>by
  obtain⟨hp,g,d,tk,os⟩:=s;obtain⟨t1,t2,h⟩:=h
  have Nv:=sub_zip
  have T1:Heap.IsTuple (Shared.heap ⟨hp,g,d,tk,os⟩) a1 us:=t1
  have T2:Heap.IsTuple (Shared.heap ⟨hp.push { cls:=.type "tuple_iterator",data:=.fields #[.ref a1,.int 0 0] },g,d,tk,os⟩) a2 vs:=t2.push _
  wp_walk using adf T1,adf T2
  refine⟨_,rfl,?_⟩
  simp only[aal]
  refine h _ (fun c o e=>ZE _ (ZE _ (ZE _ (ZE _ (ZE _ e))))) ⟨?_,?_,⟨.none,.none,?_⟩,⟨_,ZE _ (ZE _ (ZE _ (ZE _ (ZN _ rfl)))),rfl,rfl⟩,⟨_,ZE _ (ZE _ (ZE _ (acE (by simp only[aal]) rfl))),rfl,rfl⟩⟩ (by simp only[aal])
  ·exact acE (by simp only[aal]) rfl
  ·exact ZE _ (ZE _ (acE (by simp only[aal]) rfl))
  ·exact ZE _ (acE (by simp only[aal]) rfl)
theorem Gn {a1 a2:Addr}{us vs:Array Value}{Q:Value->Shared->Prop}(t1:s.heap.IsTuple a1 us)(t2:s.heap.IsTuple a2 vs)
  (q:∀ h',(∀ c o,s.heap.get? c=some o->h'.get? c=some o)->ZT (s.heap.objs.size+4) (s.heap.objs.size+2) (s.heap.objs.size+3) s.heap.objs.size (s.heap.objs.size+1) a1 a2 us vs 0 .none h'->h'.objs.size=s.heap.objs.size+5->Q (.ref (s.heap.objs.size+4)) { s with heap:=h' }) :
  wpAny (model P w) A (call (.type "zip") [.ref a1,.ref a2]) Q E s:=by
 refine callType_new F.called_zip (by decide) (F.typeCall_zip_2 _ _) (F.newCall_zip_2 _ _) (fun obj=>F.args_object_init_3 obj _ _) F.entry_zip_new (J5 a1 a2 us vs) ⟨t1,t2,fun h' k Z sz=>?_⟩
 exact⟨⟨_,Z.zip,rfl⟩,q h' k Z sz⟩
end
def RC (K:W.Frag)(a b:Addr):It:=
 ⟨fun i H=>∃ xs ys x y,aO K H a xs/\aO K H b ys/\xs[i]?=some x/\ys[i]?=some y,
  fun i H v H'=>∃ t x y,v=.ref t/\H t=none/\H'=upd H t (.tup [x,y])/\(∀ xs,aO K H a xs->xs[i]?=some x)/\∀ ys,aO K H b ys->ys[i]?=some y,
  fun i H=>∃ xs ys,aO K H a xs/\aO K H b ys/\xs.length<=i⟩
theorem Inv.zS {X:Cx}{pins:List (Addr × Obj)}{σ:St}{H:Hp}{s:Shared}{h':Heap}{t':Nat}{fp:List Addr}(I:Inv X pins σ H s)(k:∀ b o,b∉fp->s.heap.get? b=some o->h'.get? b=some o)(hf:∀ b∈fp,kI X pins H b):Inv X pins σ H { s with heap:=h',toks:=t' }:=by
 have nf:∀ b u,H b=some u->b∉fp:=fun b u e z=>by
  have:=(hf b z).1
  rw[this] at e;cases e
 have U:Un (eM X.stack) fp H H s.heap h':=⟨fun b o e _ _ hx=>k b o hx e,fun b o e _ _ hx=>⟨o.slots,k b o hx e⟩,fun _ _ _ n _=>n,fun b o e hx=>⟨o,k b o hx e⟩,fun _ _ e=>e,fun _ _ _ e=>e,fun b ps e=>⟨#[],by rw[e];simp⟩⟩
 refine I.og (s':={ s with heap:=h',toks:=t' }) (ch:=fp) rfl U (I.bh.eZ fun b o hb e=>k b o (fun z=>hb (hf b z).1) e) I.bare fun b hb=>?_
 obtain⟨_,f1,_,f3,f4,f5⟩:=hf b hb
 exact⟨f3,f1,f4,f5⟩
theorem C9 {P:Program}{w:World}{K:W.Frag}{elts:List Expr}{kt:Nat}{tp:Pos}{z TI TO j1 j2 a b:Addr}(D:ZipApart z TI TO j1 j2 a b)(us vs:Array Value) :
  Turn P w K (.Tuple elts kt tp) (RC K a b) [z,TI,TO,j1,j2] z (fun i h=>ZT z TI TO j1 j2 a b us vs i .none h) where
 mem:=by simp
 obj:=fun i h st c hc=>by
  obtain⟨hz,hI,⟨p1,p2,hO⟩,y1,y2⟩:=st
  simp only[ZI,aas,abE] at hc
  rcases hc with rfl|rfl|rfl|rfl|rfl
  ·exact⟨_,hz,fun v q=>by cases q⟩
  ·exact⟨_,hI,fun v q=>by cases q⟩
  ·exact⟨_,hO,fun v q=>by cases q⟩
  ·obtain⟨o,e,c,d⟩:=y1
   exact⟨o,e,fun v q=>by rw[d] at q;cases q⟩
  ·obtain⟨o,e,c,d⟩:=y2
   exact⟨o,e,fun v q=>by rw[d] at q;cases q⟩
 keep:=fun i h h' st k=>by
  obtain⟨hz,hI,⟨p1,p2,hO⟩,y1,y2⟩:=st
  exact⟨k z (by simp) _ hz,k TI (by simp) _ hI,⟨p1,p2,k TO (by simp) _ hO⟩,(let ⟨o,e,r⟩:=y1;⟨o,k j1 (by simp) _ e,r⟩),(let ⟨o,e,r⟩:=y2;⟨o,k j2 (by simp) _ e,r⟩)⟩
 item:=by
  intro X hP hw hK hc i pins s σ H E I hf st hg
  subst hP hw hK
  obtain⟨xs,ys,x,y,qx,qy,ex,ey⟩:=hg
  obtain⟨aH,rx,px,lx⟩:=I.tuple qx
  obtain⟨its',ry,py,ly⟩:=I.tuple qy
  obtain⟨u,hu,ru⟩:=rx.get ex
  obtain⟨v,hv,rv⟩:=ry.get ey
  have ht:s.TypeIs (.ref z) "zip":=⟨_,st.zip,rfl⟩
  unfold pyNext
  have vz:ZT z TI TO j1 j2 a b aH.toArray its'.toArray i .none s.heap:=⟨st.zip,st.aH,st.to,st.i1,st.i2⟩
  refine ZD (abb (aaA (name:=Str.ofString "__next__") ht adB (aaP adB ht F.entry_zip_next
   (Gm D vz px py (u:=u) (v:=v) (by simpa using hu) (by simpa using hv) fun h' Z np sz k=>ZF ?_) (F.args_zip_next_1 _))))
  refine⟨_,rfl,wpAny_letOwnedTupleGo_zip Z.zip fun h2 Fv b2=>?_⟩
  have d6:z<s.heap.objs.size:=ZH st.zip
  have k2:∀ c o,c∉[z,TI,TO,j1,j2]->s.heap.get? c=some o->h2.get? c=some o:=fun c o hc e=>by
   simp only[ZI,aas,abE,not_or] at hc
   exact b2.extBut _ _ hc.1 (k c o hc.1 hc.2.2.1 hc.2.2.2.1 hc.2.2.2.2 e)
  have I2:Inv X pins σ H { s with heap:=h2 }:=I.zS (t':=s.toks) k2 hf
  have LR:IsPair h2 s.heap.objs.size u v:=b2.extBut _ _ (ace d6) np
  have fr:H s.heap.objs.size=none:=I.bh.fresh (ZL _)
  have I3:Inv X pins σ (upd H s.heap.objs.size (.tup [x,y])) { s with heap:=h2 }:=by
   have U:Un (eM X.stack) [z,TI,TO,j1,j2] H (upd H s.heap.objs.size (.tup [x,y])) s.heap h2:=
    ⟨fun c o e _ _ hx=>k2 c o hx e,fun c o e _ _ hx=>⟨o.slots,k2 c o hx e⟩,fun c o e n _=>(by rw[aG (ZP (ZH e))];exact n),fun c o e hx=>⟨o,k2 c o hx e⟩,
     fun c zs e=>(by rw[aG (aI e fr)];exact e),fun c o w e=>(by rw[aG (aI e fr)];exact e),fun c ps e=>⟨#[],by rw[aG (aI e fr),e];simp⟩⟩
   refine I.og (s':={ s with heap:=h2 }) (ch:=[z,TI,TO,j1,j2]) rfl U (I2.bh.more fr ?_) I.bare fun c hc=>?_
   ·exact⟨by show 2<=sizeLine;decide,[u,v],.cons ru (.cons rv .nil),⟨_,LR,rfl,_,rfl⟩⟩
   ·obtain⟨_,f1,_,f3,f4,f5⟩:=hf c hc
    exact⟨f3,f1,f4,f5⟩
  refine⟨.ref s.heap.objs.size,_,I3,rfl,⟨_,x,y,rfl,fr,rfl,fun zs hz=>by rw[I.mO hz qx];exact ex,fun zs hz=>by rw[I.mO hz qy];exact ey⟩,?_,fun c hc=>?_⟩
  ·obtain⟨o1,e1,r1⟩:=Z.i1
   obtain⟨o2,e2,r2⟩:=Z.i2
   obtain⟨p1,p2,e3⟩:=Z.to
   exact⟨Fv,b2.extBut _ _ D.TIz Z.aH,⟨p1,p2,b2.extBut _ _ D.TOz e3⟩,⟨o1,b2.extBut _ _ D.i1z e1,r1⟩,⟨o2,b2.extBut _ _ D.i2z e2,r2⟩⟩
  ·have h0:=(hf c hc).1
   rw[aG ?_]
   ·exact h0
   ·have FJ:=st
    obtain⟨hz,hI,⟨p1,p2,hO⟩,⟨o1,y1,_⟩,⟨o2,y2,_⟩⟩:=FJ
    simp only[ZI,aas,abE] at hc
    rcases hc with rfl|rfl|rfl|rfl|rfl
    ·exact ZP (ZH hz)
    ·exact ZP (ZH hI)
    ·exact ZP (ZH hO)
    ·exact ZP (ZH y1)
    ·exact ZP (ZH y2)
 done:=by
  intro X hP hw hK hc i pins s σ H E I hf st hg
  subst hP hw hK
  obtain⟨xs,ys,qx,qy,ln⟩:=hg
  obtain⟨aH,rx,px,lx⟩:=I.tuple qx
  have ht:s.TypeIs (.ref z) "zip":=⟨_,st.zip,rfl⟩
  have hl:=rx.length
  unfold pyNext
  have vz:ZT z TI TO j1 j2 a b aH.toArray vs i .none s.heap:=⟨st.zip,st.aH,st.to,st.i1,st.i2⟩
  refine ZD (abb (aaA (name:=Str.ofString "__next__") ht adB (aaP adB ht F.entry_zip_next
   (J4 (I.Hv hc) (I.LA hc (hf z (by simp)).1) (I.LA hc (hf j1 (by simp)).1) D vz px (by simp;omega) fun h' e k he=>?_) (F.args_zip_next_1 _))))
  obtain⟨o,ho,Wf⟩:=he
  refine ZD (acm (T:="StopIteration") (b:=true) ⟨o,ho,Wf⟩ adj ?_)
  refine ZF ⟨rfl,I.zS (t':=s.toks) (fun c o hc e=>?_) hf⟩
  simp only[ZI,aas,abE,not_or] at hc
  exact k c o hc.1 hc.2.2.1 hc.2.2.2.1 hc.2.2.2.2 e
 self:=fun _ _ _ _ _ st h=>wpAny_pyIter_zip st.zip h
inductive HX (K:W.Frag)(R:It->Hp->Prop)(vs:List V)(H1:Hp):Prop
 | mk:∀ (a b:Addr) (xs ys:List V),(vs=[.ref a,.ref b])->(aO K H1 a xs)->(aO K H1 b ys)->(R (RC K a b) H1)->HX K R vs H1
def RD (K:W.Frag)(ta:TA):TI:=fun σ H R=>ta σ H fun vs H1=>HX K R vs H1
theorem J6 {X:Cx}{elts:List Expr}{kt:Nat}{tp:Pos}{a b:Expr}{ta:TA}{p pos:Pos}(hg:Gl X "zip")(hm:X.mg "zip"=none)(ha:PA X [a,b] ta)(hs:starEach [a,b] X.env=[(false,eval a X.env),(false,eval b X.env)]:=by rfl)(Ux:starEach [b] X.env=[(false,eval b X.env)]:=by rfl) :
  PI X (.Tuple elts kt tp) (.Call (.Name "zip" p) [a,b] [] pos) (RD X.K ta):=by
 intro pins s σ H R I h
 refine Call_ (mL I hg hm boot_zip (acG (eD (ha pos pins s σ H _ I h) fun us s1 ⟨vs,H1,I1,r1,q1⟩=>?_) (by rw[hs,Ux]) (by rw[Ux];rfl)))
 obtain⟨x,y,xs,ys,e,qx,qy,q⟩:=q1
 subst e
 cases r1 with
 | cons r rr=>
  cases rr with
  | cons r' rr=>
   cases rr
   cases r
   cases r'
   obtain⟨aH,rx,px,lx⟩:=I1.tuple qx
   obtain⟨its',ry,py,ly⟩:=I1.tuple qy
   refine Gn (us:=aH.toArray) (vs:=its'.toArray) px py fun h' k Z sz=>?_
   refine wpAny_pyIter_zip Z.zip ?_
   have I2:Inv X pins σ H1 { s1 with heap:=h' }:=I1.kept (t':=s1.toks) k
   have l1:x<s1.heap.objs.size:=by
    obtain⟨o,e,_⟩:=px
    exact ZH e
   have l2:y<s1.heap.objs.size:=by
    obtain⟨o,e,_⟩:=py
    exact ZH e
   refine⟨_,[s1.heap.objs.size+4,s1.heap.objs.size+2,s1.heap.objs.size+3,s1.heap.objs.size,s1.heap.objs.size+1],_,_,H1,rfl,I2,C9 (zipApart_new l1 l2) aH.toArray its'.toArray,Z,fun c hc=>?_,q⟩
   have big:s1.heap.objs.size<=c:=by
    simp only[ZI,aas,abE] at hc
    rcases hc with rfl|rfl|rfl|rfl|rfl<;>simp
   exact I1.AN big (I1.bh.fresh big)
section
variable {X:Cx}{N:List Str}{fr:List Nat}{x x2:Str}{scope:Scope}{cl:List (Str × Addr)}{elt iter:Expr}{px Cc tp pos:Pos}{kt:Nat}{wi:TI}{te:TE}
end
theorem yb {K:W.Frag}{a b:Addr}{xs ys:List V}{te:TE}{σ:V->V->St}{H:Hp}{Q:VK}(hx:∀ H',aw H H'->aO K H' a xs)(hy:∀ H',aw H H'->aO K H' b ys)(hl:xs.length=ys.length)(hn:xs.length<sizeLine)(f:V->V->V)
  (he:∀ (i:Nat) (x y:V) (H':Hp) (Q':VK),xs[i]?=some x->ys[i]?=some y->aw H H'->(∀ H2,aw H' H2->Q' (f x y) H2)->te (σ x y) H' Q')
  (q:∀ p H',aw H H'->H p=none->H' p=some (.lst (List.zipWith f xs ys))->Q (.ref p) H'):qj K (RC K a b) Q H te σ:=by
 intro acc bR
 have zl:(List.zipWith f xs ys).length=xs.length:=by rw[List.length_zipWith,<- hl];simp
 refine⟨fun i m H' vs=>i<=xs.length/\m=xs.length-i/\aw H H'/\H' acc=some (.lst vs)/\vs=(List.zipWith f xs ys).take i,⟨xs.length,aaH _,by simp,au bR _,ah,by simp⟩,?_⟩
 rintro i m H' vs ⟨hi,rfl,g,ha,rfl⟩
 refine⟨ha,?_⟩
 by_cases h:i=xs.length
 ·refine .inl ⟨⟨xs,ys,hx _ g,hy _ g,by omega⟩,q acc H' g bR ?_⟩
  rw[ha,h,<- zl,abj]
 ·have fZ:i<xs.length:=by omega
  have RE:i<ys.length:=by omega
  refine .inr ⟨⟨xs,ys,xs[i],ys[i],hx _ g,hy _ g,by simp[fZ],by simp[RE]⟩,by rw[abk,zl];omega,?_⟩
  rintro z H2 ⟨t,x,y,rfl,ht,rfl,ex,ey⟩
  have Qr:=ex xs (hx _ g)
  have PB:=ey ys (hy _ g)
  have g2:aw H' (upd H' t (.tup [x,y])):=au ht _
  refine⟨t,x,y,rfl,aO.of ah,he i x y _ _ Qr PB (g.trans g2) fun H3 g3=>⟨g3 _ _ (g2 _ _ ha),xs.length-(i+1),by omega,by omega,rfl,fU (g.trans (g2.trans g3)) bR,ah,?_⟩⟩
  rw[ab7,List.getElem?_zipWith,Qr,PB]
  rfl
theorem yc {K:W.Frag}{a:Addr}{xs:List V}{te:TE}{σ:V->V->St}{H:Hp}{Q:VK}(hx:∀ H',aw H H'->aO K H' a xs)(hn:xs.length<sizeLine)(p1 p2 f:Nat->V)(hp:∀ (i:Nat) (x:V),xs[i]?=some x->∃ t,x=.ref t/\H t=some (.tup [p1 i,p2 i]))
  (he:∀ (i:Nat) (H':Hp) (Q':VK),i<xs.length->aw H H'->(∀ H2,aw H' H2->Q' (f i) H2)->te (σ (p1 i) (p2 i)) H' Q')
  (q:∀ p H',aw H H'->H p=none->H' p=some (.lst ((List.range xs.length).map f))->Q (.ref p) H'):qj K (Fs K a) Q H te σ:=by
 intro acc bR
 refine⟨fun i m H' vs=>i<=xs.length/\m=xs.length-i/\aw H H'/\H' acc=some (.lst vs)/\vs=(List.range i).map f,⟨xs.length,aaH _,by simp,au bR _,ah,by simp⟩,?_⟩
 rintro i m H' vs ⟨hi,rfl,g,ha,rfl⟩
 refine⟨ha,?_⟩
 by_cases h:i=xs.length
 ·refine .inl ⟨⟨xs,hx _ g,by omega⟩,q acc H' g bR ?_⟩
  rw[ha,h]
 ·have fZ:i<xs.length:=by omega
  refine .inr ⟨⟨xs,xs[i],hx _ g,by simp[fZ]⟩,by rw[ZR,acr];omega,?_⟩
  rintro z H2 ⟨rfl,hz⟩
  have Bk:=hz xs (hx _ g)
  obtain⟨t,rfl,ht⟩:=hp i z Bk
  refine⟨t,p1 i,p2 i,rfl,aO.of (g _ _ ht),he i H2 _ fZ g fun H3 g3=>⟨g3 _ _ ha,xs.length-(i+1),by omega,by omega,rfl,fU (g.trans g3) bR,ah,?_⟩⟩
  rw[adR,aaw]
  rfl
theorem zT {X:Cx}{own:List Str}{ys:List Str}{ks:List Nat}(hl:ks.length=ys.length)(hk:∀ p∈ks.zip ys,X.N[p.1]?=some p.2/\X.env.kindOf p.2=some .cell:=by (intro p hp;(try simp only[acO,ac1] at hp);(repeat (rcases ZI.mp hp with rfl|hp;focus exact⟨rfl,rfl⟩));cases hp)):∀ (j k:Nat),ks[j]?=some k->∃ y,(own++ys)[j+own.length]?=some y/\X.N[k]?=some y/\X.env.kindOf y=some .cell:=by
 intro j k h
 have hj:j<ks.length:=(aae.mp h).1
 have PC:j<ys.length:=by omega
 refine⟨ys[j],by rw[acK (by omega)];simp[PC],?_⟩
 have m:(k,ys[j])∈ks.zip ys:=by
  refine aau (i:=j) ?_
  rw[List.getElem?_zip_eq_some]
  exact⟨h,by simp[PC]⟩
 exact hk _ m
theorem jN {cl:List (Str × Addr)}{P:Str->Addr->Prop}(h:∀ p∈cl,P p.1 p.2){y:Str}{c:Addr}(e:cl.lookup y=some c):P y c:=h _ (aaQ e)
theorem Dd {zU:List (Str × NameKind)}{cl:List (Str × Addr)}(h:∀ p∈zU,p.2=.cell\/p.2=.free->(cl.lookup p.1).isSome=true)(y:Str)(e:zU.lookup y=some .cell\/zU.lookup y=some .free):∃ c,cl.lookup y=some c:=by
 have:(cl.lookup y).isSome=true:=by
  rcases e with e|e
  ·exact h _ (aaQ e) (.inl rfl)
  ·exact h _ (aaQ e) (.inr rfl)
 exact aby.mp this
theorem aM.gen {X:Cx}{x:Str}{scope:Scope}{cl:List (Str × Addr)}(ys:List Str)(ks:List Nat)(zU:List (Str × NameKind))(jA:closureFor scope X.env=pure cl)(kind:scope.kind=.function:=by rfl)(gj:∀ z∈scope.names,z.2≠.cell:=by decide +kernel)(loc:∀ z∈scope.names,z.2=.local->scope.names.lookup z.1=some .local:=by decide +kernel)(own:scope.names.lookup x=some .local:=by rfl)
  (sub:∀ p∈cl,X.env.cells.lookup p.1=some p.2:=by (intro p hp;(repeat (rcases ZI.mp hp with rfl|hp;focus rfl));cases hp)) (rl:(relabel scope X.env).names=zU:=by rfl) (only:∀ p∈zU,p.2=.cell\/p.2=.free->(cl.lookup p.1).isSome=true:=by (intro p hp h;(repeat (rcases ZI.mp hp with rfl|hp;focus (first|rfl|(rcases h with h|h<;>cases h))));cases hp)) (nd:(x::ys).Nodup:=by decide) (ny:∀ y∈ys,zU.lookup y≠some .local:=by decide +kernel) (hl:ks.length=ys.length:=by rfl)
  (hk:∀ p∈ks.zip ys,X.N[p.1]?=some p.2/\X.env.kindOf p.2=some .cell:=by (intro p hp;(try simp only[acO,ac1] at hp);(repeat (rcases ZI.mp hp with rfl|hp;focus exact⟨rfl,rfl⟩));cases hp)):aM X (x::ys) ks x scope cl:=by
 subst rl
 refine⟨kind,gj,loc,own,jA,fun y c h=>jN (P:=fun y c=>X.env.cells.lookup y=some c) sub h,Dd only,nd,rfl,by simp[hl],fun j y h=>?_,fun j k h=>zT (own:=[x]) hl hk j k h⟩
 exact ny y (aau (by simpa using h))
theorem cG.gen {X:Cx}{x x2:Str}{scope:Scope}{cl:List (Str × Addr)}(ys:List Str)(ks:List Nat)(zU:List (Str × NameKind))(jA:closureFor scope X.env=pure cl)(kind:scope.kind=.function:=by rfl)(gj:∀ z∈scope.names,z.2≠.cell:=by decide +kernel)(loc:∀ z∈scope.names,z.2=.local->scope.names.lookup z.1=some .local:=by decide +kernel)(own:scope.names.lookup x=some .local:=by rfl)(Gj:scope.names.lookup x2=some .local:=by rfl)
  (sub:∀ p∈cl,X.env.cells.lookup p.1=some p.2:=by (intro p hp;(repeat (rcases ZI.mp hp with rfl|hp;focus rfl));cases hp)) (rl:(relabel scope X.env).names=zU:=by rfl) (only:∀ p∈zU,p.2=.cell\/p.2=.free->(cl.lookup p.1).isSome=true:=by (intro p hp h;(repeat (rcases ZI.mp hp with rfl|hp;focus (first|rfl|(rcases h with h|h<;>cases h))));cases hp)) (nd:(x::x2::ys).Nodup:=by decide) (ny:∀ y∈ys,zU.lookup y≠some .local:=by decide +kernel) (hl:ks.length=ys.length:=by rfl)
  (hk:∀ p∈ks.zip ys,X.N[p.1]?=some p.2/\X.env.kindOf p.2=some .cell:=by (intro p hp;(try simp only[acO,ac1] at hp);(repeat (rcases ZI.mp hp with rfl|hp;focus exact⟨rfl,rfl⟩));cases hp)):cG X (x::x2::ys) ks x x2 scope cl:=by
 subst rl
 refine⟨kind,gj,loc,own,Gj,jA,fun y c h=>jN (P:=fun y c=>X.env.cells.lookup y=some c) sub h,Dd only,nd,rfl,rfl,by simp[hl],fun j y h=>?_,fun j k h=>zT (own:=[x,x2]) hl hk j k h⟩
 exact ny y (aau (by simpa using h))
theorem sO {J:It}{xs:List V}{te:TE}{σ:V->St}{H:Hp}{Q:VK}(hn:xs.length<sizeLine)(R:Nat->List V->Hp->Prop)(R0:∀ p,H p=none->R 0 [] (upd H p (.lst [])))
  (C5:∀ H',aw H H'->J.stop xs.length H') (JW:∀ (i:Nat) H',i<xs.length->aw H H'->J.go i H') (J0:∀ (i:Nat) H' x H2,aw H H'->J.zm i H' x H2->H2=H'/\xs[i]?=some x)
  (he:∀ (i:Nat) (x:V) (vs:List V) (H':Hp) (acc:Addr) (Q':VK),xs[i]?=some x->aw H H'->H acc=none->H' acc=some (.lst vs)->R i vs H'->vs.length=i->(∀ y H2,aw H' H2->R (i+1) (vs++[y]) (upd H2 acc (.lst (vs++[y])))->Q' y H2)->te (σ x) H' Q')
  (q:∀ p H' vs,aw H H'->H p=none->H' p=some (.lst vs)->vs.length=xs.length->R xs.length vs H'->Q (.ref p) H'):CompEnd J Q H te σ:=by
 intro acc bR
 refine⟨fun i m H' vs=>i<=xs.length/\m=xs.length-i/\aw H H'/\H' acc=some (.lst vs)/\vs.length=i/\R i vs H',⟨xs.length,aaH _,by simp,au bR _,ah,rfl,R0 _ bR⟩,?_⟩
 rintro i m H' vs ⟨hi,rfl,g,ha,hl,r⟩
 refine⟨ha,?_⟩
 by_cases h:i=xs.length
 ·subst h
  exact .inl ⟨C5 _ g,q acc H' vs g bR ha hl r⟩
 ·have fZ:i<xs.length:=by omega
  refine .inr ⟨JW i _ fZ g,by omega,?_⟩
  intro z H2 hz
  obtain⟨rfl,Bk⟩:=J0 i _ _ _ g hz
  refine he i z vs H2 acc _ Bk g bR ha r hl fun y H3 g3 r3=>⟨g3 _ _ ha,xs.length-(i+1),by omega,by omega,rfl,fU (g.trans g3) bR,ah,?_,r3⟩
  rw[aaN,hl]
  rfl
theorem Bl {K:W.Frag}{a:Addr}{xs:List V}{te:TE}{σ:V->St}{H:Hp}{Q:VK}(hn:xs.length<sizeLine)(hK:∀ H',aw H H'->aO K H' a xs)(R:Nat->List V->Hp->Prop)(R0:∀ p,H p=none->R 0 [] (upd H p (.lst [])))
  (he:∀ (i:Nat) (x:V) (vs:List V) (H':Hp) (acc:Addr) (Q':VK),xs[i]?=some x->aw H H'->H acc=none->H' acc=some (.lst vs)->R i vs H'->vs.length=i->(∀ y H2,aw H' H2->R (i+1) (vs++[y]) (upd H2 acc (.lst (vs++[y])))->Q' y H2)->te (σ x) H' Q')
  (q:∀ p H' vs,aw H H'->H p=none->H' p=some (.lst vs)->vs.length=xs.length->R xs.length vs H'->Q (.ref p) H'):CompEnd (Fs K a) Q H te σ:=
 sO hn R R0 (fun H' g=>⟨xs,hK _ g,ZL _⟩) (fun i H' hi g=>⟨xs,xs[i],hK _ g,by simp[hi]⟩) (fun i H' x H2 g h=>⟨h.1,h.2 xs (hK _ g)⟩) he q
theorem ye {K:W.Frag}{a:Addr}{xs:List V}{te:TE}{σ:V->St}{H:Hp}{Q:VK}(hn:xs.length<sizeLine)(hK:∀ H',aw H H'->aR K H' a xs)(R:Nat->List V->Hp->Prop)(R0:∀ p,H p=none->R 0 [] (upd H p (.lst [])))
  (he:∀ (i:Nat) (x:V) (vs:List V) (H':Hp) (acc:Addr) (Q':VK),xs[i]?=some x->aw H H'->H acc=none->H' acc=some (.lst vs)->R i vs H'->vs.length=i->(∀ y H2,aw H' H2->R (i+1) (vs++[y]) (upd H2 acc (.lst (vs++[y])))->Q' y H2)->te (σ x) H' Q')
  (q:∀ p H' vs,aw H H'->H p=none->H' p=some (.lst vs)->vs.length=xs.length->R xs.length vs H'->Q (.ref p) H'):CompEnd (Fq K a) Q H te σ:=
 sO hn R R0 (fun H' g=>⟨xs,hK _ g,ZL _⟩) (fun i H' hi g=>⟨xs,xs[i],hK _ g,by simp[hi]⟩) (fun i H' x H2 g h=>⟨h.1,h.2 xs (hK _ g)⟩) he q
theorem Bm {X:Cx}(hc:X.calm=true):gI X (.builtin "max") (fun xs H Q=>∃ (l:Addr) (ns:List Int),xs=[.ref l]/\H l=some (.lst (ns.map V.int))/\ns≠[]/\∀ m:Int,m∈ns->(∀ n∈ns,n<=m)->Q (.int m) H):=by
 intro pins s σ H xs us Q I rv h
 obtain⟨l,ns,rfl,hH,lQ,q⟩:=h
 obtain⟨u,rfl,ru⟩:=rv.one
 cases ru
 obtain⟨z,aH,n,r,hl,e⟩:=I.rR hH
 have fZ:l<s.heap.objs.size:=ZH e
 have hlen:aH.toArray.size=ns.length:=by rw[ZQ,<- r.length,ZR]
 have pos:0<ns.length:=List.length_pos_iff.mpr lQ
 have val:∀ (i:Nat) (v:Value),aH.toArray[i]?=some v->∃ t,v=.int (ns.getD i 0) t:=by
  intro i v hP
  have hv:aH[i]?=some v:=by simpa using hP
  cases hn:ns[i]? with
  | none=>
   have h1:=r.none_of (i:=i) (by rw[ZU,hn];rfl)
   rw[h1] at hv;cases hv
  | some m=>
   obtain⟨u',h1,t,h2⟩:=r.get (i:=i) (x:=.int m) (by rw[ZU,hn];rfl)
   rw[h1] at hv;cases hv
   exact⟨t,by rw[aad,hn];exact h2⟩
 refine call_max_walk (abq (A:=X.A.in1) ⟨_,e,rfl,n,rfl⟩ ?_)
 have W:=Walks.list (prog:=X.prog) (w:=X.w) (A:=X.A.in1) (show X.A.in1.handled=none from I.ok.hd hc) s.heap.objs.size l (ZP fZ) aH.toArray
 refine⟨s.heap.objs.size,_,_,_,_,_,_,rfl,W,⟨⟨_,ZN _ rfl,rfl,rfl⟩,⟨_,ZE _ e,rfl,n,rfl⟩⟩,?_,by omega,CmpOf.ints_gt (fun i=>ns.getD i 0) val,?_⟩
 ·intro b hb
  have:b=s.heap.objs.size\/b=l:=by simpa using hb
  rw[aal]
  rcases this with rfl|rfl
  ·exact acB _
  ·exact aaL fZ
 ·intro v h' tk hv hk
  obtain⟨t,rfl⟩:=val _ _ hv
  have ab:=argBest_gt (fun i=>ns.getD i 0) (aH.toArray.size-1)
  refine⟨.int _,H,I.kept (h':=h') (t':=tk) fun b o q'=>hk b o (fun zz=>?_) (ZE _ q'),⟨t,rfl⟩,q _ ?_ ?_⟩
  ·have:b=s.heap.objs.size:=by simpa using zz
   subst this
   exact absurd (ZH q') (aaT _)
  ·have lt:argBest (fun i j=>decide (ns.getD i 0 > ns.getD j 0)) (aH.toArray.size-1)<ns.length:=by have:=ab.1;omega
   rw[aad,ZK lt]
   exact abl lt
  ·intro m hm
   obtain⟨j,hj,ej⟩:=aaU hm
   have:=ab.2 j (by omega)
   rw[<- ej]
   have e2:ns.getD j 0=ns[j]:=by rw[aad,ZK hj];rfl
   rw[e2] at this
   exact this
theorem Bn {X:Cx}(hc:X.calm=true):gI X (.builtin "min") (fun xs H Q=>∃ (l:Addr) (ns:List Int),xs=[.ref l]/\H l=some (.lst (ns.map V.int))/\ns≠[]/\∀ m:Int,m∈ns->(∀ n∈ns,m<=n)->Q (.int m) H):=by
 intro pins s σ H xs us Q I rv h
 obtain⟨l,ns,rfl,hH,lQ,q⟩:=h
 obtain⟨u,rfl,ru⟩:=rv.one
 cases ru
 obtain⟨z,aH,n,r,hl,e⟩:=I.rR hH
 have fZ:l<s.heap.objs.size:=ZH e
 have hlen:aH.toArray.size=ns.length:=by rw[ZQ,<- r.length,ZR]
 have pos:0<ns.length:=List.length_pos_iff.mpr lQ
 have val:∀ (i:Nat) (v:Value),aH.toArray[i]?=some v->∃ t,v=.int (ns.getD i 0) t:=by
  intro i v hP
  have hv:aH[i]?=some v:=by simpa using hP
  cases hn:ns[i]? with
  | none=>
   have h1:=r.none_of (i:=i) (by rw[ZU,hn];rfl)
   rw[h1] at hv;cases hv
  | some m=>
   obtain⟨u',h1,t,h2⟩:=r.get (i:=i) (x:=.int m) (by rw[ZU,hn];rfl)
   rw[h1] at hv;cases hv
   exact⟨t,by rw[aad,hn];exact h2⟩
 refine call_min_walk (abq (A:=X.A.in1) ⟨_,e,rfl,n,rfl⟩ ?_)
 have W:=Walks.list (prog:=X.prog) (w:=X.w) (A:=X.A.in1) (show X.A.in1.handled=none from I.ok.hd hc) s.heap.objs.size l (ZP fZ) aH.toArray
 refine⟨s.heap.objs.size,_,_,_,_,_,_,rfl,W,⟨⟨_,ZN _ rfl,rfl,rfl⟩,⟨_,ZE _ e,rfl,n,rfl⟩⟩,?_,by omega,CmpOf.ints_lt (fun i=>ns.getD i 0) val,?_⟩
 ·intro b hb
  have:b=s.heap.objs.size\/b=l:=by simpa using hb
  rw[aal]
  rcases this with rfl|rfl
  ·exact acB _
  ·exact aaL fZ
 ·intro v h' tk hv hk
  obtain⟨t,rfl⟩:=val _ _ hv
  have ab:=argBest_lt (fun i=>ns.getD i 0) (aH.toArray.size-1)
  refine⟨.int _,H,I.kept (h':=h') (t':=tk) fun b o q'=>hk b o (fun zz=>?_) (ZE _ q'),⟨t,rfl⟩,q _ ?_ ?_⟩
  ·have:b=s.heap.objs.size:=by simpa using zz
   subst this
   exact absurd (ZH q') (aaT _)
  ·have lt:argBest (fun i j=>decide (ns.getD i 0<ns.getD j 0)) (aH.toArray.size-1)<ns.length:=by have:=ab.1;omega
   rw[aad,ZK lt]
   exact abl lt
  ·intro m hm
   obtain⟨j,hj,ej⟩:=aaU hm
   have:=ab.2 j (by omega)
   rw[<- ej]
   have e2:ns.getD j 0=ns[j]:=by rw[aad,ZK hj];rfl
   rw[e2] at this
   exact this
section
variable {P:Program}{w:World}{A:Around}{E:Value->Shared->Prop}
theorem vW {j l:Addr}{us:Array Value}(ne:l≠j):∀ (n i:Nat) (s:Shared) (Q:List Value->Shared->Prop),s.heap.IsListIter j l i->s.heap.IsList l us->i+n<=us.size ->
  (∀ h',h'.IsListIter j l (i+n)->Heap.SameBut j s.heap h'->Q ((us.toList.drop i).take n) { s with heap:=h' })->wpAny (model P w) A (draw (.ref j) n) Q E s
 | 0,i,s,Q,g0,_,_,q=>by
  show wpAny _ _ (pure ([]:List Value)) Q E s
  exact ZF (by simpa using q s.heap g0 (adZ ..))
 | n+1,i,s,Q,g0,g1,le,q=>by
  have lt:i<us.size:=by omega
  show wpAny _ _ (pyNext (.ref j) >>= _) Q E s
  refine ZD (adw g0 g1 (x:=us[i]) (by simp[lt]) fun w1 k1 b1=>?_)
  refine ZD (aaj (vW ne n (i+1) _ _ k1 (g1.extBut b1.extBut ne) (by omega) fun w2 k2 b2=>ZF ?_))
  have dr:us.toList.drop i=us[i]::us.toList.drop (i+1):=by simp[List.drop_eq_getElem_cons,lt]
  have z:=q w2 (by rw[show i+(n+1)=i+1+n by omega];exact k2) (b1.trans b2)
  rw[dr,List.take_succ_cons] at z
  exact z
theorem yf {s:Shared}{l:Addr}{us:Array Value}{ts:List (Bool × (Value->Sem Unit))}{Q:Unit->Shared->Prop}(ha:A.handled=none)(g1:s.heap.IsList l us)(hn:ts.length=us.size)(mE:ts.findIdx? (·.1)=none)
  (q:∀ h',Heap.ExtBut s.heap.objs.size s.heap h'->wpAny (model P w) A (assignInOrder (ts.map (·.2)) us.toList) Q E { s with heap:=h' }):wpAny (model P w) A (unpack (.ref l) ts) Q E s:=by
 have ne:l≠s.heap.objs.size:=by
  obtain⟨o,ho,_⟩:=g1
  exact ZP (ZH ho)
 unfold unpack
 rw[hn,mE]
 refine ZD (aaj ?_)
 unfold unpackItems
 refine ZD ?_
 unfold notIterableAtAll
 refine ZD (ad8 g1.typeIs slot_list_iter.lookup (ZF ?_))
 simp only[aaO,abX]
 refine ZD (aaj (abq g1 ?_))
 refine ZD (aaj (vW ne us.size 0 _ _ ⟨_,ZN _ rfl,rfl,rfl⟩ (g1.push _) (by omega) fun w1 k1 b1=>?_))
 rw[show List.take us.size (List.drop 0 us.toList)=us.toList by rw[List.drop_zero];exact aco (by simp)]
 rw[Z4 (by simp)]
 refine ZD (aaj (wpAny_pyNext_list_end ha k1 ((g1.push _).extBut b1.extBut ne) (by simp) fun w2 b2=>?_))
 simp only[Option.isSome_none,aaO,abX]
 exact ZF (q w2 fun b o hb e=>b2 b o hb (b1.extBut b o hb (ZE _ e)))
end
inductive Nw (K:W.Frag)(n:Nat)(t:FG)(v:V)(σ:St)(H:Hp)(Q:St->Hp->Prop):Prop
 | mk:∀ a xs,(v=.ref a)->(aR K H a xs)->(xs.length=n)->(t xs σ H Q)->Nw K n t v σ H Q
theorem Ka {X:Cx}{es:List Expr}{k:Nat}{t:FG}{n:Nat}{pos:Pos}(hc:X.calm=true)(h:LD X es t)
  (hn:(assignEach es X.env).length=n:=by rfl) (mE:(assignEach es X.env).findIdx? (·.1)=none:=by rfl):PG X (.Tuple es k pos) (Nw X.K n t):=by
 intro pins s σ H v u Q I r hw
 obtain⟨a,xs,e1,hq,hl,hw⟩:=hw
 subst e1
 cases r
 obtain⟨aH,rv,p,hz⟩:=I.list hq
 rw[assign_Tuple]
 refine ZD (aba (yf (I.ok.hd hc) p.isList (by simp[hn,<- hl,rv.length]) mE fun h' hx=>?_))
 have I1:Inv X pins σ H { s with heap:=h' }:=I.kept (t':=s.toks) fun b o e=>hx b o (ZP (ZH e)) e
 exact h pins _ σ H xs _ Q I1 (by simpa using rv) hw
end L2
namespace L2
open PySem PySem.Spec PySem.Calls PyProof.Rows
section
variable {X:Cx}{N:List Str}{fr:List Nat}{x x2:Str}{scope:Scope}{cl:List (Str × Addr)}{elt iter:Expr}{px Cc tp pos:Pos}{kt:Nat}{wi:TI}{te:TE}
theorem rV {vS:Expr}{tc:TT}(hc:X.cb=true)(S:cG X N fr x x2 scope cl)(hi:PI X (.Tuple [.Name x px,.Name x2 Cc] kt tp) iter wi)(ht:∀ (C:Addr) (s0:Shared) (H0:Hp) (fp:List Addr) (pins:List (Addr × Obj)),PT (ow X N scope cl C s0 H0 fp pins) vS tc)(he:∀ (C:Addr) (s0:Shared) (H0:Hp) (fp:List Addr) (pins:List (Addr × Obj)),PE (ow X N scope cl C s0 H0 fp pins) elt te)
  (hs:∀ y,foldedSetIterable iter X.env y=pure y:=by intro _;rfl):PE X (.ListComp elt [⟨.Tuple [.Name x px,.Name x2 Cc] kt tp,iter,[vS],0⟩] scope pos) (zR X.K wi fr tc te):=by
 intro pins s σ H Q I h
 rw[adO]
 exact qk (use:=none) hc S hi (fun _ _ _ _ _=>t7 (ht _ _ _ _ _)) he hs I h fun acc C m H6 s7 qn hn mX _ _ _ _ _=>⟨m,hn,fun h' mI=>⟨.ref acc,H6,mX h' mI,rfl,qn⟩⟩
end
theorem vX {K:W.Frag}{a:Addr}{rs:List Addr}{xs:List (Int × Int)}{tc:TT}{te:TE}{σ:V->V->St}{H:Hp}{Q:VK}(hn:xs.length<sizeLine)(hl:rs.length=xs.length)(hK:∀ H',aw H H'->aR K H' a (rs.map V.ref))(hx:∀ (i:Nat) (r:Addr) (x:Int × Int),rs[i]?=some r->xs[i]?=some x->H r=some (.tup [.int x.1,.int x.2]))(p:Int->Bool)
  (ht:∀ (x:Int × Int) (H':Hp) (Q':Bool->Hp->Prop),aw H H'->Q' (p x.1) H'->tc (σ (.int x.1) (.int x.2)) H' Q')
  (he:∀ (x:Int × Int) (H':Hp) (Q':VK),aw H H'->Q' (.int x.1) H'->te (σ (.int x.1) (.int x.2)) H' Q')
  (q:∀ l H',aw H H'->H l=none->H' l=some (.lst (((xs.map (·.1)).filter p).map V.int))->Q (.ref l) H'):sN K (Fq K a) Q H tc te σ:=by
 intro acc bR
 refine⟨fun i m H' vs=>i<=xs.length/\m=xs.length-i/\aw H H'/\H' acc=some (.lst vs)/\vs=((((xs.take i).map (·.1)).filter p).map V.int),⟨xs.length,aaH _,by simp,au bR _,ah,by simp⟩,?_⟩
 rintro i m H' vs ⟨hi,rfl,g,ha,rfl⟩
 refine⟨ha,?_⟩
 by_cases h:i=xs.length
 ·refine .inl ⟨⟨_,hK _ g,by rw[ZR];omega⟩,q acc H' g bR ?_⟩
  rw[ha,h,abj]
 ·have fZ:i<xs.length:=by omega
  have RF:i<rs.length:=by omega
  refine .inr ⟨⟨_,.ref rs[i],hK _ g,by rw[ZU,ZK RF];rfl⟩,?_,?_⟩
  ·rw[ZR]
   have h1:=abT p ((xs.take i).map (·.1))
   rw[ZR,abk] at h1
   omega
  rintro z H2 ⟨rfl,hz⟩
  have Bk:=hz _ (hK _ g)
  rw[ZU,ZK RF] at Bk
  obtain rfl:=ZG Bk
  have hr:=hx i rs[i] xs[i] (ZK RF) (ZK fZ)
  refine⟨rs[i],.int xs[i].1,.int xs[i].2,rfl,aO.of (g _ _ hr),ht xs[i] H2 _ g ?_⟩
  have ts:(xs.take (i+1)).map (·.1)=(xs.take i).map (·.1)++[xs[i].1]:=by rw[ab7,ZK fZ,aaw];rfl
  cases e:p xs[i].1 with
  | true=>
   rw[aag rfl]
   refine he xs[i] H2 _ g ⟨ha,xs.length-(i+1),by omega,by omega,rfl,fU g bR,ah,?_⟩
   rw[ts,abP,aaw]
   have:[xs[i].1].filter p=[xs[i].1]:=by simp[e]
   rw[this]
   rfl
  | false=>
   rw[Z4 ZJ]
   refine⟨xs.length-(i+1),by omega,by omega,rfl,g,ha,?_⟩
   rw[ts,abP,aaw]
   have:[xs[i].1].filter p=[]:=by simp[e]
   rw[this]
   simp
end L2
namespace L2
open PySem PySem.Spec PyProof.Rows
def Kb (wi:TI)(fr:List Nat)(tc:TT)(te:TE)(k:Nat):TS:=fun D σ H=>vU wi fr tc te σ H fun v H'=>D.nx (σ.set k (some v)) H'
theorem De {X:Cx}{N:List Str}{fr:List Nat}{x:Str}{scope:Scope}{cl:List (Str × Addr)}{elt iter:Expr}{px pos:Pos}{wi:TI}{te:TE}{vS:Expr}{tc:TT}{y:Str}{py CZ:Pos}{k:Nat}(hN:X.N.Nodup)(hk:X.N[k]?=some y)(hy:Loc X.env.scope y)(Gi:swapsWith (.ListComp elt [⟨.Name x px,iter,[vS],0⟩] scope pos) (some (.Name y py)) CZ.line X.env=pure true)(hc:X.cb=true)(S:aM X N fr x scope cl)(hi:PI X (.Name x px) iter wi)(ht:∀ (C:Addr) (s0:Shared) (H0:Hp) (fp:List Addr) (pins:List (Addr × Obj)),PT (ow X N scope cl C s0 H0 fp pins) vS tc)(he:∀ (C:Addr) (s0:Shared) (H0:Hp) (fp:List Addr) (pins:List (Addr × Obj)),PE (ow X N scope cl C s0 H0 fp pins) elt te)
  (hf:X.fn y=true\/X.env.scope.names.lookup y=some .local) (hs:∀ y,foldedSetIterable iter X.env y=pure y:=by intro _;rfl):PS X (.Assign [.Name y py] (.ListComp elt [⟨.Name x px,iter,[vS],0⟩] scope pos) CZ) (Kb wi fr tc te k):=
 Gh hN hk hy Gi hc S hi ht he hf hs
def Ho (b:Bool)(xs:List V):HO:=match b with
 | true=>.lst xs
 | false=>.tup xs
def Sq (K:W.Frag)(H:Hp)(b:Bool)(a:Addr)(xs:List V):Prop:=match b with
 | true=>aR K H a xs
 | false=>aO K H a xs
def Nx (K:W.Frag)(b:Bool)(a:Addr):It:=match b with
 | true=>Fq K a
 | false=>Fs K a
theorem Sq.of {K:W.Frag}{H:Hp}{b:Bool}{a:Addr}{xs:List V}(h:H a=some (Ho b xs)):Sq K H b a xs:=by
 cases b with
 | true=>exact aR.of h
 | false=>exact aO.of h
inductive HY (K:W.Frag)(R:It->Hp->Prop)(x:V)(H1:Hp):Prop
 | mk:∀ a b xs,(x=.ref a)->(Sq K H1 b a xs)->(R (Nx K b a) H1)->HY K R x H1
def RG (K:W.Frag)(tl:TE):TI:=fun σ H R=>tl σ H fun x H1=>HY K R x H1
theorem Dh {X:Cx}{tg l:Expr}{tl:TE}(hl:PE X l tl):PI X tg l (RG X.K tl):=by
 intro pins s σ H R I h
 refine eD (hl pins s σ H _ I h) fun v s1 ⟨x,H1,I1,r1,q1⟩=>?_
 obtain⟨a,b,xs,e,hq,q⟩:=q1
 subst e
 cases r1
 cases b with
 | true=>
  obtain⟨aH,rv,p,hz⟩:=I1.list hq
  refine abq p.isList ?_
  refine⟨s1.heap.objs.size,[s1.heap.objs.size],_,_,H1,rfl,I1.kept (t':=s1.toks) fun b o e=>ZE _ e,si a _,⟨_,ZN _ rfl,rfl,rfl⟩,fun b hb=>?_,q⟩
  have e:b=s1.heap.objs.size:=by simpa using hb
  subst e
  exact I1.AN (ZL _) (I1.bh.fresh (ZL _))
 | false=>
  obtain⟨aH,rv,p,hz⟩:=I1.tuple hq
  refine adf (show s1.heap.IsTuple a aH.toArray from p) ?_
  refine⟨s1.heap.objs.size,[s1.heap.objs.size],_,_,H1,rfl,I1.kept (t':=s1.toks) fun b o e=>ZE _ e,pX a _,⟨_,ZN _ rfl,rfl,rfl⟩,fun b hb=>?_,q⟩
  have e:b=s1.heap.objs.size:=by simpa using hb
  subst e
  exact I1.AN (ZL _) (I1.bh.fresh (ZL _))
theorem Gp {K:W.Frag}{b:Bool}{a:Addr}{xs:List V}{g:TG}{tb:TS}{D:Ends}{σ:St}{H:Hp}(Pv:Nat->St->Hp->Prop)(h0:Pv 0 σ H)(hl:∀ i σ H,i<=xs.length->Pv i σ H->Sq K H b a xs)
  (hs:∀ i x σ H,xs[i]?=some x->Pv i σ H->g x σ H fun σ2 H2=>tb { D with nx:=Pv (i+1),ct:=Pv (i+1),bk:=D.nx } σ2 H2) (hd:∀ σ H,Pv xs.length σ H->D.nx σ H) :
  ∃ W:Nat->Nat->St->Hp->Prop,(∃ m,W 0 m σ H)/\∀ i m σ H,W i m σ H ->
   ((Nx K b a).stop i H/\D.nx σ H)\/((Nx K b a).go i H/\∃ N:St->Hp->Prop,(∀ σ' H',N σ' H'->∃ m',m'<m/\W (i+1) m' σ' H')/\∀ x H',(Nx K b a).zm i H x H'->g x σ H' fun σ2 H2=>tb { D with nx:=N,ct:=N,bk:=D.nx } σ2 H2):=by
 cases b with
 | true=>exact gY Pv h0 hl hs hd
 | false=>exact tM Pv h0 hl hs hd
theorem vY {K:W.Frag}{b:Bool}{a:Addr}{xs:List V}{tc:TT}{te:TE}{σ:V->St}{H:Hp}{Q:VK}(hn:xs.length<sizeLine)(p:V->Bool)(f:V->V)(hK:∀ H',aw H H'->Sq K H' b a xs)
  (ht:∀ (i:Nat) (x:V) (H':Hp) (Q':Bool->Hp->Prop),xs[i]?=some x->aw H H'->(∀ H2,aw H' H2->Q' (p x) H2)->tc (σ x) H' Q')
  (he:∀ (i:Nat) (x:V) (H':Hp) (Q':VK),xs[i]?=some x->p x=true->aw H H'->(∀ H2,aw H' H2->Q' (f x) H2)->te (σ x) H' Q')
  (q:∀ a H',aw H H'->H a=none->H' a=some (.lst ((xs.filter p).map f))->Q (.ref a) H'):gR (Nx K b a) Q H tc te σ:=by
 cases b with
 | true=>exact jo hn p f hK ht he q
 | false=>exact oC hn p f hK ht he q
section
variable {X:Cx}{tg:Expr}
end
section
variable {P:Program}{w:World}{K:W.Frag}{mg:Str->Option Value}{base:Heap}{N:List Str}{qual:Str}{scope:Scope}{f:Addr}{cd:Value}{A:Around}{outer:List Env}{s0:Shared}{H0:Hp}{E:XK}
end
section
variable {X:Cx}{N:List Str}{fr:List Nat}{x:Str}{scope:Scope}{cl:List (Str × Addr)}{elt iter:Expr}{px pos:Pos}{wi:TI}{te:TE}{EX:XK}
end
end L2
namespace L2
open PySem PySem.Spec PyProof.Rows PySem.W
def TabAt (P:Addr)(ps:Array Value):Heap->Prop:=fun h=>h.get? P=some (tabObj ps)
def qm (c:Addr)(q:Str):Heap->Prop:=fun h=>h.CodeRec (.ref c) q
def FnAt (f:Addr)(fd:FuncData):Heap->Prop:=fun h=>h.get? f=some { cls:=.type "function",data:=.func fd }
section
variable {P:Program}{w:World}{H:Hp}{h:Heap}
theorem yg {a:Addr}{ps:Array Value}(e:h.get? a=some (tabObj ps)):bI P w H h a (.ext (TabAt a ps)):=⟨e,⟨_,e⟩,fun h1 h2 x k=>k _ x⟩
theorem zV {a:Addr}{fd:FuncData}(e:h.get? a=some { cls:=.type "function",data:=.func fd }):bI P w H h a (.ext (FnAt a fd)):=⟨e,⟨_,e⟩,fun h1 h2 x k=>k _ x⟩
theorem Bo {a:Addr}{q:Str}(e:h.CodeRec (.ref a) q):bI P w H h a (.ext (qm a q)):=by
 obtain⟨c,o,vs,t,e1,e2,e3,e4⟩:=id e
 cases e1
 refine⟨e,⟨o,e2⟩,fun h1 h2 x k=>?_⟩
 obtain⟨c,o,vs,t,z1,z2,z3,z4⟩:=x
 cases z1
 exact⟨_,o,vs,t,rfl,k _ z2,z3,z4⟩
end
def eI (P:Addr)(pos:Pos)(q:Str)(H:Hp):Prop:=H P=some (.ext (TabAt P #[]))\/∃ c,H P=some (.ext (TabAt P #[rawInt pos.line,rawInt pos.col,.ref c]))/\H c=some (.ext (qm c q))
def BMod (mg:Str->Option Value)(h:Heap):Prop:=∃ bm o,mg "__builtins__"=some (.ref bm)/\bm≠builtinsNs/\h.get? bm=some o/\o.cls=.type "module"/\o.dict=some builtinsNs/\o.data=.plain
structure Ny (K:Frag)(mg:Str->Option Value)(base:Heap)(c P:Addr):Prop where
 hd:codeHdIn K c P=true
 bm:BMod mg base
section
variable {X:Cx}{pins:List (Addr × Obj)}{σ:St}{H:Hp}{s:Shared}{c P:Addr}{pos:Pos}{q:Str}{scope:Scope}{jA:List (Str × Addr)}{params:Arguments}{body:Expr}{fl:Nat}{M:Model}{A:Around}{E:Value->Shared->Prop}{Q:Value->Shared->Prop}
theorem Di (LK:Ny X.K X.mg X.base c P)(zW:X.env.code=.ref c)(Bp:closureFor scope X.env=pure jA)(I:Inv X pins σ H s)(st:eI P pos q H)
  (h:∀ (f c':Addr) (pm xv:Value) (H':Hp) (s':Shared),Inv X pins σ H' s'->H f=none->(∀ b o,b≠P->H b=some o->H' b=some o)->H' P=some (.ext (TabAt P #[rawInt pos.line,rawInt pos.col,.ref c']))->H' c'=some (.ext (qm c' q)) ->
   H' f=some (.ext (FnAt f (kla_fn "<lambda>" q params body scope jA pm (.ref c') xv)))->Q (.ref f) s') :
  wpAny M A (makeFunction "<lambda>" q params (.expr body) scope X.env [] [] [] pos fl) Q E s:=by
 have RH:s.heap.Ns mainGlobals X.mg:=I.mod.glob.keeps I.bk
 have C:CodeHd s.heap c P:=codeHd_of_K I.jw LK.hd
 obtain⟨bm,o,b1,b2,b5,b6,b7,b8⟩:=LK.bm
 have Wg:∃ ps,s.heap.get? P=some (tabObj ps):=by
  rcases st with st|⟨_,st,_⟩
  ·exact⟨_,(I.bh _ _ st).1⟩
  ·exact⟨_,(I.bh _ _ st).1⟩
 obtain⟨Zb,Uy⟩:=Wg
 have b3:bm≠mainGlobals:=fun q=>by
  obtain⟨o',es,ep,e,hd,_⟩:=I.mod.glob
  rw[q,e] at b5;cases b5;rw[hd] at b8;cases b8
 have b4:bm≠P:=fun q=>by
  have e:=I.bk _ _ b5
  rw[q,Uy] at e;cases e;cases b6
 have gP:mainGlobals≠P:=fun q=>by
  obtain⟨o',es,ep,e,hd,_⟩:=RH
  rw[q,Uy] at e;cases e;cases hd
 have hb:s.heap.BuiltinsAt X.mg P:=⟨bm,o,b1,b2,b3,b4,I.bk _ _ b5,b6,b7,b8⟩
 rcases st with st|⟨c',st,sc⟩
 ·have hP:s.heap.get? P=some (tabObj #[]):=(I.bh _ _ st).1
  refine kla_makeFunction Bp I.ok.glob RH zW C hP trivial rfl gP hb fun c' xv h' tk hx RI fZ RJ Wh=>?_
  have Kc:h'.get? P=some (tabObj #[rawInt pos.line,rawInt pos.col,.ref c']):=Wh
  have u1:Un X.fs [] H (upd H P (.ext (TabAt P #[rawInt pos.line,rawInt pos.col,.ref c']))) s.heap h':=Un.write (by rw[st];exact True.intro) (.inl rfl) (fun b u hb e=>hx b u hb e) ⟨_,Kc⟩
  have k1:=I.bh.write (o':=.ext (TabAt P #[rawInt pos.line,rawInt pos.col,.ref c'])) (by rw[st];exact True.intro) (.inl rfl) (fun b u hb e=>hx b u hb e) ⟨_,Kc⟩ (yg Kc)
  have nc:H c'=none:=I.bh.fresh RI
  have PF:c'≠P:=fun z=>by rw[z,st] at nc;cases nc
  have n1:(upd H P (.ext (TabAt P #[rawInt pos.line,rawInt pos.col,.ref c']))) c'=none:=by rw[aG PF];exact nc
  have nh:s.heap.get? c'=none:=by
   cases z:s.heap.get? c' with
   | none=>rfl
   | some o=>exact absurd (ZM (ZH z) RI) (aaT _)
  have I2:=I.un (t':=tk) (u1.more (o:=.ext (qm c' q)) nh n1) (k1.more n1 (Bo RJ))
  have I3:=I2.laid (a:=h'.objs.size) (o:=.ext (FnAt h'.objs.size (kla_fn "<lambda>" q params body scope jA ((X.mg "__name__").getD .none) (.ref c') xv))) (h':=h'.push (kla_obj "<lambda>" q params body scope jA ((X.mg "__name__").getD .none) c' xv)) (t':=tk) (fun b u e=>ZE _ e) (ZL _) (zV (ZN _ rfl))
  have nf:H h'.objs.size=none:=I.bh.fresh (ZV RI (acg fZ))
  have fc:h'.objs.size≠c':=ace fZ
  have fP:h'.objs.size≠P:=fun z=>by rw[z,st] at nf;cases nf
  refine h _ c' _ xv _ _ I3 nf (fun b o hb e=>?_) ?_ ?_ ah
  ·rw[aG (aI e nf),aG (aI e nc),aG hb]
   exact e
  ·rw[aG (Ne.symm fP),aG (Ne.symm PF),ah]
  ·rw[aG (Ne.symm fc),ah]
 ·have hP:s.heap.get? P=some (tabObj #[rawInt pos.line,rawInt pos.col,.ref c']):=(I.bh _ _ st).1
  refine kla_makeFunctionHit (cv:=.ref c') Bp I.ok.glob RH zW C hP trivial (by simp[codeAmong,rawInt]) hb fun xv h' tk hk zE=>?_
  have I1:Inv X pins σ H { s with heap:=h',toks:=tk }:=I.kept hk
  have I3:=I1.laid (a:=h'.objs.size) (o:=.ext (FnAt h'.objs.size (kla_fn "<lambda>" q params body scope jA ((X.mg "__name__").getD .none) (.ref c') xv))) (h':=h'.push { cls:=.type "function",data:=.func (kla_fn "<lambda>" q params body scope jA ((X.mg "__name__").getD .none) (.ref c') xv) }) (t':=tk) (fun b u e=>ZE _ e) (ZL _) (zV (ZN _ rfl))
  have nf:H h'.objs.size=none:=I.bh.fresh zE
  exact h _ c' _ xv _ _ I3 nf (fun b o _ e=>by rw[aG (aI e nf)];exact e) (by rw[aG (aI st nf)];exact st) (by rw[aG (aI sc nf)];exact sc) ah
end
def LX (X:Cx)(A:Around)(N:List Str)(q:Str)(scope:Scope)(cl:List (Str × Addr))(f:Addr)(cd:Value)(s:Shared)(H:Hp):Cx:=
 { X with A:=A.deeper (envX q scope s.heap.objs.size f cd cl),N:=N,s₀:=s,H₀:=H,env:=envX q scope s.heap.objs.size f cd cl,outer:=X.stack,stack:=envX q scope s.heap.objs.size f cd cl::X.stack,ex:=[],fn:=fun _=>false,fz:=[],pn:=[],calm:=true,cb:=true,xe:=fun _ _=>False }
structure iW (X:Cx)(N:List Str)(fr:List Nat)(x:Str)(scope:Scope)(cl:List (Str × Addr)):Prop where
 kind:scope.kind=.function
 co:scope.isCoroutine=false
 gen:scope.isGenerator=false
 gj:∀ y∈scope.names,y.2≠.cell
 own:scope.names.lookup x=some .local
 jA:closureFor scope X.env=pure cl
 sub:∀ y c,cl.lookup y=some c->X.env.cells.lookup y=some c
 has:∀ y,scope.names.lookup y=some .free->∃ c,cl.lookup y=some c
 nd:N.Nodup
 hN:N[0]?=some x
 len:N.length=fr.length+1
 out:∀ (j k:Nat),fr[j]?=some k->∃ y,N[j+1]?=some y/\X.N[k]?=some y/\X.env.kindOf y=some .cell/\scope.names.lookup y=some .free
section
variable {X:Cx}{A:Around}{N:List Str}{fr:List Nat}{x q:Str}{scope:Scope}{cl:List (Str × Addr)}{f:Addr}{cd:Value}{pins:List (Addr × Obj)}{σ:St}{H:Hp}{s s1:Shared}{v:V}{u:Value}
theorem Bq (S:iW X N fr x scope cl)(hd:A.handled=none)(hA:A.frames=some X.stack)(I:Inv X pins σ H s)(r:RelV v u){m:Str->Option Value}{h1:Heap}{tk:Nat}(hn:h1.Ns s.heap.objs.size m)(hm:m x=some u)
  (hk:∀ b o,s.heap.get? b=some o->h1.get? b=some o):Inv (LX X A N q scope cl f cd s H) [] (d9 σ fr (some v)) H { s with heap:=h1,toks:=tk }:=by
 obtain⟨m0,Ur,hl⟩:=id I.loc
 refine⟨⟨I.ok.mod,S.kind,rfl,rfl,ZL _,fun y z c h1 h2=>I.ok.inj y z c (S.sub _ _ h1) (S.sub _ _ h2),fun y hy=>?_,fun y c h _=>(by cases h),fun _=>hd,fun _=>.inl hd,adG hA,.inr ⟨rfl,rfl⟩,fun b z=>absurd z (by simp[LX]),fun b o e=>I.bs b o e,ZV I.ok.vn I.sz,fun b o e=>by simp[LX],fun b z=>absurd z (by simp[LX]),I.stack,I.kj⟩,
  fun p hp=>(by cases hp),rfl,I.bare,Un.kept hk,⟨m,hn,fun i y w e1 e2 e3=>?_⟩,fun y c h=>?_,I.bh.fresh (ZL _),fun y c h=>I.eW y c (S.sub _ _ h),fun p hp=>(by cases hp),I.bh.kept hk,?_⟩
 ·have Wi:scope.names.lookup y=some .cell\/scope.names.lookup y=some .free:=hy
  rcases Wi with z|z
  ·exact absurd rfl (S.gj _ (aaQ z))
  ·exact S.has y z
 ·cases i with
  | zero=>
   have Fu:N[0]?=some y:=e1
   rw[S.hN] at Fu
   cases Fu
   cases e2
   exact⟨u,r,.inl ⟨S.own,hm⟩⟩
  | succ j=>
   have t6:(fr.map fun k=>(σ[k]?).join)[j]?=some (some w):=e2
   rw[ZU] at t6
   cases ek:fr[j]? with
   | none=>rw[ek] at t6;cases t6
   | some k=>
    rw[ek] at t6
    have e4:(σ[k]?).join=some w:=ZG t6
    obtain⟨y',z1,z2,z3,z4⟩:=S.out j k ek
    have Fu:N[j+1]?=some y:=e1
    obtain rfl:y'=y:=ZG (z1.symm.trans Fu)
    have e5:σ[k]?=some (some w):=by
     cases qq:σ[k]? with
     | none=>rw[qq] at e4;cases e4
     | some w=>rw[qq] at e4;exact aai some e4
    obtain⟨u',r',lk⟩:=hl k y' w z2 e5 (.inr (.inl z3))
    refine⟨u',r',.inr ?_⟩
    rcases lk with ⟨z,_⟩|⟨_,c,hc,oh⟩
    ·rw[z3] at z;cases z
    ·obtain⟨c2,HQ⟩:=S.has y' z4
     have:=S.sub _ _ HQ
     rw[hc] at this;cases this
     obtain⟨o,w1,w2⟩:=oh
     exact⟨.inr z4,c,HQ,o,hk _ _ w1,w2⟩
 ·obtain⟨v,o,z1,z2⟩:=I.cell y c (S.sub _ _ h)
  exact⟨v,o,hk _ _ z1,z2⟩
 ·show (d9 σ fr (some v)).length=N.length
  rw[S.len]
  simp[d9]
theorem Dj {params:Arguments}{body:Expr}{pm xv:Value}{c':Addr}{te:TE}{Q:VK}{R:Value->Shared->Prop}{E':Value->Shared->Prop}(S:iW X N fr x scope cl)(hd:A.handled=none)(hA:A.frames=some X.stack)(Dk:A.depth<recursionLimit)(I:Inv X pins σ H s)(hf:H f=some (.ext (FnAt f (kla_fn "<lambda>" q params body scope cl pm (.ref c') xv))))(hc:H c'=some (.ext (qm c' q)))
  (vZ:∀ w:Value,bindArgs (kla_fn "<lambda>" q params body scope cl pm (.ref c') xv) ⟨[w],[]⟩=pure [(x,w)]) (r:RelV v u) (hb:PE (LX X A N q scope cl f (.ref c') s H) body te) (h:te (d9 σ fr (some v)) H Q)
  (k:∀ u' s',EP X pins σ Q u' s'->R u' s'):wpAny (model X.prog X.w) A (call (.ref f) [u]) R E' s:=by
 refine abL (kla_callFunE (fd:=kla_fn "<lambda>" q params body scope cl pm (.ref c') xv) Dk (I.bh _ _ hf).1 rfl S.co S.gen rfl (I.bh _ _ hc).1 ?_)
 rw[vZ]
 have lim:s.heap.NoLimit:=I.ok.mod.nolimit.keeps fun b o e=>(I.bs b o e).1
 refine ZF (adE S.gj (fun y hy=>?_) (fun h₁ HR LV=>⟨lim.fresh _ LV,?_⟩) S.kind)
 ·rw[aar.mp hy]
  exact S.own
 have NA:∀ b o,s.heap.get? b=some o->h₁.get? b=some o:=fun b o e=>LV.extBut b o (ZP (ZH e)) (ZE _ e)
 show codeAny _ _ (.expr body (envX q scope s.heap.objs.size f (.ref c') cl)) _ _
 have J:=Bq (q:=q) (f:=f) (cd:=.ref c') (tk:=s.toks+1) S hd hA I r HR (by simp) NA
 refine kla_codeExpr (Z2 (hb [] _ _ H Q J h) (fun u' s' hq=>?_) fun _ _ z=>z.elim)
 obtain⟨v',H',J',rv,qv⟩:=hq
 exact k u' s' (I.after ⟨v',H',J'.os,J'.bare,J'.base,J'.bh,rv,qv⟩)
end
end L2
namespace L2
open PySem PySem.Spec PyProof.Rows
section
variable {prog:Program}{w:World}{A:Around}{E:Value->Shared->Prop}{s:Shared}{a₀:Array Keyed}
theorem zX {st:SortSt}(hB:SBase a₀ st)(hm:∀ j,j<a₀.size->K a₀ 0<=K a₀ j){i:Nat}(hi:i<a₀.size):K a₀ 0<=K (arrOf st) i:=by
 have Cb:i<(arrOf st).size:=by rw[hB.size];exact hi
 have mem:(arrOf st)[i]∈a₀.toList:=(Array.perm_iff_toList_perm.mp hB.perm).mem_iff.mp (by simp)
 obtain⟨j,hj,e⟩:=aaU mem
 have HZ:j<a₀.size:=by simpa using hj
 have:K (arrOf st) i=K a₀ j:=K_congr (by
  rw[ad7 _ i Cb,ad7 a₀ j HZ,<- e]
  simp)
 rw[this]
 exact hm j HZ
def rW (a₀:Array Keyed)(st:SortSt)(k:Nat):Prop:=SBase a₀ st/\SortedTo (arrOf st) k/\(arrOf st)[0]?=a₀[0]?
theorem RK {st:SortSt}{ok:Nat}{Q:Bool->SortSt->Prop}(h0:IntKeys a₀)(hm:∀ j,j<a₀.size->K a₀ 0<=K a₀ j)(bh:ok<=a₀.size)(hs:rW a₀ st ok)
  (h:∀ vz,rW a₀ vz a₀.size->Q true vz):wpS (model prog w) A E s (binarySort' 0 a₀.size ok) Q st:=by
 rw[binarySort'_eq]
 simp only[aeb]
 refine ab4 (wpS_mono (wpS_forRange (I:=fun z c t=>c=(none,())/\rW a₀ t (min z a₀.size)) (Q:=fun c t=>c=(none,())/\rW a₀ t a₀.size) ?step ?fin ?init) ?post)
 case post=>
  rintro c t ⟨rfl,ht⟩
  exact ac0 (h t ht)
 case init=>
  refine⟨rfl,hs.1,fun i j xF hj=>?_,hs.2.2⟩
  by_cases z:ok=0
  ·obtain rfl:i=j:=by omega
   exact aaV _
  ·exact hs.2.1 i j xF (by omega)
 case fin=>
  rintro c t ⟨hc,ht⟩
  rw[show min (max (max ok 1) a₀.size) a₀.size=a₀.size by omega] at ht
  exact⟨hc,ht⟩
 case step=>
  rintro z c t za zn ⟨rfl,ht⟩
  rw[show min z a₀.size=z by omega] at ht
  obtain⟨tB,tS,tH⟩:=ht
  have k0:K (arrOf t) 0=K a₀ 0:=K_congr tH
  refine ab4 (wpS_mono (wpS_forRange (I:=fun y c t2=>t2=t/\∃ l r,c=(none,l,r)/\l<=r/\1<=r/\r<=z/\r-l<=z-y/\(∀ i,i<l->K (arrOf t) i<=K (arrOf t) z)/\∀ i,r<=i->i<z->K (arrOf t) z<K (arrOf t) i)
   (Q:=fun c t2=>t2=t/\∃ l,c=(none,l,l)/\1<=l/\l<=z/\(∀ i,i<l->K (arrOf t) i<=K (arrOf t) z)/\∀ i,l<=i->i<z->K (arrOf t) z<K (arrOf t) i) ?istep ?ifin ?iinit) ?ipost)
  case iinit=>exact⟨rfl,0,z,rfl,by omega,by omega,by omega,by omega,fun i hi=>by omega,fun i h1 h2=>by omega⟩
  case ifin=>
   rintro c t2 ⟨rfl,l,r,rfl,h1,h2,h3,h4,lo,hi⟩
   obtain rfl:l=r:=by omega
   exact⟨rfl,l,rfl,h2,h3,lo,hi⟩
  case istep=>
   rintro y c t2 _ yz ⟨rfl,l,r,rfl,h1,h2,h3,h4,lo,hi⟩
   dsimp only
   by_cases ge:l >= r
   ·rw[aag ge]
    obtain rfl:l=r:=by omega
    exact ac0 ⟨rfl,l,rfl,h2,h3,lo,hi⟩
   ·rw[Z4 ge]
    refine ab4 (wpS_ltK tB h0 (by omega) (by omega) ?_)
    by_cases less:K (arrOf t2) z<K (arrOf t2) ((l+r) / 2)
    ·simp only[less,decide_true,acR]
     have m1:1<=(l+r) / 2:=by
      rcases adK 0 ((l+r) / 2) with q|q
      ·exact q
      ·exfalso
       have e:(l+r) / 2=0:=by omega
       rw[e,k0] at less
       have:=zX tB hm (i:=z) (by omega)
       omega
     refine ac0 ⟨rfl,l,(l+r) / 2,rfl,by omega,m1,by omega,by omega,lo,fun i i1 i2=>?_⟩
     exact Int.lt_of_lt_of_le less (tS _ _ i1 i2)
    ·simp only[less,decide_false,aaO,abX]
     refine ac0 ⟨rfl,(l+r) / 2+1,r,rfl,by omega,h2,h3,by omega,fun i i1=>?_,hi⟩
     exact abD (tS i ((l+r) / 2) (by omega) (by omega)) (Int.not_lt.mp less)
  case ipost=>
   rintro c t2 ⟨rfl,l,rfl,h2,h3,lo,hi⟩
   show wpS _ _ _ _ (do moveDown' z l;pure (ForInStep.yield (none,()))) _ _
   rw[moveDown'_eq]
   have zs:z<(arrOf t2).size:=by rw[tB.size];omega
   refine ab4 (wpS_modify (ac0 ⟨rfl,tB.setArr (bubble_perm _ _ _),?_,?_⟩))
   ·rw[show min (z+1) a₀.size=z+1 by omega]
    intro i j xF hj
    show K (bubble (arrOf t2) z (z-l)) i<=K (bubble (arrOf t2) z (z-l)) j
    rw[K_bubble zs (by omega),K_bubble zs (by omega),show z-(z-l)=l by omega]
    repeat' split
    all_goals first
     | (exfalso;omega)
     | exact aaV _
     | exact lo _ (by omega)
     | exact Z1 (hi _ (by omega) (by omega))
     | exact tS _ _ (by omega) (by omega)
   ·show (bubble (arrOf t2) z (z-l))[0]?=_
    rw[getElem?_bubble zs _ (by omega),Z4 (by omega),Z4 (by omega)]
    exact tH
theorem RM {st:SortSt}{Q:Option Nat->SortSt->Prop}(h0:IntKeys a₀)(hm:∀ j,j<a₀.size->K a₀ 0<=K a₀ j)(h1:1<=a₀.size)(hs:rW a₀ st 1)
  (h:∀ m,m<=a₀.size->rW a₀ st m->Q (some m) st):wpS (model prog w) A E s (countRun' 0 a₀.size) Q st:=by
 rw[countRun0_eq]
 refine ab4 (wpS_ascLoop h0 (ZL _) (ZL 1) h1 hs.1 hs.2.1 fun n n1 n2 ns alt=>?_)
 dsimp only
 have k0:K (arrOf st) 0=K a₀ 0:=K_congr hs.2.2
 by_cases e:n=a₀.size
 ·rw[aag (by simpa using e)]
  exact ac0 (h n n2 ⟨hs.1,ns,hs.2.2⟩)
 ·rw[Z4 (by simpa using e)]
  have lt:K (arrOf st) n<K (arrOf st) (n-1):=alt.resolve_left e
  have low:=zX hs.1 hm (i:=n) (by omega)
  by_cases g:n > 1
  ·rw[aag g]
   refine ab4 (wpS_ltK hs.1 h0 (by omega) (by omega) ?_)
   have RN:K (arrOf st) 0<K (arrOf st) (n-1):=by omega
   simp only[RN,decide_true,acR]
   exact ac0 (h n n2 ⟨hs.1,ns,hs.2.2⟩)
  ·exfalso
   obtain rfl:n=1:=by omega
   rw[show 1-1=0 from rfl,k0] at lt
   omega
def t8 (a₀:Array Keyed)(t:SortSt):Prop:=(arrOf t).Perm a₀/\failedOf t=none/\pendingOf t=#[(0,a₀.size,0)]/\SortedTo (arrOf t) a₀.size/\(arrOf t)[0]?=a₀[0]?
theorem rW.done {t:SortSt}(x:rW a₀ t a₀.size):t8 a₀ (setPending t ((pendingOf t).push (0,a₀.size,0))):=
 ⟨x.1.perm,x.1.failed,(by show (pendingOf t).push _=_;rw[x.1.pend];rfl),x.2.1,x.2.2⟩
theorem NC {st:SortSt}{Q:Unit->SortSt->Prop}(h0:IntKeys a₀)(hm:∀ j,j<a₀.size->K a₀ 0<=K a₀ j)(hs:rW a₀ st 1)(h2:2<=a₀.size)(zY:a₀.size<64)
  (h:∀ t,t8 a₀ t->Q () t):wpS (model prog w) A E s sortRuns' Q st:=by
 rw[sortRuns'_eq]
 refine ab4 (wpS_get ?_)
 dsimp only
 have RO:minRun' a₀.size a₀.size 0=a₀.size:=by
  have:∀ f,minRun' (f+1) a₀.size 0=a₀.size:=fun f=>by rw[minRun'_succ,aag zY];rfl
  have e:=this (a₀.size-1)
  rwa[show a₀.size-1+1=a₀.size by omega] at e
 simp only[hs.1.size,RO]
 refine ab4 (wpS_mono (wpS_forRange (I:=fun y c t=>(y=0/\c=(none,0)/\rW a₀ t 1)\/(1<=y/\c=(none,a₀.size)/\t8 a₀ t)) (Q:=fun c t=>c=(none,a₀.size)/\t8 a₀ t) ?step ?fin (.inl ⟨rfl,rfl,hs⟩)) ?post)
 case fin=>
  rintro c t (⟨y0,_⟩|⟨_,hc,d⟩)
  ·omega
  ·exact⟨hc,d⟩
 case step=>
  rintro y c t _ yn (⟨rfl,rfl,x⟩|⟨y1,rfl,d⟩)
  ·dsimp only
   rw[Z4 (by omega)]
   simp only[Nat.sub_zero,Nat.min_self,aeb]
   refine ab4 (RM h0 hm (by omega) x fun m m1 xm=>?_)
   dsimp only
   by_cases lt:m<a₀.size
   ·rw[aag lt]
    refine ab4 (wpS_lift (abK ⟨rfl,?_⟩))
    refine ab4 (RK h0 hm m1 xm fun t3 x3=>?_)
    simp only[adb,aaO,abX]
    refine ab4 (wpS_get ?_)
    rw[show (pendingOf t3).back?=none by rw[x3.1.pend];rfl]
    exact ab4 (wpS_modify (ac0 (.inr ⟨by omega,rfl,x3.done⟩)))
   ·rw[Z4 lt]
    obtain rfl:m=a₀.size:=by omega
    refine ab4 (wpS_get ?_)
    rw[show (pendingOf t).back?=none by rw[xm.1.pend];rfl]
    exact ab4 (wpS_modify (ac0 (.inr ⟨by omega,rfl,xm.done⟩)))
  ·dsimp only
   rw[aag (ZL _)]
   exact ac0 ⟨rfl,d⟩
 case post=>
  rintro c t ⟨rfl,d⟩
  dsimp only
  refine ab4 (wpS_mono (wpS_forRange (I:=fun _ c t2=>t2=t/\c=(none,())) (Q:=fun c t2=>t2=t/\c=(none,())) ?_ (fun _ _ z=>z) ⟨rfl,rfl⟩) ?_)
  ·rintro y c t2 _ _ ⟨rfl,rfl⟩
   refine ab4 (wpS_get ?_)
   rw[aag (by rw[d.2.2.1];exact ZL 1)]
   exact ac0 ⟨rfl,rfl⟩
  ·rintro c t2 ⟨rfl,rfl⟩
   exact ac0 (h _ d)
theorem ND {kd:SortSt}{Q:Unit->SortSt->Prop}(h0:IntKeys a₀)(hB:SBase a₀ kd)(he:arrOf kd=a₀)(h2:2<=a₀.size)(zY:a₀.size<64)
  (h:∀ t,(arrOf t).Perm a₀->failedOf t=none->SortedTo (arrOf t) a₀.size->((∀ j,j<a₀.size->K a₀ 0<=K a₀ j)->(arrOf t)[0]?=a₀[0]?)->Q () t):wpS (model prog w) A E s sortRuns' Q kd:=by
 by_cases hm:∀ j,j<a₀.size->K a₀ 0<=K a₀ j
 ·refine NC h0 hm ⟨hB,fun i j xF hj=>?_,by rw[he]⟩ h2 zY fun t d=>h t d.1 d.2.1 d.2.2.2.1 fun _=>d.2.2.2.2
  obtain rfl:i=j:=by omega
  exact aaV _
 ·exact wpS_sortRuns h0 hB h2 zY fun t p f o=>h t p f o fun z=>absurd z hm
end
def gJ (a:Addr)(o:Obj):Heap->Prop:=fun h=>h.get? a=some o
theorem jO {P:Program}{w:World}{H:Hp}{h:Heap}{a:Addr}{o:Obj}(e:h.get? a=some o):bI P w H h a (.ext (gJ a o)):=⟨e,⟨_,e⟩,fun h1 h2 x k=>k _ x⟩
def xw:Value->V
 | .bool b=>.bl b
 | .int i _=>.int i
 | .str x _=>.str x
 | .bytes b _=>.zh b
 | .float b _=>.FD b
 | .ref a=>.ref a
 | .type n=>.ty n
 | _=>.eB
theorem Dl {v:V}{u:Value}(r:RelV v u):xw u=v:=by
 cases v with
 | int i=>obtain⟨t,rfl⟩:=r;rfl
 | str i=>obtain⟨t,rfl⟩:=r;rfl
 | zh i=>obtain⟨t,rfl⟩:=r;rfl
 | FD i=>obtain⟨t,rfl⟩:=r;rfl
 | _=>cases r;rfl
theorem lY:∀ {xs:List V}{us:List Value},Vals xs us->us.map xw=xs
 | _,_,.nil=>rfl
 | _,_,.cons r t=>by rw[ab0,Dl r,lY t]
theorem v5 {xs:List V}{us:List Value}(r:Vals xs us):∀ {ws:List Value},(∀ u∈ws,u∈us)->Vals (ws.map xw) ws
 | [],_=>.nil
 | w::ws,h=>.cons (by
   obtain⟨i,hi,e⟩:=aaU (h w (.head _))
   have hx:i<xs.length:=by rw[r.length];exact hi
   obtain⟨u,e1,e2⟩:=r.get (ZK hx)
   rw[ZK hi,e] at e1
   cases e1
   rw[Dl e2];exact e2) (v5 r fun u hu=>h u (.tail _ hu))
structure k8 (xs:List V)(g:V->Int)(ys:List V):Prop where
 perm:ys.Perm xs
 rise:ys.Pairwise fun a b=>g a<=g b
 first:∀ a,xs[0]?=some a->(∀ b∈xs,g a<=g b)->ys[0]?=some a
theorem Dm {xs:List V}{aH:List Value}{g:V->Int}{kA:Array Value}(r:Vals xs aH)(hk:IntsAre kA.toList (xs.map g)){p:Keyed}(hp:p∈(kA.zip aH.toArray).toList):numOf p.1=g (xw p.2):=by
 rw[ksk_zip] at hp
 obtain⟨i,hi,rfl⟩:=aaU hp
 rw[List.length_zip] at hi
 have e1:=hk.nums
 rw[List.getElem_zip]
 show numOf kA.toList[i]=g (xw aH[i])
 have h1:i<kA.toList.length:=by omega
 have h2:i<aH.length:=by omega
 have a1:(kA.toList.map numOf)[i]?=some (numOf kA.toList[i]):=by rw[ZU,ZK h1];rfl
 have a2:(aH.map xw)[i]?=some (xw aH[i]):=by rw[ZU,ZK h2];rfl
 rw[e1,<- lY r,ZU,a2] at a1
 exact (ZG a1).symm
theorem sorted_out {xs:List V}{aH:List Value}{g:V->Int}{kA:Array Value}{a:Array Keyed}(r:Vals xs aH)(hk:IntsAre kA.toList (xs.map g))(hp:a.Perm (kA.zip aH.toArray))(hs:SortedTo a a.size)
  (hf:(∀ j,j<(kA.zip aH.toArray).size->K (kA.zip aH.toArray) 0<=K (kA.zip aH.toArray) j)->a[0]?=(kA.zip aH.toArray)[0]?) :
  Vals ((a.map (·.2)).toList.map xw) (a.map (·.2)).toList/\k8 xs g ((a.map (·.2)).toList.map xw):=by
 have hl:kA.toList.length=aH.length:=by rw[hk.length,ZR,r.length]
 have pl:a.toList.Perm (kA.toList.zip aH):=by rw[<- ksk_zip];exact Array.perm_iff_toList_perm.mp hp
 have p2:(a.map (·.2)).toList.Perm aH:=by
  have:=pl.map Prod.snd
  rw[List.map_snd_zip (by omega)] at this
  rw[adN]
  exact this
 have mem:∀ p∈a.toList,numOf p.1=g (xw p.2):=fun p z=>Dm r hk (by rw[ksk_zip];exact pl.mem_iff.mp z)
 refine⟨v5 r fun u hu=>p2.mem_iff.mp hu,?_,?_,?_⟩
 ·have:=p2.map xw
  rw[lY r] at this
  exact this
 ·rw[adN,List.map_map,abZ,List.pairwise_iff_getElem]
  intro i j hi hj xF
  have Cb:i<a.size:=by simpa using hi
  have HZ:j<a.size:=by simpa using hj
  have q:=hs i j (acg xF) HZ
  rw[K_eq Cb,K_eq HZ] at q
  have m1:=mem a.toList[i] (abl hi)
  have m2:=mem a.toList[j] (abl hj)
  simp only[Array.getElem_toList] at m1 m2 ⊢
  show g (xw a[i].2)<=g (xw a[j].2)
  rw[<- m1,<- m2]
  exact q
 ·intro v hv hm
  have zs:(kA.zip aH.toArray).size=xs.length:=by
   have:kA.size=xs.length:=by rw[<- aac,hl,r.length]
   have h3:aH.toArray.size=xs.length:=by rw[ZQ,r.length]
   rw[Array.size_zip,this,h3,Nat.min_self]
  have key:∀ j,(hj:j<xs.length)->K (kA.zip aH.toArray) j=g xs[j]:=fun j hj=>by
   have HZ:j<(kA.zip aH.toArray).size:=by omega
   rw[K_eq HZ,Dm r hk (p:=(kA.zip aH.toArray)[j]) (by rw[Array.mem_toList_iff];exact Array.getElem_mem HZ)]
   congr 1
   have:(aH.map xw)[j]?=xs[j]?:=by rw[lY r]
   rw[ZU,ZK (by rw[<- r.length];exact hj),ZK hj] at this
   have:=ZG this
   rw[<- this]
   simp
  have x0:0<xs.length:=(aae.mp hv).1
  have ev:xs[0]=v:=(aae.mp hv).2
  have hz:=hf fun j hj=>by
   rw[key 0 x0,key j (by omega),ev]
   exact hm _ (abl _)
  have e0:(aH.map xw)[0]?=some v:=by rw[lY r];exact hv
  rw[ZU] at e0
  rw[adN,ZU,ZU,Array.getElem?_toList,hz]
  have i0:0<aH.length:=by rw[<- r.length];exact x0
  rw[ZK i0] at e0
  have k0:0<(kA.zip aH.toArray).size:=by omega
  rw[ad7 _ 0 k0]
  simpa using e0
section
variable {X:Cx}{pins:List (Addr × Obj)}{σ:St}{H:Hp}{s:Shared}
theorem Inv.zZ {a:Addr}{φ:Heap->Prop}{o:HO}{f:Obj->Obj}(I:Inv X pins σ H s)(h:H a=some (.ext φ))(Ht:∃ u,(s.heap.update a f).get? a=some u)(new:bI X.prog X.w (upd H a o) (s.heap.update a f) a o) :
  Inv X pins σ (upd H a o) { s with heap:=s.heap.update a f }:=
 I.write (t':=s.toks) (by rw[h];exact True.intro) (.inl rfl) (fun b u hb e=>((aam s.heap a f).2 b hb).trans e) Ht new
variable {A:Around}{E:Value->Shared->Prop}{P:PySem.Fin->Shared->Prop}{D kS f:Addr}{xs:List V}{aH:List Value}{g:V->Int}{Hb:Hp}{e1:Nat}
theorem RP {keys:Array Value}{e:Nat}(I:Inv X pins σ H s)(hD:H D=some (.ext (gJ D (seqObj "list" #[] e1))))(hS:H kS=some (.ext (gJ kS (seqObj "list" keys e))))(lQ:D≠kS)(hb:∀ b o,Hb b=some o->b≠D/\b≠kS/\H b=some o)
  (r:Vals xs aH) (hk:IntsAre keys.toList (xs.map g)) (h2:2<=xs.length) (zY:xs.length<64)
  (fin:∀ (ys:List V) (H':Hp) (s':Shared),k8 xs g ys->aw Hb H'->H' D=some (.lst ys)->Inv X pins σ H' s'->P (.done (.ret .none)) s') :
  wpAny (model X.prog X.w) A (ksk_end D false aH.toArray e1 (.ref kS) keys) P E s:=by
 have hl:aH.length=xs.length:=r.length.symm
 have zE:keys.size=xs.length:=by rw[<- aac,hk.length,ZR]
 have Wj:(keys.zip aH.toArray).size=xs.length:=by rw[Array.size_zip,zE,ZQ];omega
 have nk:s.heap.get? kS=some (seqObj "list" keys e):=(I.bh _ _ hS).1
 have nD:s.heap.get? D=some (seqObj "list" #[] e1):=(I.bh _ _ hD).1
 unfold ksk_end
 dsimp only
 rw[Z4 (by simp),Z4 (by rw[ZQ];omega),Z4 (by rw[ZQ];omega)]
 rw[ksk_kind hk (by omega)]
 refine ZD (ZF ?_)
 refine ZD (Z2 (ND (a₀:=keys.zip aH.toArray) (kd:=SortSt.mk' oneType' (keys.zip aH.toArray) #[] 7 none)
  (Q:=fun _ t=>(arrOf t).Perm (keys.zip aH.toArray)/\failedOf t=none/\SortedTo (arrOf t) (keys.zip aH.toArray).size/\((∀ j,j<(keys.zip aH.toArray).size->K (keys.zip aH.toArray) 0<=K (keys.zip aH.toArray) j)->(arrOf t)[0]?=(keys.zip aH.toArray)[0]?))
  (ksk_intKeys hk) ⟨Array.Perm.refl _,rfl,rfl,rfl⟩ rfl (by omega) (by omega) fun t a1 a2 a3 a4=>⟨a1,a2,a3,a4⟩) ?_ fun _ _ e=>e)
 rintro⟨⟨⟩,st⟩ s2 ⟨e2,hp,hf,hs,hh⟩
 rw[e2]
 dsimp only
 obtain⟨vy,ko⟩:=sorted_out r hk hp (by rw[hp.size_eq];exact hs) hh
 have Kd:((arrOf st).map (·.2)).size=xs.length:=by rw[Array.size_map,hp.size_eq,Wj]
 generalize eo:(arrOf st).map (·.2)=out at vy ko Kd
 have s1:=aam s.heap kS (Obj.mapSeq fun _=>(#[]:Array Value))
 obtain⟨c1,o1⟩:∃ c,(s.heap.update kS (Obj.mapSeq fun _=>(#[]:Array Value))).get? kS=some (seqObj "list" #[] c):=⟨_,adV nk fun _=>#[]⟩
 have I1:=I.zZ (o:=.ext (gJ kS (seqObj "list" #[] c1))) hS ⟨_,o1⟩ (jO o1)
 have RQ:(s.heap.update kS (Obj.mapSeq fun _=>(#[]:Array Value))).get? D=some (seqObj "list" #[] e1):=(s1.2 D lQ).trans nD
 have Wk:(upd H kS (.ext (gJ kS (seqObj "list" #[] c1)))) D=some (.ext (gJ D (seqObj "list" #[] e1))):=by rw[aG lQ];exact hD
 obtain⟨c2,o2⟩:∃ c,((s.heap.update kS (Obj.mapSeq fun _=>(#[]:Array Value))).update D (Obj.mapSeq fun _=>out)).get? D=some (seqObj "list" out c):=⟨_,adV RQ fun _=>out⟩
 have I2:=I1.zZ (o:=.lst (out.toList.map xw)) (f:=Obj.mapSeq fun _=>out) Wk ⟨_,o2⟩ ⟨by rw[ZR,aac,Kd,abR];omega,_,c2,vy,by rw[Array.toArray_toList];exact o2⟩
 unfold ksk_tail
 dsimp only
 rw[eo]
 refine ZD (aeh nk rfl ?_ (by rw[zE,abR];omega) (aaH _))
 refine ZD (wpAny_letGo ?_)
 refine ZD (seqEpoch_at RQ rfl ?_)
 refine ZD (aeh RQ rfl ?_ (aaH _) (ZV (aed Kd) (by rw[abR];omega)))
 rw[hf]
 simp only[bne_self_eq_false,aaO,abX]
 refine ZF (fin _ _ _ ko (fun b o q=>?_) ah I2)
 obtain⟨q1,q2,q3⟩:=hb b o q
 rw[aG q1,aG q2]
 exact q3
theorem NF (I:Inv X pins σ H s)(hD:H D=some (.ext (gJ D (seqObj "list" #[] e1))))(hS:H kS=some (.ext (gJ kS (seqObj "list" #[] 0))))(lQ:D≠kS)(hb:∀ b o,Hb b=some o->b≠D/\b≠kS/\H b=some o)
  (r:Vals xs aH) (h2:2<=xs.length) (zY:xs.length<64)
  (turn:∀ (v:V) (u:Value) (H1:Hp) (s1:Shared),v∈xs->RelV v u->Inv X pins σ H1 s1->aw Hb H1->wpAny (model X.prog X.w) A (call (.ref f) [u]) (EP X pins σ fun y H2=>y=.int (g v)/\aw H1 H2) (fun _ _=>False) s1)
  (fin:∀ (ys:List V) (H':Hp) (s':Shared),k8 xs g ys->aw Hb H'->H' D=some (.lst ys)->Inv X pins σ H' s'->P (.done (.ret .none)) s') :
  wpAny (model X.prog X.w) A (ksk_rest D (.ref f) false aH.toArray e1 (.ref kS)) P E s:=by
 have hl:aH.length=xs.length:=r.length.symm
 unfold ksk_rest
 refine ZD (abK ?_)
 rw[List.forIn_toArray]
 refine ZD (ksk_fold (fun i s'=>∃ kA e H1,Inv X pins σ H1 s'/\(∀ b o,b≠kS->H b=some o->H1 b=some o)/\H1 kS=some (.ext (gJ kS (seqObj "list" kA e)))/\IntsAre kA.toList ((xs.map g).take i)) aH 0 s
  ⟨#[],0,H,I,fun _ _ _ q=>q,hS,by simpa using IntsAre.nil⟩ ?step ?done)
 case step=>
  rintro j u s' hx ⟨kA,e,H1,I1,k1,z1,hk⟩
  simp only[aeb] at hk ⊢
  have hj:j<aH.length:=(aae.mp hx).1
  have Uz:j<xs.length:=by omega
  obtain⟨u',q1,rv⟩:=r.get (ZK Uz)
  rw[hx] at q1;cases q1
  have hz:kA.size<=xs.length:=by
   have h1:=hk.length
   rw[aac,abk,ZR] at h1
   omega
  refine ZD (abb (Z2 (turn xs[j] u H1 s' (abl _) rv I1 fun b o q=>k1 b o (hb b o q).2.1 (hb b o q).2.2) (fun y xr he=>?_) fun _ _ hF=>hF.elim))
  obtain⟨v,H2,I2,rr,rfl,sm⟩:=he
  obtain⟨t2,rfl⟩:=rr
  dsimp only
  have z2:=sm _ _ z1
  have nk:xr.heap.get? kS=some (seqObj "list" kA e):=(I2.bh _ _ z2).1
  obtain⟨c2,o2⟩:∃ c,(xr.heap.update kS (Obj.mapSeq (·.push (.int (g xs[j]) t2)))).get? kS=some (seqObj "list" (kA.push (.int (g xs[j]) t2)) c):=⟨_,adV nk (·.push (.int (g xs[j]) t2))⟩
  have ek:(xs.map g).take (j+1)=(xs.map g).take j++[g xs[j]]:=by rw[abY,ZU,ZK Uz];rfl
  have ea:(kA.push (Value.int (g xs[j]) t2)).toList=kA.toList++[Value.int (g xs[j]) t2]:=by simp
  have I3:=I2.zZ (o:=.ext (gJ kS (seqObj "list" (kA.push (.int (g xs[j]) t2)) c2))) z2 ⟨_,o2⟩ (jO o2)
  refine ZD (aeh nk rfl ?_ (by rw[abR];omega) (ZV (aed (Array.size_push ..)) (by rw[abR];omega)))
  exact ZF ⟨rfl,_,c2,_,I3,fun b o UA q=>by rw[aG UA];exact sm _ _ (k1 b o UA q),ah,by rw[ea,ek];exact ksk_snoc hk⟩
 case done=>
  rintro s' ⟨kA,e,H1,I1,k1,z1,hk⟩
  have Ke:IntsAre kA.toList (xs.map g):=by
   have e3:(xs.map g).take (0+aH.length)=xs.map g:=aco (by rw[ZR];omega)
   rw[e3] at hk
   exact hk
  have nk:s'.heap.get? kS=some (seqObj "list" kA e):=(I1.bh _ _ z1).1
  refine ZD (listItems_at nk rfl ?_)
  exact RP I1 (k1 D _ lQ hD) z1 lQ (fun b o q=>⟨(hb b o q).1,(hb b o q).2.1,k1 b o (hb b o q).2.1 (hb b o q).2.2⟩) r Ke h2 zY fin
theorem NG {n:Nat}(I:Inv X pins σ H s)(hD:H D=some (.ext (gJ D (seqObj "list" aH.toArray n))))(hb:∀ b o,Hb b=some o->b≠D/\H b=some o)
  (r:Vals xs aH) (h2:2<=xs.length) (zY:xs.length<64)
  (turn:∀ (v:V) (u:Value) (H1:Hp) (s1:Shared),v∈xs->RelV v u->Inv X pins σ H1 s1->aw Hb H1->wpAny (model X.prog X.w) A (call (.ref f) [u]) (EP X pins σ fun y H2=>y=.int (g v)/\aw H1 H2) (fun _ _=>False) s1)
  (fin:∀ (ys:List V) (H':Hp) (s':Shared),k8 xs g ys->aw Hb H'->H' D=some (.lst ys)->Inv X pins σ H' s'->P (.done (.ret .none)) s') :
  wpAny (model X.prog X.w) A (ksk_tree D (.ref f) false) P E s:=by
 have hl:aH.length=xs.length:=r.length.symm
 have nD:s.heap.get? D=some (seqObj "list" aH.toArray n):=(I.bh _ _ hD).1
 obtain⟨e1,o1⟩:∃ e1,(s.heap.update D (Obj.mapSeq fun _=>(#[]:Array Value))).get? D=some (seqObj "list" #[] e1):=⟨_,adV nD fun _=>#[]⟩
 have I1:=I.zZ (o:=.ext (gJ D (seqObj "list" #[] e1))) hD ⟨_,o1⟩ (jO o1)
 have I2:=I1.kept (h':=(s.heap.update D (Obj.mapSeq fun _=>(#[]:Array Value))).push (seqObj "tuple" aH.toArray 0)) (t':=s.toks) fun b u e=>ZE _ e
 have I3:=I2.laid (a:=((s.heap.update D (Obj.mapSeq fun _=>(#[]:Array Value))).push (seqObj "tuple" aH.toArray 0)).objs.size) (o:=.ext (gJ _ (seqObj "list" #[] 0))) (t':=s.toks) (h':=((s.heap.update D (Obj.mapSeq fun _=>(#[]:Array Value))).push (seqObj "tuple" aH.toArray 0)).push (seqObj "list" #[] 0))
  (fun b u e=>ZE _ e) (ZL _) (jO (ZN _ rfl))
 have fr:(upd H D (.ext (gJ D (seqObj "list" #[] e1)))) ((s.heap.update D (Obj.mapSeq fun _=>(#[]:Array Value))).push (seqObj "tuple" aH.toArray 0)).objs.size=none:=I2.bh.fresh (ZL _)
 have lQ:D≠((s.heap.update D (Obj.mapSeq fun _=>(#[]:Array Value))).push (seqObj "tuple" aH.toArray 0)).objs.size:=aI ah fr
 unfold ksk_tree
 refine ZD (listItems_at nD rfl ?_)
 refine ZD (aeh nD rfl ?_ (by rw[ZQ,abR];omega) (aaH _))
 refine ZD (seqEpoch_at o1 rfl ?_)
 refine ZD (wpAny_newTuple ?_ (by show aH.length<=_;rw[abR];omega))
 refine ZD (wpAny_newList ?_ (aaH _))
 refine aaj ?_
 refine NF I3 (by rw[aG lQ];exact ah) ah lQ (fun b o q=>?_) r h2 zY turn fin
 obtain⟨q1,q2⟩:=hb b o q
 have q3:(upd H D (.ext (gJ D (seqObj "list" #[] e1)))) b=some o:=by rw[aG q1];exact q2
 have q4:=aI q3 fr
 exact⟨q1,q4,by rw[aG q4];exact q3⟩
theorem t9 {l:Addr}{Q:VK}{E:Value->Shared->Prop}(I:Inv X pins σ H s)(hl:aR X.K H l xs)(h2:2<=xs.length)(zY:xs.length<64)
  (turn:∀ (v:V) (u:Value) (H1:Hp) (s1:Shared),v∈xs->RelV v u->Inv X pins σ H1 s1->aw H H1->wpAny (model X.prog X.w) X.A.in1.in1 (call (.ref f) [u]) (EP X pins σ fun y H2=>y=.int (g v)/\aw H1 H2) (fun _ _=>False) s1)
  (h:∀ (D:Addr) (ys:List V) (H':Hp),k8 xs g ys->H D=none->aw H H'->H' D=some (.lst ys)->Q (.ref D) H') :
  wpAny (model X.prog X.w) X.A (call (.builtin "sorted") [.ref l] [(Str.ofString "key",.ref f)]) (EP X pins σ Q) E s:=by
 obtain⟨aH,r,pl,_⟩:=I.list hl
 have hn:aH.length=xs.length:=r.length.symm
 refine call_function_entry_kw kind_sorted plain_sorted entry_sorted (ksk_s1 _ _) ?_
 unfold Builtin.«sorted»
 refine ZD (m:=checkCount "sorted" 1 1 _) (ZF ?_)
 refine ZD (collect_list pl.isList ?_ (by rw[abR];omega))
 refine ZD (wpAny_newList ?_ (by rw[abR];omega))
 have zE:((s.heap.push (seqObj "list" #[] 0)).update s.heap.objs.size (Obj.mapSeq (·++aH.toArray))).objs.size=s.heap.objs.size+1:=by
  rw[Heap.size_update,size_push']
 have AM:(((s.heap.push (seqObj "list" #[] 0)).update s.heap.objs.size (Obj.mapSeq (·++aH.toArray))).push (seqObj "list" aH.toArray 0)).get? (s.heap.objs.size+1)=some (seqObj "list" aH.toArray 0):=by
  rw[<- zE];exact ZN _ rfl
 have keep:∀ b o,s.heap.get? b=some o->(((s.heap.push (seqObj "list" #[] 0)).update s.heap.objs.size (Obj.mapSeq (·++aH.toArray))).push (seqObj "list" aH.toArray 0)).get? b=some o:=fun b o q=>by
  have fZ:b<s.heap.objs.size:=ZH q
  rw[adY _ _ _ (by rw[zE];exact ZP (aaL fZ)),acW _ _ _ _ (ZP fZ),adY _ _ _ (ZP fZ)]
  exact q
 show wpAny _ _ _ _ _ { s with heap:=((s.heap.push (seqObj "list" #[] 0)).update s.heap.objs.size (Obj.mapSeq (·++aH.toArray))).push (seqObj "list" aH.toArray 0) }
 rw[zE]
 have fr:H (s.heap.objs.size+1)=none:=I.bh.fresh (aa3 _)
 have I1:=I.laid (a:=s.heap.objs.size+1) (o:=.ext (gJ (s.heap.objs.size+1) (seqObj "list" aH.toArray 0))) (t':=s.toks) keep (aa3 _) (jO AM)
 refine ZD (aaj (wpAny_call_entry_kw slot_list_sort ⟨_,AM,rfl⟩ entry_list_sort ?body (ksk_l1 _ _)))
 show wpAny (model X.prog X.w) X.A.in1.in1 (Builtin.«list.sort» ⟨[.ref (s.heap.objs.size+1)],[(Str.ofString "key",.ref f)]⟩) _ _ _
 rw[ksk_t1]
 refine NG (Hb:=H) I1 ah (fun b o q=>⟨aI q fr,by rw[aG (aI q fr)];exact q⟩) r h2 zY turn fun ys H' s' ko sm hd I'=>⟨_,rfl,?_⟩
 exact ZF ⟨_,rfl,.ref (s.heap.objs.size+1),H',I',rfl,h _ ys H' ko fr sm hd⟩
end
end L2
namespace L2
open PySem PySem.Spec PyProof.Rows PySem.W
def Ia:HO->Bool
 | .ext _=>true
 | _=>false
def Kx (H H':Hp):Prop:=∀ b o,Ia o=false->H b=some o->H' b=some o
theorem Kx.trans {H H1 H2:Hp}(a:Kx H H1)(b:Kx H1 H2):Kx H H2:=fun c o i e=>b c o i (a c o i e)
theorem aw.kx {H H1:Hp}(a:aw H H1):Kx H H1:=fun c o _ e=>a c o e
theorem Kx.Wl {K:Frag}{H H1:Hp}{a:Addr}{xs:List V}(k:Kx H H1)(h:aR K H a xs):aR K H1 a xs:=by
 rcases h with (h|⟨o,h⟩)|h
 ·exact .inl (.inl (k _ _ rfl h))
 ·exact .inl (.inr ⟨o,k _ _ rfl h⟩)
 ·exact .inr h
theorem eI.same {P:Addr}{pos:Pos}{q:Str}{H H1:Hp}(a:aw H H1)(h:eI P pos q H):eI P pos q H1:=by
 rcases h with h|⟨c,h1,h2⟩
 ·exact .inl (a _ _ h)
 ·exact .inr ⟨c,a _ _ h1,a _ _ h2⟩
inductive z5 (K:Frag)(P:Addr)(pos:Pos)(q:Str)(fr:List Nat)(te:TE)(σ:St)(Q:VK)(vs:List V)(H1:Hp):Prop
 | mk:∀ (l:Addr) (xs:List V) (g:V->Int),(vs=[.ref l])->(aR K H1 l xs)->(2<=xs.length)->(xs.length<64)->(eI P pos q H1)->((∀ v∈xs,∀ H2,Kx H1 H2->te (d9 σ fr (some v)) H2 fun y H3=>y=.int (g v)/\aw H2 H3))->(∀ D ys H',k8 xs g ys->H1 D=none->Kx H1 H'->eI P pos q H'->H' D=some (.lst ys)->Q (.ref D) H')->z5 K P pos q fr te σ Q vs H1
def Kf (K:Frag)(P:Addr)(pos:Pos)(q:Str)(fr:List Nat)(te:TE)(t:TA):TE:=fun σ H Q=>t σ H fun vs H1=>z5 K P pos q fr te σ Q vs H1
section
variable {X:Cx}{N:List Str}{fr:List Nat}{y:Str}{scope:Scope}{cl:List (Str × Addr)}{c P:Addr}{params:Arguments}{body e:Expr}{te:TE}{t:TA}{p pos kp mT:Pos}
theorem yh (LK:Ny X.K X.mg X.base c P)(zW:X.env.code=.ref c)(S:iW X N fr y scope cl)(hr:dt 0 X.A)(hm:X.mg "sorted"=none)(ha:PA X [e] t)
  (hb:∀ f cd s H,PE (LX X X.A.in1.in1 N (X.env.qual++"<lambda>") scope cl f cd s H) body te)
  (hg:Gl X "sorted":=by rfl) (z6:defaultsOf params X.env=([],[]):=by rfl)
  (vZ:∀ (pm xv cd w:Value),bindArgs (kla_fn "<lambda>" (X.env.qual++"<lambda>") params body scope cl pm cd xv) ⟨[w],[]⟩=pure [(y,w)]:=by exact fun _ _ _ _=>rfl)
  (he:∀ pos,backTo pos (starEach [e] X.env)=(false,eval e X.env)::backTo pos (starEach [] X.env):=by exact fun _=>rfl) :
  PE X (.Call (.Name "sorted" p) [e] [⟨some "key",.Lambda params body scope pos,kp⟩] mT) (Kf X.K P pos (X.env.qual++"<lambda>") fr te t):=by
 intro pins s σ H Q I h
 refine ab2 (mL I hg hm (show bootBuiltins "sorted"=some (.builtin "sorted") by decide +kernel) ?_ (by decide) (by decide))
 refine callWith_kw (eD (ha mT pins s σ H _ I h) fun us s1 ⟨vs,H1,I1,r1,q1⟩=>?_) (he _) (by rw[he];rfl) rfl rfl
 obtain⟨l,xs,g,rfl,hl,h2,zY,st,turn,fin⟩:=q1
 obtain⟨u,rfl,ru⟩:=r1.one
 cases ru
 refine kws_cons (kla_eval z6 (Di LK zW S.jA I1 st fun f c' pm xv H' s' I' nf kk kP kc kf=>kws_nil ?_))
 have PF:∀ b o,Ia o=false->H1 b=some o->b≠P:=fun b o i e z=>by
  subst z
  rcases st with z|⟨_,z,_⟩<;>(rw[z] at e;cases e;cases i)
 have kx:Kx H1 H':=fun b o i e=>kk b o (PF b o i e) e
 show wpAny _ _ (call (.builtin "sorted") [.ref l] [(Str.ofString "key",.ref f)]) _ _ _
 refine t9 (g:=g) I' (kx.Wl hl) h2 zY (fun v u H2 s2 hv rv I2 sm=>?_) fun D ys H3 ko nD sm hD=>?_
 ·exact Dj (E':=fun _ _=>False) S (A:=X.A.in1.in1) hr.hd (show X.A.frames=_ from I2.ok.frames) (show X.A.depth<_ from hr.depth) I2 (sm _ _ kf) (sm _ _ kc) (vZ _ _ _) rv (hb _ _ _ _) (turn v hv H2 (kx.trans sm.kx)) fun u' s' x=>x
 ·refine fin D ys H3 ko ?_ (kx.trans sm.kx) (.inr ⟨c',sm _ _ kP,sm _ _ kc⟩) hD
  cases z:H1 D with
  | none=>rfl
  | some o=>
   by_cases d:D=P
   ·subst d;rw[kP] at nD;cases nD
   ·rw[kk D o d z] at nD;cases nD
theorem iW.Wm {x:Str}(ys:List Str)(ks:List Nat)(jA:closureFor scope X.env=pure cl)(kind:scope.kind=.function:=by rfl)(co:scope.isCoroutine=false:=by rfl)(gen:scope.isGenerator=false:=by rfl)(gj:∀ z∈scope.names,z.2≠.cell:=by decide +kernel)(own:scope.names.lookup x=some .local:=by rfl)
  (sub:∀ p∈cl,X.env.cells.lookup p.1=some p.2:=by (intro p hp;(repeat (rcases ZI.mp hp with rfl|hp;focus rfl));cases hp))
  (only:∀ p∈scope.names,p.2=.free->(cl.lookup p.1).isSome=true:=by (intro p hp h;(repeat (rcases ZI.mp hp with rfl|hp;focus (first|rfl|cases h)));cases hp)) (nd:(x::ys).Nodup:=by decide) (hl:ks.length=ys.length:=by rfl)
  (hk:∀ p∈ks.zip ys,X.N[p.1]?=some p.2/\X.env.kindOf p.2=some .cell/\scope.names.lookup p.2=some .free:=by (intro p hp;(try simp only[acO,ac1] at hp);(repeat (rcases ZI.mp hp with rfl|hp;focus exact⟨rfl,rfl,rfl⟩));cases hp)):iW X (x::ys) ks x scope cl:=by
 refine⟨kind,co,gen,gj,own,jA,fun y c h=>sub (y,c) (aaQ h),fun y h=>aby.mp (only (y,.free) (aaQ h) rfl),nd,rfl,by simp[hl],fun j k h=>?_⟩
 have hj:j<ys.length:=by rw[<- hl];exact (aae.mp h).1
 have z:(ks.zip ys)[j]?=some (k,ys[j]):=by rw[List.getElem?_zip_eq_some];exact⟨h,ZK hj⟩
 obtain⟨a,b,d⟩:=hk _ (aau z)
 exact⟨ys[j],by simp[hj],a,b,d⟩
end
def z7 (K:Frag)(c P:Addr):Bool:=codeHdIn K c P&&(K.lookup P).isNone
theorem Dn {K:Frag}{c P:Addr}(h:z7 K c P=true):codeHdIn K c P=true/\K.lookup P=none:=by
 unfold z7 at h
 simpa [aaW,Option.isNone_iff_eq_none] using h
inductive LY (K:Frag)(mg:Str->Option Value)(x:Str)(st:Stmt)(c:Addr):Prop
 | mk:∀ (f:Addr) (oc:Value) (od an:Option Addr) (pF:Array (Option Value)) (kV doc pm ct:Value),K.lookup f=some ⟨oc,od,.func (fnOf x x (fM st) (aP st) (ar st) .none kV doc pm an (.ref c) ct),pF⟩->codeIn K (.ref c) x=true->keepIn K (.ref f)=true->mg x=some (.ref f)->LY K mg x st c
theorem Br {P:Program}{w:World}{K:W.Frag}{mg mb:Str->Option Value}{CX:sj}{k:Nat}{fa a c T:Addr}{fd:FuncData}{x:Str}{sp:Sp}{s₁:Shared}{vs:List Value}{ns:List Int}
  (KX:K.In s₁.heap) (HR:s₁.heap.Ns mainGlobals mg) (hb:s₁.heap.Ns builtinsNs mb) (Wn:∀ x:Str,x≠"__name__"->mb x=bootBuiltins x) (RR:s₁.heap.NoLimit) (hg:s₁.gens=#[])
  (ha:s₁.heap.get? a=some { cls:=.type "list",data:=.seq vs.toArray }) (hi:IntsAre vs ns) (hl:ns.length<=sizeLine) (hr:dt k callerA)
  (hT:s₁.heap.get? T=some (tabObj #[])) (hc:codeHdIn K c T=true) (Wo:K.lookup T=none)
  (Wq:BMod mg s₁.heap) (F:∀ base:Heap,K.In base->base.Ns mainGlobals mg->BMod mg base->ji P w K mg base CX k fa fd [x] sp) (vZ:∀ (s:Shared) (u:Value),BindsTo s fd ⟨[u],[]⟩ [(x,u)])
  (tN:∀ H:Hp,aR K H a (ns.map V.int)->H T=some (.ext (TabAt T #[]))->sp [.ref a] H (fun v H'=>v=.bl true/\∃ ps,H' T=some (.ext (TabAt T ps))) fun _ _ _=>False)
  (RS:∀ H e s',CX [] H s₁ (fun _ _ _=>False) e s'->False) :
  codeAny (model P w) callerA (.call (.ref fa) ⟨[.ref a],[]⟩) (fun r s'=>r=.ok (.ret (.bool true))/\OldK s₁.heap s'.heap/\s'.os=s₁.os/\AllBare s'.gens) s₁:=by
 have rv:=sF hi
 have RT:=hi.length
 have aT:a≠T:=fun z=>by rw[z,hT] at ha;cases ha
 have core:∀ H:Hp,aR K H a (ns.map V.int)->ki P w H s₁.heap->H T=some (.ext (TabAt T #[]))->(∀ b u,H b=some u->b=T\/(b=a/\∃ o xs,u=.mK o (.lst xs)))->(H a≠none->K.lookup a=none) ->
   codeAny (model P w) callerA (.call (.ref fa) ⟨[.ref a],[]⟩) (fun r s'=>r=.ok (.ret (.bool true))/\OldK s₁.heap s'.heap/\s'.os=s₁.os/\AllBare s'.gens) s₁:=by
  intro H hS bh Wr hA hK
  have MB:∀ {b:Addr}{o:Obj}{es:Array DictEntry}{ep:Nat},s₁.heap.get? b=some o->o.data=.dict es ep->H b=none:=fun {b o es ep} e d=>by
   cases q:H b with
   | none=>rfl
   | some u=>
    rcases hA b u q with rfl|⟨rfl,_⟩
    ·rw[hT] at e;cases e;cases d
    ·rw[ha] at e;cases e;cases d
  have PH:∀ {b:Addr}{m:Str->Option Value},s₁.heap.Ns b m->(tE s₁.heap H).Ns b m:=fun {b m} ⟨o,es,ep,e,d,r⟩=>⟨o,es,ep,pR e (MB e d),d,r⟩
  have UB:K.In (tE s₁.heap H):=fun b o e=>pR (KX b o e) (by
   cases q:H b with
   | none=>rfl
   | some u=>
    rcases hA b u q with rfl|⟨rfl,_⟩
    ·rw[Wo] at e;cases e
    ·rw[hK (by rw[q];simp)] at e;cases e)
  have hM:Mod K mg (tE s₁.heap H):=⟨UB,PH HR,⟨mb,PH hb,Wn⟩,let ⟨mc,h1,h2⟩:=RR;⟨mc,PH h1,h2⟩⟩
  have e0:rO P w K mg (tE s₁.heap H) callerA [] s₁ H:=⟨rfl,hM,fun b o e=>FE e,aed (AK _ _),trivial,fun b hb=>absurd (show b∈([]:List Addr) from hb) (by simp),bh,.of_eq hg⟩
  have Ws:BMod mg (tE s₁.heap H):=by
   obtain⟨bm,o,b1,b2,b3,b4,b5⟩:=Wq
   refine⟨bm,o,b1,b2,pR b3 ?_,b4,b5⟩
   cases q:H bm with
   | none=>rfl
   | some u=>
    rcases hA bm u q with rfl|⟨rfl,_⟩
    ·rw[hT] at b3;cases b3;cases b4
    ·rw[ha] at b3;cases b3;exact absurd (Value.type.inj b4) (by decide)
  refine abO ((F _ UB (PH HR) Ws).run callerA [] s₁ H ⟨[.ref a],[]⟩ [.ref a] [.ref a] _ _ hr e0 (vZ s₁ (.ref a)) (.cons rfl .nil) (tN H hS Wr)) fun r s' h=>?_
  cases r with
  | error e=>exact (RS H e s' h).elim
  | ok fl=>
   cases fl with
   | next=>exact False.elim h
   | brk=>exact False.elim h
   | cont=>exact False.elim h
   | ret u=>
    obtain⟨v,H',os,bare,un,NH,r',q,ps,Wt⟩:=h
    subst q
    obtain rfl:u=Value.bool true:=r'
    have NI:s'.heap.get? T=some (tabObj ps):=(NH _ _ Wt).1
    have kp:∀ b o,b≠T->s₁.heap.get? b=some o->s'.heap.get? b=some o:=fun b o bT e=>by
     cases q:H b with
     | none=>exact un.keep b o e q (by intro z;exact absurd (show b∈([]:List Addr) from z) (by simp)) (by simp)
     | some u=>
      rcases hA b u q with rfl|⟨_,ob,xs,rfl⟩
      ·exact absurd rfl bT
      ·have z2:=un.iF b ob _ q
       obtain⟨e1,_⟩:=bh b _ q
       obtain⟨e2,_⟩:=NH b _ z2
       rw[e] at e1;cases e1
       exact e2
    refine⟨rfl,⟨fun b o e=>?_,fun b o e=>?_⟩,os,bare⟩
    ·by_cases bT:b=T
     ·subst bT
      rw[hT] at e;cases e
      exact .inr (.inl ⟨((codeHd_of_K KX hc).tab hT).isCodeTable,rfl,#[],ps,rfl,by simpa using NI⟩)
     ·exact .inl (kp b o bT e)
    ·by_cases bT:b=T
     ·subst bT;exact⟨_,NI⟩
     ·exact⟨o,kp b o bT e⟩
 cases hk:K.lookup a with
 | some o=>
  have e:=KX a o hk
  rw[ha] at e
  cases e
  refine core (fun b=>if b=T then some (.ext (TabAt T #[])) else none) (.inr ⟨_,vs.toArray,_,hk,rfl,rfl,rfl,by rw[ZQ,RT];exact hl,by simpa using rv⟩) (fun b u z=>?_) (aag rfl) (fun b u z=>?_) fun z=>absurd (Z4 aT) z
  ·by_cases hb:b=T
   ·have z':=(aag hb).symm.trans z
    cases z'
    subst hb
    exact yg hT
   ·have z':=(Z4 hb).symm.trans z
    cases z'
  ·by_cases hb:b=T
   ·exact .inl hb
   ·have z':=(Z4 hb).symm.trans z
    cases z'
 | none=>
  refine core (fun b=>if b=T then some (.ext (TabAt T #[])) else if b=a then some (.mK { cls:=.type "list",data:=.seq vs.toArray } (.lst (ns.map V.int))) else none) (.inl (.inr ⟨{ cls:=.type "list",data:=.seq vs.toArray },(Z4 aT).trans (aag rfl)⟩)) (fun b u z=>?_) (aag rfl) (fun b u z=>?_) fun _=>hk
  ·by_cases hb:b=T
   ·have z':=(aag hb).symm.trans z
    cases z'
    subst hb
    exact yg hT
   ·by_cases Fw:b=a
    ·have z':=((Z4 hb).trans (aag Fw)).symm.trans z
     cases z'
     subst Fw
     exact⟨ha,by rw[ZR];exact hl,vs,_,rv,ha⟩
    ·have z':=((Z4 hb).trans (Z4 Fw)).symm.trans z
     cases z'
  ·by_cases hb:b=T
   ·exact .inl hb
   ·by_cases Fw:b=a
    ·have z':=((Z4 hb).trans (aag Fw)).symm.trans z
     cases z'
     exact .inr ⟨Fw,_,_,rfl⟩
    ·have z':=((Z4 hb).trans (Z4 Fw)).symm.trans z
     cases z'
theorem Gq {l:W.OpenLaw}{n k:Nat}{q:Program}{loose:List Str}{XP:(Str->Option Value)->Heap->Prop}{YP:World->Heap->Prop}{d:DefRec}{K:Params->W.Frag}{CX:World->sj}{sp:World->Sp}{x:Str}{T:Addr}
  (hn:l.most=some n) (Nh:n<=sizeLine) (z6:d.params.defaults=[]) (hr:dt k callerA)
  (hY:∀ (w:World) (h:Heap),YP w h->(K w.params).In h) (hT:∀ (w:World) (h:Heap),YP w h->h.get? T=some (tabObj #[]))
  (F:∀ (w:World) (mg:Str->Option Value) (fa:Addr) (h:Heap),(K w.params).In h->h.Ns mainGlobals mg->mg d.name=some (.ref fa) ->
   (∃ c,codeHdIn (K w.params) c T=true/\(K w.params).lookup T=none)/\∃ fd:FuncData,(∀ (s:Shared) (u:Value),BindsTo s fd ⟨[u],[]⟩ [(x,u)]) /\
    ∀ base:Heap,(K w.params).In base->base.Ns mainGlobals mg->BMod mg base->ji l.prog w (K w.params) mg base (CX w) k fa fd [x] (sp w))
  (tN:∀ (w:World) (H:Hp) (a:Addr) (ns:List Int),ns.length<=n->(∀ m∈ns,Builtin.Int.intBits m<=1048576)->aR (K w.params) H a (ns.map V.int)->H T=some (.ext (TabAt T #[]))->sp w [.ref a] H (fun v H'=>v=.bl true/\∃ ps,H' T=some (.ext (TabAt T ps))) fun _ _ _=>False)
  (RS:∀ (w:World) (H:Hp) (s:Shared) (e:Value) (s':Shared),CX w [] H s (fun _ _ _=>False) e s'->False) :
  W.WalkO q loose XP YP l.row.toRowW d [] (fun f vs=>PySem.call f vs):=by
 intro w s₀ s₁ mg mb G Y fa o pm cd doc dV kV ho hd pD hD RU hg args vals as F0 RV Zc Q0 Zd
 obtain⟨a,vs,ns,rfl,rfl,RW,hints,hlen⟩:=QZ.AX hn F0 Q0
 have KX:=hY w _ Y
 obtain⟨⟨c,hc,hk⟩,fd,hb,hF⟩:=F w mg fa _ KX G.T.g RU
 have call:=Br KX G.T.g G.T.b G.T.builtins G.T.nolimit hg RW hints (ZV hlen Nh) hr (hT w _ Y) hc hk G.T.bmain hF hb (fun H hS hT=>tN w H a ns hlen (vI RV) hS hT) fun H e s'=>RS w H s₁ e s'
 refine W.enter_call (abO call fun r s' hq=>?_)
 obtain⟨rfl,h2,h3,h4⟩:=hq
 exact⟨.inl ⟨.bool true,.bool true,[],rfl,fun _=>rfl,.bool true,QZ.AY l _,fun _=>⟨List.Pairwise.nil,fun _ hm=>(nomatch hm)⟩⟩,h2,h3,h4⟩
end L2
namespace L2
open PySem PySem.Spec PyProof.Rows
theorem LY.ok {P:Program}{w:World}{K:W.Frag}{mg:Str->Option Value}{base:Heap}{x:Str}{st:Stmt}{N ps:List Str}{k:Nat}{sp:Sp}{c:Addr}(F:LY K mg x st c)(S:ay N ps (ar st))
  (eF:∀ (f:Addr) (A:Around) (outer:List Env) (s:Shared) (H:Hp) (vs:List V) (Q:VK) (E:XK),dt k (A.deeper (envOfC x (ar st) s.heap.objs.size f (.ref c)))->sp vs H Q E ->
   ∃ t,kL (cR aU P w K mg base N x (ar st) f (.ref c) A outer s H E).vt (aP st) t/\t { nx:=fun _ H'=>Q .eB H',rt:=Q } (start N vs) H) (len:∀ vs H Q E,sp vs H Q E->vs.length=ps.length:=by (intro vs H Q E h;cases h;subst_vars;rfl)) (B:CU x st ps:=by exact fun _ _ _ _ _ _=>Bg fun _ _=>rfl):aV P w K mg base aU (k+1) x ps sp:=by
 obtain⟨f,oc,od,an,pF,kV,doc,pm,ct,l,cd,kp,m⟩:=F
 refine⟨f,_,zw l cd S len fun A outer s H vs Q E hr tN=>?_,(xQ l cd kp).binds B,kp,m⟩
 obtain⟨t,h,q⟩:=eF f A outer s H vs Q E hr tN
 exact⟨t,h.vt,q⟩
theorem aV.up {P:Program}{w:World}{K:W.Frag}{mg:Str->Option Value}{base:Heap}{CX CX':sj}{k:Nat}{x:Str}{ps:List Str}{sp:Sp}(h:aV P w K mg base CX k x ps sp)(hi:∀ outer H s E e s',CX outer H s E e s'->CX' outer H s E e s'):aV P w K mg base CX' k x ps sp:=by
 obtain⟨f,fd,G,b,kk,m⟩:=h
 exact⟨f,fd,G.up hi,b,kk,m⟩
theorem Fn.M7 {P:Program}{w:World}{K:W.Frag}{mg:Str->Option Value}{base:Heap}{x:Str}{st:Stmt}{N ps:List Str}{k:Nat}{sp:Sp}(F:Fn K mg x st)(S:ay N ps (ar st))
  (eF:∀ (f:Addr) (aZ:Value) (A:Around) (outer:List Env) (s:Shared) (H:Hp) (vs:List V) (Q:VK) (E:XK),dt k (A.deeper (envOfC x (ar st) s.heap.objs.size f aZ))->sp vs H Q E ->
   ∃ t,kL (cR (XB P w) P w K mg base N x (ar st) f aZ A outer s H E) (aP st) t/\t { nx:=fun _ H'=>Q .eB H',rt:=Q } (start N vs) H) (len:∀ vs H Q E,sp vs H Q E->vs.length=ps.length:=by (intro vs H Q E h;cases h;subst_vars;rfl)) (B:CU x st ps:=by first|exact fun _ _ _ _ _ _=>F9 fun _ _ _=>rfl|exact fun _ _ _ _ _ _=>F8 fun _=>rfl|exact fun _ _ _ _ _ _=>Bg fun _ _=>rfl):aV P w K mg base (XB P w) (k+1) x ps sp:=by
 obtain⟨f,fd,F,m⟩:=F
 exact⟨f,fd,F.M7 S len (eF f),F.binds B,F.kp,m⟩
end L2
namespace L2
open PySem PySem.Spec PyProof.Rows PySem.W PySem.Calls
def Ib (sp:Sp)(C1 C2:Addr)(i:Nat)(ta:TA)(HL HM:TS):TS:=fun D σ H=>ta σ H fun vs H1=>sp vs H1 (fun _ H2=>D.nx σ H2)
 fun cls od H2=>(∃ dx,od=some dx/\cls=.ref C1/\∀ e o,H2 e=none->HL (qd D i) (σ.set i (some (.ref e))) (upd H2 e (.mK o (.ext (jz C1 e dx)))))\/(od=none/\cls=.ref C2/\∀ e,H2 e=none->HM (qd D i) (σ.set i (some (.ref e))) (upd H2 e (.ext (ExcAt C2 e))))
section
variable {X:Cx}{k m:Nat}{C1 C2 Dc fI:Addr}{ps:List Str}{sp:Sp}{g x x1 x2 n:Str}{p pos mT rT np mU Pq zO LR HK:Pos}{e:Expr}{es:List Expr}{t:TA}{HL HM:TS}{b₀ b1 b2:Stmt}{fu M8 Rn:List Stmt}{i:Nat}{h0:ExceptHandler}{hs:List ExceptHandler}
theorem v7 {D:Ends}{pins:List (Addr × Obj)}{s:Shared}{σ:St}{H:Hp}{Ex:XK}(F:aV X.prog X.w X.K X.mg X.base (XB X.prog X.w) k g ps sp)(hr:dt m X.A)(le:k<=m)(NJ:Gl X g)(ha:PA X.vt (e::es) t)(I:Inv X pins σ H s)
  (h:t σ H fun vs H1=>sp vs H1 (fun _ H2=>D.nx σ H2) Ex)
  (k1:∀ (H1:Hp) (s1:Shared) (ea:Addr) (s':Shared),Inv X pins σ H1 s1->XB X.prog X.w X.stack H1 s1 Ex (.ref ea) s'->wpAny (model X.prog X.w) X.A (noteFrame (.ref ea) X.env) (fun _ s₂=>wpAny (model X.prog X.w) X.A (setFlight (.ref ea) none) (fun _ s₃=>
   wpAny (model X.prog X.w) X.A (handleBy (.ref ea) X.env (h0::hs)) (SP X pins D) X.xe s₃) X.xe s₂) X.xe s')
  (z6:(g==("__debug__":Str))=false) (he:starEach (e::es) X.env=(false,eval e X.env)::starEach es X.env) (ir:(backTo pos (starEach es X.env)).any (·.1)=false)
  (Gi:swapsWith (.Call (.Name g p) (e::es) [] pos) none mT.line X.env=pure false) :
  wpAny (model X.prog X.w) X.A (exec (.Try [.Expr (.Call (.Name g p) (e::es) [] pos) mT] (h0::hs) [] [] rT) X.env) (SP X pins D) X.xe s:=by
 obtain⟨f,fd,G,hb,Wu,Wv⟩:=F
 refine wpAny_Try_except (adv (wpAny_Expr_any (Q:=fun f s₁=>match f with|.next=>wpAny (model X.prog X.w) X.A (execs [] X.env) _ _ s₁|f=>_) ?_ I.quiet Gi))
 refine ab2 (eY I NJ Wv ?_ z6)
 refine W.callWith_K (h₀:=X.base) I.ok.mod.Hu Wu (Z2 (ha pos pins s σ H _ (I.kU _) h) (fun us s1 ⟨vs,H1,I1,r,q⟩=>⟨I1.gf.jw,?_⟩) fun _ _ z=>z.elim) he ir
 have J:=I1.gf
 have hl:us.length=ps.length:=by rw[<- r.length];exact G.len _ _ _ _ q
 have xZ:=hb s1 us J.jw (by rw[aa6];exact hl)
 rw[aa6] at xZ
 refine abL (abO (G.run X.A X.stack s1 H1 ⟨us,[]⟩ us vs _ _ (hr.mono le) J.FO xZ r q) fun rr s' sJ=>?_)
 cases rr with
 | error ex=>
  have hx:∃ ea,ex=.ref ea:=by
   rcases sJ with ⟨ea,_,_,_,_,rfl,_⟩|⟨ea,_,_,_,_,rfl,_⟩<;>exact⟨ea,rfl⟩
  obtain⟨ea,rfl⟩:=hx
  exact k1 H1 s1 ea s' J sJ
 | ok fl=>
  cases fl with
  | ret u=>
   obtain⟨v,H2,I2,r2,q2⟩:=J.after sJ
   exact acx (acx ⟨σ,H2,I2,q2⟩)
  | next=>exact False.elim sJ
  | brk=>exact False.elim sJ
  | cont=>exact False.elim sJ
theorem Dp (F:aV X.prog X.w X.K X.mg X.base (XB X.prog X.w) k g ps sp)(hr:dt m X.A)(ha:PA X.vt (e::es) t)
  (Pt:X.mg x1=some (.ref C1)) (PJ:fB X.K C1 fI=true) (Ww:X.mg x2=some (.ref C2)) (PK:W.excIn X.K C2 eG "ValueError.__new__"=true) (Wx:W.mroIn X.K C2 (.ref C1)=some false)
  (hN:X.N.Nodup) (Kg:∀ ea o u,kL (X.ou ea o u) (b1::M8) HL) (Kh:∀ ea,kL (X.marked ea) (b2::Rn) HM)
  (le:k<=m:=by decide) (NJ:Gl X g:=by rfl) (Pu:Gl X x1:=by rfl) (Wy:Gl X x2:=by rfl) (hi:X.N[i]?=some n:=by rfl) (hk:X.env.scope.names.lookup n=some .local:=by rfl)
  (mE:X.stack=X.env::X.outer:=by rfl) (hf:X.env.frame=some X.env.locals:=by rfl)
  (z6:(g==("__debug__":Str))=false:=by decide) (F7:(x1==("__debug__":Str))=false:=by decide) (RX:(x2==("__debug__":Str))=false:=by decide)
  (he:starEach (e::es) X.env=(false,eval e X.env)::starEach es X.env:=by rfl) (ir:(backTo pos (starEach es X.env)).any (·.1)=false:=by rfl)
  (Gi:swapsWith (.Call (.Name g p) (e::es) [] pos) none mT.line X.env=pure false:=by rfl) :
  PS X (.Try [.Expr (.Call (.Name g p) (e::es) [] pos) mT] [.ExceptHandler (some (.Name x1 Pq)) (some n) (b1::M8) zO,.ExceptHandler (some (.Name x2 LR)) (some n) (b2::Rn) HK] [] [] rT) (Ib sp C1 C2 i t HL HM):=by
 intro pins s σ H D I h
 refine v7 F hr le NJ ha I h (fun H1 s1 ea s' J sJ=>?_) z6 he ir Gi
 rcases sJ with ⟨RY,cls,dx,B,H',eq,jk,hh⟩|⟨RY,cls,a0,B,H',eq,jk,hh⟩
 ·cases eq
  rcases hh with ⟨RZ,oY,Bp,hh⟩|⟨oY,_⟩
  ·cases oY
   subst Bp
   exact vO J jk mE hf Pt Pu (CS PJ) hN hi hk (Kg ea) (fun o=>hh ea o jk.he) F7
  ·cases oY
 ·cases eq
  rcases hh with ⟨RZ,oY,_⟩|⟨_,Bp,hh⟩
  ·cases oY
  ·subst Bp
   exact x9 J jk mE hf Pt Pu (JR PK PJ Wx) Ww Wy PK hN hi hk (Kh ea) (hh ea jk.new.2) RX F7
theorem Dq (F:aV X.prog X.w X.K X.mg X.base (XB X.prog X.w) k g ps sp)(hr:dt m X.A)(ha:PA X.vt (e::es) t)
  (hm:X.mg x=some (.ref Dc)) (HI:W.excIn X.K Dc eG "ValueError.__new__"=true) (PJ:fB X.K C1 fI=true) (Wz:W.mroIn X.K C1 (.ref Dc)=some true)
  (PK:W.excIn X.K C2 eG "ValueError.__new__"=true) (PL:W.mroIn X.K C2 (.ref Dc)=some true)
  (hN:X.N.Nodup) (Kg:∀ ea o u,kL (X.ou ea o u) (b₀::fu) HL) (Kh:∀ ea,kL (X.marked ea) (b₀::fu) HM)
  (le:k<=m:=by decide) (NJ:Gl X g:=by rfl) (hg:Gl X x:=by rfl) (hi:X.N[i]?=some n:=by rfl) (hk:X.env.scope.names.lookup n=some .local:=by rfl)
  (mE:X.stack=X.env::X.outer:=by rfl) (hf:X.env.frame=some X.env.locals:=by rfl)
  (z6:(g==("__debug__":Str))=false:=by decide) (oj:(x==("__debug__":Str))=false:=by decide)
  (he:starEach (e::es) X.env=(false,eval e X.env)::starEach es X.env:=by rfl) (ir:(backTo pos (starEach es X.env)).any (·.1)=false:=by rfl)
  (Gi:swapsWith (.Call (.Name g p) (e::es) [] pos) none mT.line X.env=pure false:=by rfl) :
  PS X (.Try [.Expr (.Call (.Name g p) (e::es) [] pos) mT] [.ExceptHandler (some (.Name x np)) (some n) (b₀::fu) mU] [] [] rT) (Ib sp C1 C2 i t HL HM):=by
 intro pins s σ H D I h
 refine v7 F hr le NJ ha I h (fun H1 s1 ea s' J sJ=>?_) z6 he ir Gi
 rcases sJ with ⟨RY,cls,dx,B,H',eq,jk,hh⟩|⟨RY,cls,a0,B,H',eq,jk,hh⟩
 ·cases eq
  rcases hh with ⟨RZ,oY,Bp,hh⟩|⟨oY,_⟩
  ·cases oY
   subst Bp
   exact vO J jk mE hf hm hg (JO PJ HI Wz) hN hi hk (Kg ea) (fun o=>hh ea o jk.he) oj
  ·cases oY
 ·cases eq
  rcases hh with ⟨RZ,oY,_⟩|⟨_,Bp,hh⟩
  ·cases oY
  ·subst Bp
   exact x8 J jk mE hf hm hg PK HI PL hN hi hk (Kh ea) (hh ea jk.new.2) oj
end
end L2
namespace L2
open PySem PySem.Spec PyProof.Rows PySem.W
def dN:V->PyData
 | .int i=>.int i
 | _=>.none
theorem Dr {X:Cx}(hu:X.A.units+64<cLine):oi X (compareOp .Eq) (fun x y H Q=>∃ (p p':Addr) (b c:Bool) (v:V),x=.ref p/\y=.ref p'/\H p=some (.lst [.bl b,.bl c,v])/\H p'=some (.lst [.bl b,.bl c,v])/\(v=.eB\/∃ i,v=.int i)/\Q (.bl true) H):=by
 intro pins s σ H x y u w Q I rx ry h
 obtain⟨p,p',b,c,v,rfl,rfl,hp,F2,hv,q⟩:=h
 have rd:∀ {p:Addr}{u:Value},H p=some (.lst [.bl b,.bl c,v])->RelV (.ref p) u->∃ as,Reads s.heap u (.list [.bool b,.bool c,dN v]) as:=fun {p u} h r=>by
  cases r
  obtain⟨aH,rv,⟨o,n,e1,e2,_,e3⟩,_⟩:=I.list (aR.of h)
  cases rv with
  | cons r1 rv=>
  cases rv with
  | cons r2 rv=>
  cases rv with
  | cons r3 rv=>
  cases rv
  cases r1
  cases r2
  rcases hv with rfl|⟨i,rfl⟩
  ·cases r3
   exact⟨_,.list e1 e2 e3 (.cons (.bool _) (.cons (.bool _) (.cons .none .nil)))⟩
  ·obtain⟨t,rfl⟩:=r3
   exact⟨_,.list e1 e2 e3 (.cons (.bool _) (.cons (.bool _) (.cons (.int _ _) .nil)))⟩
 obtain⟨as,ra⟩:=rd hp rx
 obtain⟨bs,rb⟩:=rd F2 ry
 have sh:SeqAt.shaped (.list [.bool b,.bool c,dN v])=true:=by rcases hv with rfl|⟨i,rfl⟩<;>rfl
 have ev:PyData.eqv (.list [.bool b,.bool c,dN v]) (.list [.bool b,.bool c,dN v])=true:=by rcases hv with rfl|⟨i,rfl⟩<;>simp[PyData.eqv,PyData.eqvAll,dN]
 refine eq_dataH ra rb sh sh hu ?_
 rw[ev]
 exact⟨.bl true,H,I,rfl,q⟩
end L2
namespace L2
open PySem PySem.Spec PyProof.Rows
inductive qo:List Expr->List (Int × Int)->Prop where
 | nil:qo [] []
 | cons {a b:Int}{j1 j2:Nat}{p1 p2 pos:Pos}{c:Nat}{es:List Expr}{ns:List (Int × Int)} (h:qo es ns):qo (.Tuple [.Constant (.int a) j1 p1,.Constant (.int b) j2 p2] c pos::es) ((a,b)::ns)
def NK (ns:List (Int × Int)):TA:=fun _ H Q=>∀ (rs:List Addr) (H':Hp),aw H H'->Paired (fun (r:Addr) (x:Int × Int)=>H' r=some (.tup [.int x.1,.int x.2])) rs ns->Q (rs.map V.ref) H'
theorem Ds {X:Cx}{es:List Expr}{ns:List (Int × Int)}(h:qo es ns):PA X es (NK ns):=by
 induction h with
 | nil=>exact fun pos pins s σ H Q I h=>ag pos pins s σ H Q I (h [] H (aw.refl _) .nil)
 | cons h ih=>
  intro pos pins s σ H Q I h
  refine ae (aS (ae af (ae af ag))) ih rfl pos pins s σ H Q I ⟨?_,fun p np rs H' g hp=>h (p::rs) H' ((au np _).trans g) (.cons (g p _ ah) hp)⟩
  show 2<=sizeLine
  decide
def WA:Stmt->Expr
 | .For t _ _ _ _=>t
 | _=>.Constant .none 0 ⟨0,0,0,0⟩
def WB:Stmt->List Stmt
 | .For _ _ b _ _=>b
 | _=>[]
def WC:Stmt->List Stmt
 | .For _ _ _ o _=>o
 | _=>[]
end L2
namespace Pr
theorem quot (x y:Int):x=y*Int.fdiv x y+Int.fmod x y:=by rw[aee];omega
theorem gk {a b c:Int}(h:1<=b)(ha:c<=a)(hc:0<=c):c<=a*b:=by
 have:=aaJ ha h (by omega) (by omega)
 omega
theorem cA {p:Int}(hp:1<=p):∀ n:Nat,1<=p^n
 | 0=>by simp
 | n+1=>by
  rw[ZZ]
  exact gk hp (cA hp n) (by omega)
def oG (x d:Int):Prop:=∀ k,2<=k->k<d->¬ k∣x
structure bU (p:Int):Prop where
 two:2<=p
 no:∀ k,2<=k->k*k<=p->¬ k∣p
theorem Dt {k d:Int}(hk:0<=k)(hd:0<=d)(h:k*k<d*d):k<d:=by
 rcases acQ k d with h1|h1
 ·exact h1
 ·have:=aaJ h1 h1 hd hk
  omega
theorem Du {d x:Int}(h2:2<=d)(h:oG x d)(hd:d∣x):bU d:=by
 refine⟨h2,fun k k2 kk hk=>h k k2 ?_ (aaf hk hd)⟩
 have:=aak k2 (show 0<=k by omega)
 omega
theorem Dv {d x:Int}(h2:2<=d)(h:oG x d)(hx:x<d*d)(x1:1<x):bU x:=by
 refine⟨by omega,fun k k2 kk hk=>h k k2 ?_ hk⟩
 exact Dt (by omega) (by omega) (by omega)
theorem Gr {d x:Int}(h:oG x d)(x1:1<x):d<=x:=by
 rcases acQ x d with h1|h1
 ·exact absurd (ach x) (h x (by omega) h1)
 ·exact h1
def aX:List (Int × Int)->Int
 | []=>1
 | x::r=>x.1^x.2.toNat*aX r
theorem iX (xs ys:List (Int × Int)):aX (xs++ys)=aX xs*aX ys:=by
 induction xs with
 | nil=>simp[aX]
 | cons x r ih=>simp only[adM,aX,ih,Z3]
theorem mZ (p e:Int):aX [(p,e)]=p^e.toNat:=by simp[aX]
structure Part (x:Int × Int):Prop where
 prime:bU x.1
 often:1<=x.2
structure Told (n:Int)(xs:List (Int × Int)):Prop where
 all:∀ x∈xs,Part x
 rise:xs.Pairwise fun x y=>x.1<y.1
 prod:aX xs=n
theorem iY {xs:List (Int × Int)}(h:∀ x∈xs,Part x):1<=aX xs:=by
 induction xs with
 | nil=>simp[aX]
 | cons x r ih=>
  simp only[aX]
  have h1:=ih fun y hy=>h y (.tail _ hy)
  exact gk h1 (cA (by have:=(h x (.head _)).prime.two;omega) _) (by omega)
theorem lZ {xs:List (Int × Int)}(h:∀ x∈xs,Part x){x:Int × Int}(hx:x∈xs):x.1^x.2.toNat<=aX xs:=by
 induction xs with
 | nil=>exact nomatch hx
 | cons y r ih=>
  simp only[aX]
  have h1:=iY fun z hz=>h z (.tail _ hz)
  have hy:1<=y.1^y.2.toNat:=cA (by have:=(h y (.head _)).prime.two;omega) _
  rcases ZI.mp hx with rfl|hx
  ·exact gk h1 (aaV _) (by omega)
  ·have h2:=ih (fun z hz=>h z (.tail _ hz)) hx
   rw[ZX]
   exact gk hy h2 (by have:=cA (show 1<=x.1 by have:=(h x (.tail _ hx)).prime.two;omega) x.2.toNat;omega)
theorem qp {p:Int}(hp:2<=p):∀ n:Nat,(2:Int)^n<=p^n
 | 0=>by simp
 | n+1=>by
  rw[ZZ,ZZ]
  exact aaJ (qp hp n) hp (by omega) (by have:=cA (show 1<=p by omega) n;omega)
theorem qt {a b:Nat}(h:a<=b):(2:Int)^a<=(2:Int)^b:=by
 obtain⟨c,rfl⟩:=Nat.exists_eq_add_of_le h
 rw[ac9]
 exact gk (cA (by omega) c) (aaV _) (by have:=cA (show (1:Int)<=2 by omega) a;omega)
theorem Dw {n:Int}{xs:List (Int × Int)}(h:Told n xs)(hn:n<=10^10){x:Int × Int}(hx:x∈xs):x.2<=40:=by
 rcases acQ 40 x.2 with h1|h1
 ·exfalso
  have h2:=lZ h.all hx
  have h3:=qp (h.all x hx).prime.two x.2.toNat
  have h4:=qt (show 40<=x.2.toNat by omega)
  rw[h.prod] at h2
  have:(2:Int)^40=1099511627776:=by decide
  omega
 ·exact h1
theorem Gs {n:Int}{xs:List (Int × Int)}(h:Told n xs){x:Int × Int}(hx:x∈xs):x.1<=n:=by
 have h2:=lZ h.all hx
 rw[h.prod] at h2
 have h1:=(h.all x hx).often
 obtain⟨k,hk⟩:∃ k,x.2.toNat=k+1:=⟨x.2.toNat-1,by omega⟩
 rw[hk,ZZ] at h2
 have:=gk (cA (show 1<=x.1 by have:=(h.all x hx).prime.two;omega) k) (aaV x.1) (by have:=(h.all x hx).prime.two;omega)
 rw[ZX] at this
 omega
structure Out (n left d:Int)(xs:List (Int × Int)):Prop where
 all:∀ x∈xs,Part x
 rise:xs.Pairwise fun x y=>x.1<y.1
 below:∀ x∈xs,x.1<d
 prod:aX xs*left=n
 no:oG left d
 odd:d=2\/d%2=1
theorem Bs (n:Int):Out n n 2 []:=⟨fun _ h=>(nomatch h),.nil,fun _ h=>(nomatch h),by simp[aX],fun k h1 h2=>by omega,.inl rfl⟩
theorem Dx {n left d:Int}{xs:List (Int × Int)}(h:Out n left d xs)(l1:1<=left):left<=n:=by
 have:=h.prod
 have:=gk (iY h.all) (aaV left) (by omega)
 rw[ZX] at this
 omega
structure Gu (cY d left often:Int):Prop where
 eq:cY=d^often.toNat*left
theorem sP (left d:Int):Gu left d left 0:=⟨by simp⟩
theorem Dy {cY d left often:Int}(h:Gu cY d left often)(o:0<=often)(hz:Int.fmod left d=0):Gu cY d (Int.fdiv left d) (often+1):=by
 have q:=quot left d
 rw[hz] at q
 refine⟨?_⟩
 have e:(often+1).toNat=often.toNat+1:=by omega
 rw[e,ZZ,h.eq,Z3]
 congr 1
 omega
theorem Gv {x d:Int}(h:Int.fmod x d≠0):¬ d∣x:=fun hd=>h (Int.fmod_eq_zero_of_dvd hd)
theorem qu {cY d left often:Int}(hi:Gu cY d left often)(h2:2<=d)(ho:d=2\/d%2=1)(hn:oG cY d)(hz:Int.fmod left d≠0)(d':Int)(hd:d'=if d=2 then 3 else d+2):oG left d'/\(d'=2\/d'%2=1)/\d<d':=by
 have hl:left∣cY:=⟨d^often.toNat,by rw[hi.eq,ZX]⟩
 have up:oG left (d+1):=by
  intro k k2 kd hk
  rcases (show k<d\/k=d by omega) with h|h
  ·exact hn k k2 h (aaf hk hl)
  ·subst h;exact Gv hz hk
 by_cases e:d=2
 ·rw[aag e] at hd
  subst hd
  subst e
  exact⟨up,by omega,by omega⟩
 ·rw[Z4 e] at hd
  subst hd
  refine⟨?_,by omega,by omega⟩
  intro k k2 kd hk
  rcases (show k<d+1\/k=d+1 by omega) with h|h
  ·exact up k k2 h hk
  ·subst h
   refine up 2 (by omega) (by omega) (aaf ?_ hk)
   omega
theorem Dz {n cY left d often:Int}{xs:List (Int × Int)}(h:Out n cY d xs)(hi:Gu cY d left often)(h2:2<=d)(o:often=0)(hz:Int.fmod left d≠0){d':Int}(hd:d'=if d=2 then 3 else d+2):Out n left d' xs:=by
 obtain⟨a,b,c⟩:=qu hi h2 h.odd h.no hz d' hd
 refine⟨h.all,h.rise,fun x hx=>by have:=h.below x hx;omega,?_,a,b⟩
 have e:=hi.eq
 subst o
 simp at e
 rw[<- e]
 exact h.prod
theorem DB {n cY left d often:Int}{xs:List (Int × Int)}(h:Out n cY d xs)(hi:Gu cY d left often)(h2:2<=d)(o:0<often)(hz:Int.fmod left d≠0){d':Int}(hd:d'=if d=2 then 3 else d+2):Out n left d' (xs++[(d,often)]):=by
 obtain⟨a,b,c⟩:=qu hi h2 h.odd h.no hz d' hd
 have dv:d∣cY:=by
  obtain⟨k,hk⟩:∃ k,often.toNat=k+1:=⟨often.toNat-1,by omega⟩
  refine⟨d^k*left,?_⟩
  rw[hi.eq,hk,ZZ,ZX (d^k) d,Z3]
 refine⟨?_,?_,?_,?_,a,b⟩
 ·intro x hx
  rcases abo.mp hx with hx|hx
  ·exact h.all x hx
  ·rw[aar.mp hx]
   exact⟨Du h2 h.no dv,by omega⟩
 ·refine List.pairwise_append.mpr ⟨h.rise,List.pairwise_singleton _ _,?_⟩
  intro x hx y hy
  rw[aar.mp hy]
  exact h.below x hx
 ·intro x hx
  rcases abo.mp hx with hx|hx
  ·have:=h.below x hx;omega
  ·rw[aar.mp hx];exact c
 ·rw[iX,mZ,Z3,<- hi.eq]
  exact h.prod
theorem Bt {n left d:Int}{xs:List (Int × Int)}(h:Out n left d xs)(h2:2<=d)(hx:left<d*d)(l1:1<left):Told n (xs++[(left,1)]):=by
 refine⟨?_,?_,?_⟩
 ·intro x vw
  rcases abo.mp vw with vw|vw
  ·exact h.all x vw
  ·rw[aar.mp vw]
   exact⟨Dv h2 h.no hx l1,by omega⟩
 ·refine List.pairwise_append.mpr ⟨h.rise,List.pairwise_singleton _ _,?_⟩
  intro x vw y hy
  rw[aar.mp hy]
  have:=h.below x vw
  have:=Gr h.no l1
  show x.1<left
  omega
 ·rw[iX,mZ,show (1:Int).toNat=1 from rfl,Int.pow_one]
  exact h.prod
theorem Bu {n left d:Int}{xs:List (Int × Int)}(h:Out n left d xs)(l1:left=1):Told n xs:=by
 refine⟨h.all,h.rise,?_⟩
 have:=h.prod
 subst l1
 omega
theorem DC {xs:List (Int × Int)}(h:∀ x∈xs,Part x):(2:Int)^xs.length<=aX xs:=by
 induction xs with
 | nil=>simp[aX]
 | cons x r ih=>
  have h1:=ih fun y hy=>h y (.tail _ hy)
  have hp:=(h x (.head _)).prime.two
  have ho:=(h x (.head _)).often
  simp only[aX,aaz]
  rw[ZZ,ZX]
  obtain⟨k,hk⟩:∃ k,x.2.toNat=k+1:=⟨x.2.toNat-1,by omega⟩
  have:2<=x.1^x.2.toNat:=by
   rw[hk,ZZ,ZX]
   exact gk (cA (by omega) k) hp (by omega)
  exact aaJ this h1 (by have:=cA (show (1:Int)<=2 by omega) r.length;omega) (by omega)
theorem lg {p k:Int}(h:bU p)(k1:1<=k)(hk:k∣p):k=1\/k=p:=by
 have p2:=h.two
 obtain⟨m,hm⟩:=hk
 rcases (show k=1\/2<=k by omega) with e|k2
 ·exact .inl e
 ·have m1:1<=m:=by
   rcases acQ m 1 with h1|h1
   ·have:=ZS (show m<=0 by omega) (show 0<=k by omega)
    omega
   ·exact h1
  rcases (show m=1\/2<=m by omega) with e|m2
  ·subst e;exact .inr (by omega)
  ·exfalso
   rcases Int.le_total k m with hle|hle
   ·have:=ZS hle (show 0<=k by omega)
    exact h.no k k2 (by omega) ⟨m,hm⟩
   ·have:=aak hle (show 0<=m by omega)
    exact h.no m m2 (by omega) ⟨k,by rw[hm,ZX]⟩
theorem iA {p x:Int}(h:bU p)(hx:¬ p∣x):Nat.Coprime p.natAbs x.natAbs:=by
 have p2:=h.two
 have g1:(Nat.gcd p.natAbs x.natAbs)∣p.natAbs:=Nat.gcd_dvd_left _ _
 have g2:(Nat.gcd p.natAbs x.natAbs)∣x.natAbs:=Nat.gcd_dvd_right _ _
 have g0:0<Nat.gcd p.natAbs x.natAbs:=Nat.gcd_pos_of_pos_left _ (by omega)
 show Nat.gcd p.natAbs x.natAbs=1
 generalize Nat.gcd p.natAbs x.natAbs=g at g0 g1 g2
 have d1:(g:Int)∣p:=Int.ofNat_dvd_left.mpr g1
 rcases lg h (by omega) d1 with e|e
 ·omega
 ·exfalso
  apply hx
  rw[<- e]
  exact Int.ofNat_dvd_left.mpr g2
theorem euclid {p x y:Int}(h:bU p)(hd:p∣x*y):p∣x\/p∣y:=by
 by_cases hx:p∣x
 ·exact .inl hx
 ·right
  have c:=iA h hx
  have d:p.natAbs∣x.natAbs*y.natAbs:=by
   rw[<- Z7]
   exact aap.mpr hd
  exact aap.mp (c.dvd_of_dvd_mul_left d)
theorem eS {p q:Int}(h:bU p)(k:bU q)(hd:p∣q):p=q:=by
 rcases lg k (by have:=h.two;omega) hd with e|e
 ·have:=h.two;omega
 ·exact e
theorem bj {p:Int}(h:bU p):¬ p∣1:=fun hd=>by
 have:=adD (by omega) hd
 have:=h.two
 omega
theorem oH {p q:Int}(h:bU p):∀ n:Nat,p∣q^n->p∣q
 | 0,hd=>absurd (by simpa using hd) (bj h)
 | n+1,hd=>by
  rw[ZZ] at hd
  rcases euclid h hd with e|e
  ·exact oH h n e
  ·exact e
theorem DD {p:Int}(h:bU p){xs:List (Int × Int)}(hx:∀ x∈xs,Part x)(hd:p∣aX xs):∃ x∈xs,x.1=p:=by
 induction xs with
 | nil=>exact absurd hd (bj h)
 | cons x r ih=>
  simp only[aX] at hd
  rcases euclid h hd with e|e
  ·exact⟨x,.head _,(eS h (hx x (.head _)).prime (oH h _ e)).symm⟩
  ·obtain⟨y,hy,e⟩:=ih (fun y hy=>hx y (.tail _ hy)) e
   exact⟨y,.tail _ hy,e⟩
theorem v8:∀ (n:Nat) (k:Int),2<=k->k.toNat<=n->∃ q,bU q/\q∣k:=by
 intro n
 induction n with
 | zero=>intro k h1 h2;omega
 | succ n ih=>
  intro k h1 h2
  by_cases h:∃ j,2<=j/\j*j<=k/\j∣k
  ·obtain⟨j,j2,jj,hj⟩:=h
   have:=aak j2 (show 0<=j by omega)
   obtain⟨q,hq,hd⟩:=ih j j2 (by omega)
   exact⟨q,hq,aaf hd hj⟩
  ·exact⟨k,⟨h1,fun j j2 jj hj=>h ⟨j,j2,jj,hj⟩⟩,ach k⟩
def d7:List (Int × Int)->Int
 | []=>1
 | x::r=>(if x.2%2=1 then x.1 else 1)*d7 r
def df:List (Int × Int)->Int
 | []=>1
 | x::r=>x.1^(x.2 / 2).toNat*df r
theorem Bv (xs ys:List (Int × Int)):d7 (xs++ys)=d7 xs*d7 ys:=by
 induction xs with
 | nil=>simp[d7]
 | cons x r ih=>simp only[adM,d7,ih,Z3]
theorem Bw (xs ys:List (Int × Int)):df (xs++ys)=df xs*df ys:=by
 induction xs with
 | nil=>simp[df]
 | cons x r ih=>simp only[adM,df,ih,Z3]
theorem DE {p e:Int}(he:0<=e):(if e%2=1 then p else 1)*(p^(e / 2).toNat*p^(e / 2).toNat)=p^e.toNat:=by
 rw[<- ac9]
 split
 ·rw[ZX,<- ZZ]
  congr 1
  omega
 ·rw[aaI]
  congr 1
  omega
theorem sQ {xs:List (Int × Int)}(h:∀ x∈xs,Part x):d7 xs*df xs*df xs=aX xs:=by
 induction xs with
 | nil=>simp[d7,df,aX]
 | cons x r ih=>
  have h1:=ih fun y hy=>h y (.tail _ hy)
  simp only[d7,df,aX]
  rw[<- h1,<- DE (p:=x.1) (show 0<=x.2 by have:=(h x (.head _)).often;omega)]
  grind
theorem Bx {xs:List (Int × Int)}(h:∀ x∈xs,Part x):1<=df xs:=by
 induction xs with
 | nil=>simp[df]
 | cons x r ih=>
  simp only[df]
  exact gk (ih fun y hy=>h y (.tail _ hy)) (cA (by have:=(h x (.head _)).prime.two;omega) _) (by omega)
theorem Gw {q:Int}(h:bU q){xs:List (Int × Int)}(hx:∀ x∈xs,Part x)(hd:q∣d7 xs):∃ x∈xs,x.1=q:=by
 induction xs with
 | nil=>exact absurd hd (bj h)
 | cons x r ih=>
  simp only[d7] at hd
  rcases euclid h hd with e|e
  ·split at e
   ·exact⟨x,.head _,(eS h (hx x (.head _)).prime e).symm⟩
   ·exact absurd e (bj h)
  ·obtain⟨y,hy,e⟩:=ih (fun y hy=>hx y (.tail _ hy)) e
   exact⟨y,.tail _ hy,e⟩
theorem yj {q:Int}(h:bU q){xs:List (Int × Int)}(hx:∀ x∈xs,Part x)(hr:xs.Pairwise fun x y=>x.1<y.1):¬ q*q∣d7 xs:=by
 induction xs with
 | nil=>
  intro hd
  exact bj h (aaf ⟨q,rfl⟩ hd)
 | cons x r ih=>
  intro hd
  have kJ:=aaY.mp hr
  have vw:=fun y hy=>hx y (List.Mem.tail _ hy)
  simp only[d7] at hd
  have hp:=(hx x (.head _)).prime
  split at hd
  ·by_cases e:q=x.1
   ·subst e
    have h1:x.1∣d7 r:=by
     obtain⟨m,hm⟩:=hd
     rw[Z3] at hm
     have:=aaR (by have:=hp.two;omega) hm
     exact⟨m,this⟩
    obtain⟨y,hy,e⟩:=Gw h vw h1
    have:=kJ.1 y hy
    omega
   ·have c:Nat.Coprime q.natAbs x.1.natAbs:=iA h fun Qv=>e (eS h hp Qv)
    have c2:Nat.Coprime (q*q).natAbs x.1.natAbs:=by rw[Z7];exact c.mul_left c
    have d:(q*q).natAbs∣x.1.natAbs*(d7 r).natAbs:=by
     rw[<- Z7]
     exact aap.mpr hd
    exact ih vw kJ.2 (aap.mp (c2.dvd_of_dvd_mul_left d))
  ·rw[aaI] at hd
   exact ih vw kJ.2 hd
theorem rX {x:Int × Int}{r:List (Int × Int)}(hx:Part x):x.1∣aX (x::r):=by
 obtain⟨k,hk⟩:∃ k,x.2.toNat=k+1:=⟨x.2.toNat-1,by have:=hx.often;omega⟩
 refine⟨x.1^k*aX r,?_⟩
 simp only[aX]
 rw[hk,ZZ,ZX (x.1^k),Z3]
end Pr
namespace Jc
def S (f:Nat->Nat):Nat->Nat
 | 0=>0
 | m+1=>S f m+f (m+1)
theorem oJ (f g:Nat->Nat):∀ m,S (fun k=>f k+g k) m=S f m+S g m
 | 0=>rfl
 | m+1=>by simp only[S];rw[oJ f g m];omega
theorem gM {f g:Nat->Nat}:∀ {m},(∀ k,1<=k->k<=m->f k=g k)->S f m=S g m
 | 0,_=>rfl
 | m+1,h=>by
  simp only[S]
  rw[gM (m:=m) fun k h1 h2=>h k h1 (by omega),h (m+1) (by omega) (ZL _)]
theorem kB (c:Nat):∀ m,S (fun _=>c) m=m*c
 | 0=>by simp[S]
 | m+1=>by simp only[S];rw[kB c m,Nat.succ_mul]
theorem DF (c:Nat)(f:Nat->Nat):∀ m,S (fun k=>c*f k) m=c*S f m
 | 0=>by simp[S]
 | m+1=>by simp only[S];rw[DF c f m,ac7]
theorem DG (f:Nat->Nat->Nat)(p:Nat):∀ m,S (fun k=>S (fun j=>f k j) p) m=S (fun j=>S (fun k=>f k j) m) p
 | 0=>by
  simp only[S]
  rw[kB 0 p,Nat.mul_zero]
 | m+1=>by
  simp only[S]
  rw[DG f p m,<- oJ]
theorem DH {f g:Nat->Nat}:∀ {m},(∀ k,1<=k->k<=m->f k%2=g k%2)->S f m%2=S g m%2
 | 0,_=>rfl
 | m+1,h=>by
  simp only[S]
  have h1:=DH (m:=m) fun k h1 h2=>h k h1 (by omega)
  have h2:=h (m+1) (by omega) (ZL _)
  omega
theorem yk (f:Nat->Nat):∀ m,S f m=((List.range' 1 m).map f).sum
 | 0=>rfl
 | m+1=>by
  simp only[S]
  rw[yk f m,List.range'_concat,aaw,List.sum_append_nat]
  simp[adL]
theorem z8 {l1:List Nat}:∀ {l2:List Nat},l1.Nodup->(∀ x∈l1,x∈l2)->l2.length<=l1.length->l1.Perm l2:=by
 induction l1 with
 | nil=>
  intro l2 _ _ h
  have:l2=[]:=List.eq_nil_of_length_eq_zero (by simpa using h)
  subst this
  exact .nil
 | cons x t ih=>
  intro l2 nd sub len
  have hx:=sub x (aaZ)
  have p:=List.perm_cons_erase hx
  have UC:=abz.mp nd
  have q:t.Perm (l2.erase x):=ih UC.2 (fun y hy=>by
   have h1:=sub y (aav _ hy)
   have ne:y≠x:=fun e=>UC.1 (e▸hy)
   exact (List.mem_erase_of_ne ne).mpr h1) (by
   have h1:=List.length_erase_of_mem hx
   have h2:(x::t).length=t.length+1:=rfl
   omega)
  exact (List.Perm.cons x q).trans p.symm
theorem DI (f p:Nat->Nat){m:Nat}(vp:∀ k,1<=k->k<=m->1<=p k/\p k<=m)(inj:∀ k l,1<=k->k<=m->1<=l->l<=m->p k=p l->k=l):S (fun k=>f (p k)) m=S f m:=by
 rw[yk,yk]
 have e:(List.range' 1 m).map (fun k=>f (p k))=((List.range' 1 m).map p).map f:=by rw[List.map_map];rfl
 rw[e]
 refine List.Perm.sum_nat (List.Perm.map f (z8 ?_ ?_ ?_))
 ·refine abZ.mpr ?_
  have h0:(List.range' 1 m).Nodup:=List.nodup_range'
  refine List.Pairwise.imp_of_mem ?_ h0
  intro a b ha hb ne he
  have R1:=abn.mp ha
  have xZ:=abn.mp hb
  exact ne (inj a b R1.1 (by omega) xZ.1 (by omega) he)
 ·intro x hx
  obtain⟨k,hk,rfl⟩:=abm.mp hx
  have Ke:=abn.mp hk
  have:=vp k Ke.1 (by omega)
  exact abn.mpr ⟨this.1,by omega⟩
 ·rw[ZR]
  exact ZL _
def e (a n k:Nat):Nat:=if n<2*(a*k%n) then 1 else 0
def pi (a n k:Nat):Nat:=if n<2*(a*k%n) then n-a*k%n else a*k%n
def mu (a n:Nat):Nat:=S (e a n) (n / 2)
theorem NL (a n k:Nat):e (a%n) n k=e a n k:=by
 unfold e
 rw[<- Nat.mod_mul_mod,adQ]<;>simp[ac5]
theorem Ki (a n:Nat):mu (a%n) n=mu a n:=by
 unfold mu
 exact gM fun k _ _=>NL a n k
structure Ok (a n:Nat):Prop where
 odd:n%2=1
 Ic:Nat.gcd a n=1
theorem gZ {a n k:Nat}(c:Nat.gcd a n=1)(h:n∣a*k):n∣k:=by
 have c':Nat.Coprime n a:=by rw[aaD,acz];exact c
 exact c'.dvd_of_dvd_mul_left h
theorem v9 {a n k:Nat}(o:Ok a n)(k1:1<=k)(k2:k<=n / 2):0<a*k%n:=by
 rcases acN (a*k%n) with h|h
 ·have:=gZ o.Ic (adl h)
  have:=abw (by omega) this
  have:=o.odd
  omega
 ·exact h
theorem z9 {a n k:Nat}(o:Ok a n)(k1:1<=k)(k2:k<=n / 2):1<=pi a n k/\pi a n k<=n / 2:=by
 have h:=v9 o k1 k2
 have h2:a*k%n<n:=acf _ (by have:=o.odd;omega)
 have:=o.odd
 unfold pi
 split<;>omega
theorem mod_eq_sub {x y n:Nat}(h:x%n=y%n):n∣x-y:=by
 rcases Nat.le_total y x with l|l
 ·exact (Nat.dvd_iff_mod_eq_zero).mpr (Nat.sub_mod_eq_zero_of_mod_eq h)
 ·rw[Nat.sub_eq_zero_of_le l];exact Nat.dvd_zero n
theorem yl {a n k l:Nat}(o:Ok a n)(k1:1<=k)(k2:k<=n / 2)(l1:1<=l)(l2:l<=n / 2)(h:pi a n k=pi a n l):k=l:=by
 have n0:0<n:=by have:=o.odd;omega
 have a1:a*k%n<n:=acf _ n0
 have a2:a*l%n<n:=acf _ n0
 have no:=o.odd
 have same:a*k%n=a*l%n->k=l:=fun q=>by
  rcases Nat.le_total l k with z|z
  ·have d:=mod_eq_sub q
   rw[<- Nat.mul_sub] at d
   have d2:=gZ o.Ic d
   rcases acN (k-l) with w|w
   ·omega
   ·have:=abw w d2
    omega
  ·have d:=mod_eq_sub q.symm
   rw[<- Nat.mul_sub] at d
   have d2:=gZ o.Ic d
   rcases acN (l-k) with w|w
   ·omega
   ·have:=abw w d2
    omega
 have other:a*k%n+a*l%n=n->False:=fun q=>by
  have d:n∣a*(k+l):=by
   rw[ac7]
   refine adl ?_
   rw[Nat.add_mod,q,Nat.mod_self]
  have:=abw (by omega) (gZ o.Ic d)
  omega
 unfold pi at h
 split at h<;>split at h
 ·exact same (by omega)
 ·exact (other (by omega)).elim
 ·exact (other (by omega)).elim
 ·exact same h
theorem R3 (a n k:Nat):e a n k<=1:=by unfold e;split<;>omega
theorem NM {a n k:Nat}(no:n%2=1)(hr:0<a*k%n)(r:Nat)(ym:(r+a*k)%n=0):(if n<2*(r%n) then 1 else 0)=1-e a n k:=by
 have n0:0<n:=by omega
 have h1:a*k%n<n:=acf _ n0
 have h2:r%n<n:=acf _ n0
 rw[Nat.add_mod] at ym
 have h3:r%n+a*k%n=n:=by
  have d:=adl ym
  obtain⟨q,hq⟩:=d
  have:q=1:=by
   rcases q with _|_|q
   ·omega
   ·rfl
   ·have:n*(q+1+1)=n*q+2*n:=by rw[ac7,ac7];omega
    have:=aaH (n*q)
    omega
  subst this
  omega
 unfold e
 split<;>split<;>omega
theorem NN {a b n k:Nat}(o:Ok a n)(ob:Ok b n)(k1:1<=k)(k2:k<=n / 2):e (a*b) n k%2=(e b n k+e a n (pi b n k))%2:=by
 have no:=o.odd
 have n0:0<n:=by omega
 have pin:=z9 ob k1 k2
 have hb:b*k%n<n:=acf _ n0
 have key:a*b*k%n=a*(b*k%n)%n:=by rw[ac6,ac5,ac5 a (b*k%n),adQ]
 by_cases c:n<2*(b*k%n)
 ·have e1:e b n k=1:=by unfold e;rw[aag c]
  have e2:pi b n k=n-b*k%n:=by unfold pi;rw[aag c]
  have r:=v9 o pin.1 pin.2
  have z:(a*(b*k%n)+a*pi b n k)%n=0:=by
   rw[<- ac7,e2,Nat.add_sub_cancel' (acg hb),Nat.mul_mod_left]
  have:=NM no r (a*(b*k%n)) z
  have e3:e (a*b) n k=1-e a n (pi b n k):=by
   rw[<- this]
   unfold e
   rw[key]
  have:=R3 a n (pi b n k)
  omega
 ·have e1:e b n k=0:=by unfold e;rw[Z4 c]
  have e2:pi b n k=b*k%n:=by unfold pi;rw[Z4 c]
  have e3:e (a*b) n k=e a n (pi b n k):=by
   unfold e
   rw[key,e2]
  omega
theorem Kj {a b n:Nat}(o:Ok a n)(ob:Ok b n):mu (a*b) n%2=(mu a n+mu b n)%2:=by
 unfold mu
 rw[DH (g:=fun k=>e b n k+e a n (pi b n k)) fun k h1 h2=>NN o ob h1 h2,oJ,DI (e a n) (pi b n) (fun k h1 h2=>z9 ob h1 h2) fun k l h1 h2 h3 h4 h=>yl ob h1 h2 h3 h4 h,adL]
theorem Kk {n:Nat}(no:n%2=1):mu 1 n=0:=by
 unfold mu
 rw[gM (g:=fun _=>0),kB,Nat.mul_zero]
 intro k k1 k2
 unfold e
 rw[adx,Nat.mod_eq_of_lt (by omega),Z4 (by omega)]
theorem pJ (n x:Nat)(n0:0<n):∀ m,S (fun j=>if j*n<=x then 1 else 0) m=min m (x / n)
 | 0=>by simp[S]
 | m+1=>by
  simp only[S]
  rw[pJ n x n0 m]
  have h:(m+1)*n<=x↔m+1<=x / n:=(Nat.le_div_iff_mul_le n0).symm
  split
  ·next c=>
   have:=h.mp c
   omega
  ·next c=>
   have:¬ m+1<=x / n:=fun z=>c (h.mpr z)
   omega
theorem Kl {n:Nat}(no:n%2=1):mu 2 n=n / 2-n / 4:=by
 unfold mu
 have h:S (fun k=>(if k*4<=n then 1 else 0)+e 2 n k) (n / 2)=S (fun _=>1) (n / 2):=gM fun k k1 k2=>by
  unfold e
  rw[Nat.mod_eq_of_lt (by omega)]
  split<;>split<;>omega
 rw[oJ,pJ 4 n (by decide),kB] at h
 omega
theorem wc {a n:Nat}(o:Ok a n)(ao:a%2=1):mu a n%2=S (fun k=>a*k / n) (n / 2)%2:=by
 have no:=o.odd
 have n0:0<n:=by omega
 have h1:S (fun k=>a*k) (n / 2)=S (fun k=>n*(a*k / n)+a*k%n) (n / 2):=gM fun k _ _=>(Nat.div_add_mod _ _).symm
 rw[oJ,DF,DF] at h1
 have h2:S (fun k=>a*k%n) (n / 2)%2=S (fun k=>pi a n k+e a n k) (n / 2)%2:=DH fun k k1 k2=>by
  have:a*k%n<n:=acf _ n0
  unfold pi e
  split<;>omega
 rw[oJ,DI (fun k=>k) (pi a n) (fun k h1 h2=>z9 o h1 h2) fun k l h1 h2 h3 h4 h=>yl o h1 h2 h3 h4 h] at h2
 have h3:S (e a n) (n / 2)=mu a n:=rfl
 rw[h3] at h2
 have m1:a*S (fun k=>k) (n / 2)%2=S (fun k=>k) (n / 2)%2:=by rw[ac5,ao,adx,adQ]
 have m2:n*S (fun k=>a*k / n) (n / 2)%2=S (fun k=>a*k / n) (n / 2)%2:=by rw[ac5,no,adx,adQ]
 omega
theorem Gx {a n:Nat}(ao:a%2=1)(no:n%2=1)(c:Nat.gcd a n=1):S (fun k=>a*k / n) (n / 2)+S (fun j=>n*j / a) (a / 2)=(n / 2)*(a / 2):=by
 have n0:0<n:=by omega
 have a0:0<a:=by omega
 have half:∀ {a n k:Nat},a%2=1->n%2=1->k<=n / 2->a*k / n<=a / 2:=fun {a n k} ao no h=>by
  have n0:0<n:=by omega
  have h1:a*k<=a*(n / 2):=Nat.mul_le_mul_left a h
  have h2:2*(a*(n / 2))=a*(n-1):=by
   rw[<- ac6,acM 2 a,ac6]
   congr 1
   omega
  have h3:a*(n-1)<a*n:=Nat.mul_lt_mul_of_pos_left (by omega) (by omega)
  have h4:a*k / n*n<=a*k:=Nat.div_mul_le_self _ _
  rcases adK (a / 2) (a*k / n) with z|z
  ·have h5:(a / 2+1)*n<=a*k / n*n:=acC n z
   have h6:2*((a / 2+1)*n)=(a+1)*n:=by
    rw[<- ac6]
    congr 1
    omega
   have h7:(a+1)*n=a*n+n:=by rw[Nat.add_mul,adx]
   omega
  ·exact z
 have e1:S (fun k=>a*k / n) (n / 2)=S (fun k=>S (fun j=>if j*n<=a*k then 1 else 0) (a / 2)) (n / 2):=gM fun k k1 k2=>by
  rw[pJ n (a*k) n0]
  have:=half ao no k2
  omega
 have e2:S (fun j=>n*j / a) (a / 2)=S (fun j=>S (fun k=>if k*a<=n*j then 1 else 0) (n / 2)) (a / 2):=gM fun j j1 j2=>by
  rw[pJ a (n*j) a0]
  have:=half no ao j2
  omega
 rw[e1,e2,DG (fun j k=>if k*a<=n*j then 1 else 0),<- oJ]
 rw[gM (g:=fun _=>a / 2),kB]
 intro k k1 k2
 rw[<- oJ,gM (g:=fun _=>1),kB,Nat.mul_one]
 intro j j1 j2
 have ne:j*n≠a*k:=fun z=>by
  have d:n∣a*k:=⟨j,by rw[<- z,acM]⟩
  have:=abw (by omega) (gZ c d)
  omega
 have c1:k*a=a*k:=acM _ _
 have c2:n*j=j*n:=acM _ _
 rw[c1,c2]
 split<;>split<;>omega
theorem Gy {a n:Nat}(ao:a%2=1)(no:n%2=1)(c:Nat.gcd a n=1):(mu a n+mu n a)%2=(n / 2)*(a / 2)%2:=by
 have h1:=wc ⟨no,c⟩ ao
 have h2:=wc (a:=n) (n:=a) ⟨ao,by rw[acz];exact c⟩ no
 have h3:=Gx ao no c
 omega
def sg (k:Nat):Int:=if k%2=0 then 1 else -1
theorem yo (k l:Nat):sg (k+l)=sg k*sg l:=by
 unfold sg
 split<;>split<;>split<;>omega
theorem DJ {k l:Nat}(h:k%2=l%2):sg k=sg l:=by unfold sg;rw[h]
theorem Ie (k:Nat):sg k*sg k=1:=by unfold sg;split<;>rfl
theorem NO (k:Nat):sg k=1\/sg k=-1:=by unfold sg;split<;>simp
def rH (a n:Nat):Int:=if Nat.gcd a n=1 then sg (mu a n) else 0
theorem dX {a n:Nat}(h:Nat.gcd a n=1):rH a n=sg (mu a n):=aag h
theorem fN {a n:Nat}(h:Nat.gcd a n≠1):rH a n=0:=Z4 h
theorem Aa (a n:Nat):Nat.gcd (a%n) n=Nat.gcd a n:=by rw[<- Nat.gcd_rec,acz]
theorem Ab (a n:Nat):rH (a%n) n=rH a n:=by
 by_cases c:Nat.gcd a n=1
 ·rw[dX c,dX ((Aa a n).trans c),Ki]
 ·rw[fN c,fN fun z=>c ((Aa a n).symm.trans z)]
theorem ub {n:Nat}(no:n%2=1)(a b:Nat):rH (a*b) n=rH a n*rH b n:=by
 by_cases c:Nat.gcd (a*b) n=1
 ·obtain⟨c1,c2⟩:=Nat.coprime_mul_iff_left.mp (aaD.mpr c)
  have d1:=aaD.mp c1
  have d2:=aaD.mp c2
  rw[dX c,dX d1,dX d2,<- yo]
  exact DJ (Kj ⟨no,d1⟩ ⟨no,d2⟩)
 ·rw[fN c]
  by_cases d1:Nat.gcd a n=1
  ·by_cases d2:Nat.gcd b n=1
   ·exact absurd (aaD.mp (Nat.Coprime.mul_left (aaD.mpr d1) (aaD.mpr d2))) c
   ·rw[fN d2,aaF]
  ·rw[fN d1,Int.zero_mul]
theorem Ac {n:Nat}(no:n%2=1):rH 1 n=1:=by
 rw[dX (Nat.gcd_one_left n),Kk no]
 rfl
theorem Gz (a:Nat):rH a 1=1:=by
 rw[dX (Nat.gcd_one_right a)]
 rfl
theorem DK {n:Nat}(h:n≠1):rH 0 n=0:=fN (by rw[Nat.gcd_zero_left];exact h)
theorem Km (a n:Nat):rH a n=1\/rH a n=0\/rH a n=-1:=by
 by_cases c:Nat.gcd a n=1
 ·rw[dX c]
  rcases NO (mu a n) with h|h<;>rw[h]<;>simp
 ·rw[fN c]
  simp
def two (n:Nat):Int:=if n%8=3\/n%8=5 then -1 else 1
theorem GA {n:Nat}(no:n%2=1):rH 2 n=two n:=by
 have c:Nat.gcd 2 n=1:=by
  rw[Nat.gcd_rec,no];rfl
 rw[dX c,Kl no]
 unfold sg two
 split<;>split<;>omega
def turn (a n:Nat):Int:=if a%4=3/\n%4=3 then -1 else 1
theorem DL (a n:Nat)(ao:a%2=1)(no:n%2=1):sg ((n / 2)*(a / 2))=turn a n:=by
 have h:(n / 2)*(a / 2)%2=(n / 2%2)*(a / 2%2)%2:=by rw[ac5]
 unfold sg turn
 rw[h]
 have h1:n / 2%2=0\/n / 2%2=1:=by omega
 have h2:a / 2%2=0\/a / 2%2=1:=by omega
 rcases h1 with h1|h1<;>rcases h2 with h2|h2<;>rw[h1,h2]<;>simp<;>omega
theorem DM {a n:Nat}(ao:a%2=1)(no:n%2=1):rH a n=turn a n*rH n a:=by
 by_cases c:Nat.gcd a n=1
 ·have c':Nat.gcd n a=1:=by rw[acz];exact c
  rw[dX c,dX c',<- DL a n ao no]
  have h:=DJ (Gy ao no c)
  rw[yo] at h
  rw[<- h,Z3,Ie,aaM]
 ·rw[fN c,fN (by rw[acz];exact c),aaF]
theorem DN {b o k:Nat}(bo:b%2=1)(oo:o%2=1):rH (2^k*o) b=(if k%2=1 then two b else 1)*turn o b*rH (b%o) o:=by
 have pw:∀ k,rH (2^k) b=if k%2=1 then two b else 1:=by
  intro k
  induction k with
  | zero=>rw[Nat.pow_zero,Ac bo];rfl
  | succ k ih=>
   rw[abf,ub bo,ih,GA bo]
   have t:two b*two b=1:=by unfold two;split<;>rfl
   by_cases h:k%2=1
   ·rw[aag h,Z4 (by omega),t]
   ·rw[Z4 h,aag (by omega),aaI]
 rw[ub bo,pw,Ab,Z3,<- DM oo bo]
@[irreducible] def J (x n:Int):Int:=rH (x%n).toNat n.toNat
theorem ud (x n:Int):J x n=rH (x%n).toNat n.toNat:=by unfold J;rfl
theorem Ig {x y n:Int}(h:x%n=y%n):J x n=J y n:=by rw[ud,ud,h]
theorem wd {n:Int}(n0:0<n){x:Int}(x0:0<=x):J x n=rH x.toNat n.toNat:=by
 rw[ud,Int.toNat_emod x0 (Z1 n0),Ab]
theorem Ih {n:Int}(n0:0<n)(no:n%2=1)(x y:Int):J (x*y) n=J x n*J y n:=by
 have hx:=Z6 x (show n≠0 by omega)
 have hy:=Z6 y (show n≠0 by omega)
 have e:J (x*y) n=J ((x%n)*(y%n)) n:=Ig (by rw[abx])
 rw[e,wd n0 (ZO hx hy),Int.toNat_mul hx hy,ub (by omega),ud,ud]
theorem NP {n:Int}(n0:0<n)(no:n%2=1):J 1 n=1:=by
 rw[wd n0 (by decide)]
 exact Ac (by omega)
theorem NQ (x:Int):J x 1=1:=by
 rw[ud]
 exact Gz _
theorem Kn {n:Int}(n0:0<n)(h:n≠1):J 0 n=0:=by
 rw[wd n0 (by decide)]
 exact DK (by omega)
theorem Ko (x n:Int):J x n=1\/J x n=0\/J x n=-1:=by
 rw[ud]
 exact Km _ _
def hG (n:Int):Int:=if n%8=3\/n%8=5 then -1 else 1
def iB (a n:Int):Int:=if a%4=3/\n%4=3 then -1 else 1
theorem GB {a n:Int}(a0:0<a)(n0:0<n):turn a.toNat n.toNat=iB a n:=by
 unfold turn iB
 split<;>split<;>omega
theorem Kp {n:Int}(n0:0<n):two n.toNat=hG n:=by
 unfold two hG
 split<;>split<;>omega
def GG (a b:Int):Nat:=Nat.gcd (a%b).toNat b.toNat
theorem NR {x n:Int}(h:GG x n=1):J x n*J x n=1:=by
 have h':Nat.gcd (x%n).toNat n.toNat=1:=h
 rw[ud,dX h',Ie]
theorem Kq {b l o:Int}(b0:0<b)(bo:b%2=1)(l0:0<l)(lo:l%2=1)(o0:0<=o):J (2^o.toNat*l) b=(if o%2=1 then hG b else 1)*iB l b*J (b%l) l:=by
 have p:0<(2:Int)^o.toNat*l:=aat (Int.pow_pos (by decide)) l0
 have e:((2:Int)^o.toNat*l).toNat=2^o.toNat*l.toNat:=by
  rw[Int.toNat_mul (Z1 (Int.pow_pos (by decide))) (Z1 l0)]
  congr 1
 rw[wd b0 (Z1 p),e,DN (by omega) (by omega),wd l0 (Z6 _ (by omega)),Int.toNat_emod (Z1 b0) (Z1 l0),GB l0 b0,Kp b0]
 have:(o.toNat%2=1)=(o%2=1):=by
  apply propext
  omega
 simp only[this]
structure Dec (x p l o:Int):Prop where
 eq:x=p^o.toNat*l
 o0:0<=o
 nd:¬ p∣l
theorem Ad {p l l':Int}(p0:p≠0)(h:¬ p∣l)(h':¬ p∣l'):∀ k m:Nat,p^k*l=p^m*l'->k=m/\l=l'
 | 0,0,e=>by
  rw[aaB,aaI,aaI] at e
  exact⟨rfl,e⟩
 | 0,m+1,e=>by
  rw[aaB,aaI,ZZ,ZX (p^m) p,Z3] at e
  exact absurd ⟨_,e⟩ h
 | k+1,0,e=>by
  rw[aaB,aaI,ZZ,ZX (p^k) p,Z3] at e
  exact absurd ⟨_,e.symm⟩ h'
 | k+1,m+1,e=>by
  rw[ZZ,ZZ,ZX (p^k) p,ZX (p^m) p,Z3,Z3] at e
  obtain⟨a,b⟩:=Ad p0 h h' k m (aaR p0 e)
  exact⟨by omega,b⟩
theorem Dec.unique {x p l o l' o':Int}(p0:p≠0)(h:Dec x p l o)(h':Dec x p l' o'):o=o'/\l=l':=by
 have e:=h.eq.symm.trans h'.eq
 obtain⟨a,b⟩:=Ad p0 h.nd h'.nd _ _ e
 have:=h.o0
 have:=h'.o0
 exact⟨by omega,b⟩
theorem Dec.DO {x p l o:Int}(h:Pr.Gu x p l o)(o0:0<=o)(z:l.fmod p≠0):Dec x p l o:=⟨h.eq,o0,fun d=>z (Int.fmod_eq_zero_of_dvd d)⟩
def By (p o1 l1 o2 l2:Int):Int:=if o1%2=1 then (if o2%2=1 then J (-l1*l2) p else J l2 p) else (if o2%2=1 then J l1 p else 1)
def Bz (o1 l1 o2 l2:Int):Int:=iB l1 l2*(if o1%2=1 then hG l2 else 1)*(if o2%2=1 then hG l1 else 1)
def hs (p o1 l1 o2 l2:Int):Int:=if p=2 then Bz o1 l1 o2 l2 else By p o1 l1 o2 l2
def GC (p r:Nat):Int:=if r%p=0 then 1 else 0
def Ae (p r:Nat):Int:=if r%p=0 then (r / p:Nat) else (r:Nat)
def PQ (p ra rb:Nat):Int:=hs p (GC p ra) (Ae p ra) (GC p rb) (Ae p rb)
theorem BA {o1 l1 o2 l2 NS NT:Int}(h1:l1%8=NS%8)(h2:l2%8=NT%8):Bz o1 l1 o2 l2=Bz o1 NS o2 NT:=by
 unfold Bz
 have t1:hG l1=hG NS:=by unfold hG;rw[h1]
 have t2:hG l2=hG NT:=by unfold hG;rw[h2]
 have t3:iB l1 l2=iB NS NT:=by
  unfold iB
  rw[show l1%4=NS%4 by omega,show l2%4=NT%4 by omega]
 rw[t1,t2,t3]
theorem GF {a p l o:Int}(p0:p≠0)(d:Dec a p l o)(h:¬ p*p∣a):(o=0/\a=l)\/(o=1/\a=p*l):=by
 have o0:=d.o0
 have e:=d.eq
 rcases (show o=0\/o=1\/2<=o by omega) with z|z|z
 ·rw[z,show (0:Int).toNat=0 from rfl,aaB,aaI] at e
  exact .inl ⟨z,e⟩
 ·rw[z,show (1:Int).toNat=1 from rfl,ZZ,aaB,aaI] at e
  exact .inr ⟨z,e⟩
 ·exfalso
  obtain⟨k,hk⟩:∃ k,o.toNat=k+2:=⟨o.toNat-2,by omega⟩
  rw[hk,ZZ,ZZ] at e
  exact h ⟨p^k*l,by rw[e];grind⟩
theorem Ii {a l o:Int}(d:Dec a 2 l o)(h:¬ (2:Int)*2∣a):o=GC 2 (a%(16:Nat)).toNat/\l%8=Ae 2 (a%(16:Nat)).toNat%8/\(a%(16:Nat)).toNat%(2*2)≠0:=by
 have nd:=d.nd
 have h':¬ (4:Int)∣a:=h
 unfold GC Ae
 rcases GF (by decide) d h with ⟨z,e⟩|⟨z,e⟩
 ·subst z
  subst e
  rw[Z4 (show ¬ (a%(16:Nat)).toNat%2=0 by omega),Z4 (show ¬ (a%(16:Nat)).toNat%2=0 by omega)]
  omega
 ·subst z
  rw[aag (show (a%(16:Nat)).toNat%2=0 by omega),aag (show (a%(16:Nat)).toNat%2=0 by omega)]
  omega
end Jc
namespace Jc
open Pr (bU)
theorem DP {p:Int}(p2:2<=p):∀ (m:Nat) (x:Int),x≠0->x.natAbs<=m->∃ l o,Dec x p l o
 | 0,x,x0,h=>absurd (Int.natAbs_eq_zero.mp (by omega)) x0
 | m+1,x,x0,h=>by
  by_cases d:p∣x
  ·obtain⟨k,hk⟩:=d
   have k0:k≠0:=fun z=>x0 (by rw[hk,z,aaF])
   have e:x.natAbs=p.natAbs*k.natAbs:=by rw[hk,Z7]
   have:2*k.natAbs<=p.natAbs*k.natAbs:=acC _ (by omega)
   obtain⟨l,o,D⟩:=DP p2 m k k0 (by omega)
   refine⟨l,o+1,⟨?_,by have:=D.o0;omega,D.nd⟩⟩
   rw[show (o+1).toNat=o.toNat+1 by have:=D.o0;omega,ZZ,hk,D.eq]
   grind
  ·exact⟨x,0,⟨by rw[show (0:Int).toNat=0 from rfl,aaB,aaI],by decide,d⟩⟩
theorem ue {p l:Int}(hp:bU p)(h:¬ p∣l):J l p*J l p=1:=by
 refine NR ?_
 have p2:=hp.two
 have c:=Pr.iA hp (x:=l%p) (fun d=>h (by have e:=acA l p;rw[<- e];exact acs d (aaX _ _)))
 have r0:=Z6 l (show p≠0 by omega)
 unfold GG
 have c':=aaD.mp c
 rw[acz]
 rw[show p.toNat=p.natAbs by omega,show (l%p).toNat=(l%p).natAbs by omega]
 exact c'
theorem jq {p:Int}(h:bU p)(n2:p≠2):p%2=1:=by
 rcases (show p%2=0\/p%2=1 by omega) with z|z
 ·have:=h.two
  exact absurd (aaa z) (h.no 2 (by omega) (by omega))
 ·exact z
end Jc
namespace Pw
theorem mulC {n a a' b b':Int}(h1:a%n=a'%n)(h2:b%n=b'%n):a*b%n=a'*b'%n:=by
 rw[abx,h1,h2,<- abx]
theorem powC {n a b:Int}(h:a%n=b%n):∀ k:Nat,a^k%n=b^k%n
 | 0=>by rw[aaB,aaB]
 | k+1=>by rw[ZZ,ZZ];exact mulC (powC h k) h
theorem gK (a n:Int):(a%n)%n=a%n:=ad6 a n
@[irreducible] def PM (x:Int) (k:Nat) (n:Int):Int:=x^k%n
theorem fv (x:Int)(k:Nat)(n:Int):PM x k n=x^k%n:=by unfold PM;rfl
theorem BB {x n:Int}{k:Nat}(h:0<n):0<=PM x k n:=by rw[fv];exact Z6 _ (by omega)
theorem NU {x n:Int}{k:Nat}(h:0<n):PM x k n<n:=by rw[fv];exact Z9 _ h
theorem GH (x n:Int)(k:Nat):PM x (k+1) n=PM x k n*x%n:=by
 rw[fv,fv,ZZ];exact mulC (gK _ _).symm rfl
theorem GI {x y n:Int}(k:Nat)(h:x%n=y%n):PM x k n=PM y k n:=by rw[fv,fv];exact powC h k
theorem Kr (x n:Int)(k m:Nat):PM x (k+m) n=PM x k n*PM x m n%n:=by
 rw[fv,fv,fv,ac9];exact mulC (gK _ _).symm (gK _ _).symm
theorem start (x n:Int)(k:Nat):(1%n)*(x%n)^k%n=PM x k n:=by
 rw[fv]
 have h:(1%n)*(x%n)^k%n=1*x^k%n:=mulC (gK 1 n) (powC (gK x n) k)
 rw[h,aaI]
theorem split (f:Int)(l:Nat):f^l=(f*f)^(l / 2)*f^(l%2):=by
 have h:l=2*(l / 2)+l%2:=by omega
 have e:f^2=f*f:=by rw[ZZ,ZZ,aaB,aaI]
 rw[<- e,<- adS,<- ac9,<- h]
theorem we {p f n v:Int}{l:Nat}(h:p*f^l%n=v)(o:l%2=1):(p*f%n)*(f*f%n)^(l / 2)%n=v:=by
 rw[<- h,split f l,o,ZZ,aaB,aaI]
 have e:p*((f*f)^(l / 2)*f)=p*f*(f*f)^(l / 2):=by
  rw[ZX ((f*f)^(l / 2)) f,Z3]
 rw[e]
 exact mulC (gK _ _) (powC (gK _ _) _)
theorem sR {p f n v:Int}{l:Nat}(h:p*f^l%n=v)(o:l%2=0):p*(f*f%n)^(l / 2)%n=v:=by
 rw[<- h,split f l,o,aaB,aaM]
 exact mulC rfl (powC (gK _ _) _)
theorem done {p f n v:Int}(h:p*f^0%n=v)(h0:0<=p)(h1:p<n):p=v:=by
 rw[aaB,aaM,abc h0 h1] at h
 exact h
end Pw
namespace Jc
open Pr (bU)
def PN (f:Nat->Nat):Nat->Nat
 | 0=>1
 | m+1=>PN f m*f (m+1)
theorem uf (f:Nat->Nat):∀ m,PN f m=((List.range' 1 m).map f).prod
 | 0=>rfl
 | m+1=>by
  simp only[PN]
  rw[uf f m,List.range'_concat,aaw,List.prod_append_nat]
  simp[adL]
theorem GJ (p:Nat->Nat){m:Nat}(vp:∀ k,1<=k->k<=m->1<=p k/\p k<=m)(inj:∀ k l,1<=k->k<=m->1<=l->l<=m->p k=p l->k=l):PN p m=PN (fun k=>k) m:=by
 rw[uf,uf]
 refine List.Perm.prod_nat ?_
 have e:(List.range' 1 m).map (fun k=>k)=List.range' 1 m:=by simp
 rw[e]
 refine z8 ?_ ?_ ?_
 ·refine abZ.mpr ?_
  have h0:(List.range' 1 m).Nodup:=List.nodup_range'
  refine List.Pairwise.imp_of_mem ?_ h0
  intro a b ha hb ne he
  have R1:=abn.mp ha
  have xZ:=abn.mp hb
  exact ne (inj a b R1.1 (by omega) xZ.1 (by omega) he)
 ·intro x hx
  obtain⟨k,hk,rfl⟩:=abm.mp hx
  have Ke:=abn.mp hk
  have:=vp k Ke.1 (by omega)
  exact abn.mpr ⟨this.1,by omega⟩
 ·rw[ZR]
  exact ZL _
theorem wg (a:Nat):∀ m,PN (fun k=>a*k) m=a^m*PN (fun k=>k) m
 | 0=>by simp[PN]
 | m+1=>by
  simp only[PN]
  rw[wg a m,abf]
  grind
theorem Af {a n:Nat}(o:Ok a n):∀ m,m<=n / 2->((PN (fun k=>a*k) m:Nat):Int)%n=sg (S (e a n) m)*((PN (pi a n) m:Nat):Int)%n
 | 0,_=>by simp[PN,S,sg]
 | m+1,hm=>by
  have n0:0<n:=by have:=o.odd;omega
  have ih:=Af o m (by omega)
  simp only[PN,S]
  rw[aa7 (PN (fun k=>a*k) m) (a*(m+1)),aa7 (PN (pi a n) m) (pi a n (m+1)),yo]
  have step:((a*(m+1):Nat):Int)%n=sg (e a n (m+1))*((pi a n (m+1):Nat):Int)%n:=by
   have h2:a*(m+1)%n<n:=acf _ n0
   have q:=acA ((a*(m+1):Nat):Int) n
   have r:((a*(m+1):Nat):Int)%n=((a*(m+1)%n:Nat):Int):=by rw[Int.natCast_emod]
   unfold e pi sg
   by_cases c:n<2*(a*(m+1)%n)
   ·rw[aag c,aag c,Z4 (by decide),r]
    have:(-1:Int)*((n-a*(m+1)%n:Nat):Int)=((a*(m+1)%n:Nat):Int)+n*(-1):=by
     rw[Int.natCast_sub (acg h2)]
     omega
    rw[this,abt,abc (by omega) (by omega)]
   ·rw[Z4 c,Z4 c,aag rfl,aaI,r,abc (by omega) (by omega)]
  have z:=Pw.mulC ih step
  rw[z]
  congr 1
  grind
theorem ug {p:Int}(hp:bU p):∀ m:Nat,(m:Int)<p->¬ p∣((PN (fun k=>k) m:Nat):Int)
 | 0,_,d=>Pr.bj hp d
 | m+1,h,d=>by
  simp only[PN] at d
  rw[aa7] at d
  rcases Pr.euclid hp d with z|z
  ·exact ug hp m (by omega) z
  ·have:=adD (by omega) z
   omega
theorem NV {p:Nat}(hp:bU (p:Int))(po:p%2=1){a:Nat}(c:Nat.gcd a p=1):(p:Int)∣(a:Int)^(p / 2)-sg (mu a p):=by
 have o:Ok a p:=⟨po,c⟩
 have h1:=Af o (p / 2) (ZL _)
 rw[wg,GJ (pi a p) (fun k h1 h2=>z9 o h1 h2) fun k l h1 h2 h3 h4 h=>yl o h1 h2 h3 h4 h] at h1
 have h2:=ZY.mp h1
 rw[aa7,adT,<- Int.sub_mul] at h2
 have d:=aaa h2
 rcases Pr.euclid hp d with z|z
 ·exact z
 ·exact absurd z (ug hp (p / 2) (by have:=hp.two;omega))
theorem Ag {p:Int}(hp:bU p)(po:p%2=1)(x:Int):Pw.PM x (p / 2).toNat p=J x p%p:=by
 have p2:=hp.two
 obtain⟨q,rfl⟩:∃ q:Nat,p=(q:Int):=⟨p.toNat,by omega⟩
 have hx:=Z6 x (show (q:Int)≠0 by omega)
 rw[show ((q:Int) / 2).toNat=q / 2 by omega]
 rw[Pw.GI _ (Pw.gK x q).symm]
 obtain⟨r,hr⟩:∃ r:Nat,x%(q:Int)=(r:Int):=⟨(x%(q:Int)).toNat,by omega⟩
 rw[ud,hr,aaE,aaE,Pw.fv]
 by_cases c:Nat.gcd r q=1
 ·rw[dX c]
  exact ZY.mpr (aax (NV hp (by omega) c))
 ·rw[fN c]
  have d:(q:Int)∣(r:Int):=by
   by_cases d:(q:Int)∣(r:Int)
   ·exact d
   ·have k:=Pr.iA hp d
    rw[Int.natAbs_natCast,Int.natAbs_natCast] at k
    exact absurd (by rw[acz];exact aaD.mp k) c
  have z:(r:Int)%q=0%q:=by rw[aax d,Int.zero_emod]
  rw[Pw.powC z]
  obtain⟨k,hk⟩:∃ k,q / 2=k+1:=⟨q / 2-1,by omega⟩
  rw[hk,ZZ,aaF]
end Jc
namespace Pl
open Jc
def LZ (a b c:Nat):Bool:=[0,1,4].any fun x=>[0,1,4].any fun y=>[0,1,4].any fun z=>(x==1 || y==1 || z==1)&&(a*x+b*y+c*z)%8==0
def PR (a b c:Nat):Bool:=(a%4 != 0)&&(b%4 != 0)&&(c%4 != 0)&&!(a%2==0&&b%2==0)&&!(b%2==0&&c%2==0)&&!(c%2==0&&a%2==0)
def NW (a b c:Nat):Bool:=!(PR a b c) || (decide (PQ 2 ((16-a)*c%16) ((16-b)*c%16)=-1)==!(LZ a b c))
theorem DQ:((List.range 16).all fun a=>(List.range 16).all fun b=>(List.range 16).all fun c=>NW a b c)=true:=by decide +kernel
end Pl
namespace Pl
open Pr (bU Told)
open Jc
theorem Ah {p:Int}:∀ {ps:List Int},p∈ps->p∣ps.prod
 | q::r,h=>by
  rw[ad0]
  rcases ZI.mp h with rfl|h
  ·exact aaX _ _
  ·exact aaf (Ah h) (aab _ _)
theorem Ai {p:Int}(hp:bU p):∀ {ps:List Int},(∀ q∈ps,bU q)->p∣ps.prod->p∈ps
 | [],_,hd=>absurd hd (by rw[List.prod_nil];exact Pr.bj hp)
 | q::r,h,hd=>by
  rw[ad0] at hd
  rcases Pr.euclid hp hd with z|z
  ·rw[Pr.eS hp (h q (aaZ ..)) z]
   exact aaZ ..
  ·exact aav _ (Ai hp (fun x m=>h x (aav _ m)) z)
structure kC (a b c:Int):Prop where
 a0:a≠0
 b0:b≠0
 c0:c≠0
 sa:∀ p,bU p->¬ p*p∣a
 sb:∀ p,bU p->¬ p*p∣b
 sc:∀ p,bU p->¬ p*p∣c
 ab:∀ p,bU p->p∣a->¬ p∣b
 bc:∀ p,bU p->p∣b->¬ p∣c
 ca:∀ p,bU p->p∣c->¬ p∣a
theorem kC.fO {a b c:Int}(h:kC a b c):kC b c a:=⟨h.b0,h.c0,h.a0,h.sb,h.sc,h.sa,h.bc,h.ca,h.ab⟩
theorem DR {n:Int}{xs:List (Int × Int)}(h:Told n xs)(sq:∀ p,bU p->¬ p*p∣n):Pr.df xs=1:=by
 have r1:=Pr.Bx h.all
 by_cases e:Pr.df xs=1
 ·exact e
 ·obtain⟨q,hq,hd⟩:=Pr.v8 (Pr.df xs).toNat (Pr.df xs) (by omega) (ZL _)
  exfalso
  refine sq q hq ?_
  rw[<- h.prod,<- Pr.sQ h.all,Z3]
  exact aaf (adU hd hd) (aab _ _)
theorem gcd_one {a b g:Int}(h:∀ p,bU p->p∣a->¬ p∣b)(a0:a≠0)(g0:0<=g)(ga:g∣a)(gb:g∣b):g=1:=by
 by_cases e:g=1
 ·exact e
 ·exfalso
  have gn:g≠0:=fun z=>a0 (Int.zero_dvd.mp (z▸ga))
  obtain⟨q,hq,hd⟩:=Pr.v8 g.toNat g (by omega) (ZL _)
  exact h q hq (aaf hd ga) (aaf hd gb)
theorem DS {n:Int}{xs:List (Int × Int)}(h:Told n xs){p:Int}:p∈xs.map (·.1)↔bU p/\p∣n:=by
 constructor
 ·intro m
  obtain⟨x,hx,rfl⟩:=abm.mp m
  have pt:=h.all x hx
  refine⟨pt.prime,?_⟩
  rw[<- h.prod]
  clear h
  induction xs with
  | nil=>cases hx
  | cons y ys ih=>
   rcases ZI.mp hx with rfl|hx
   ·exact Pr.rX pt
   ·have:=ih hx (abm.mpr ⟨x,hx,rfl⟩)
    exact aaf this (aab _ _)
 ·rintro⟨hp,hd⟩
  rw[<- h.prod] at hd
  obtain⟨x,hx,e⟩:=Pr.DD hp h.all hd
  exact abm.mpr ⟨x,hx,e⟩
def Rt (x p:Int):Prop:=∃ r:Int,p∣r*r-x
def yq (a b c:Int):Prop:=∃ x y z:Int,(x%2=1\/y%2=1\/z%2=1)/\(a*x*x+b*y*y+c*z*z)%8=0
def PU (a b c x:Int):Prop:=(x=0/\((a<0/\b<0/\c<0)\/(0<a/\0<b/\0<c)))\/(x=2/\¬ yq a b c) \/
 (bU x/\x≠2/\((x∣a/\¬ Rt (-(b*c)) x)\/(x∣b/\¬ Rt (-(c*a)) x)\/(x∣c/\¬ Rt (-(a*b)) x)))
theorem DT {a b c:Int}(P:kC a b c):(if -a*c<0/\-b*c<0 then (-1:Int) else 1)=-1↔PU a b c 0:=by
 have eb:PU a b c 0↔((a<0/\b<0/\c<0)\/(0<a/\0<b/\0<c)):=by
  constructor
  ·rintro (⟨_,z⟩|⟨z,_⟩|⟨hp,_,_⟩)
   ·exact z
   ·cases z
   ·have:=hp.two
    omega
  ·exact fun z=>.inl ⟨rfl,z⟩
 rw[eb]
 have key:∀ x:Int,x≠0->(-x*c<0↔(x<0/\c<0)\/(0<x/\0<c)):=by
  intro x hx
  have c0:=P.c0
  rw[aaS]
  rcases ack hx with h|h<;>rcases ack c0 with k|k
  ·have:=Int.mul_pos_of_neg_of_neg h k
   omega
  ·have:=Int.mul_neg_of_neg_of_pos h k
   omega
  ·have:=acT h k
   omega
  ·have:=aat h k
   omega
 have ka:=key a P.a0
 have kb:=key b P.b0
 split
 ·rename_i h
  have:=ka.mp h.1
  have:=kb.mp h.2
  constructor
  ·intro _
   omega
  ·intro _
   rfl
 ·rename_i h
  constructor
  ·intro z
   cases z
  ·intro z
   exact absurd ⟨ka.mpr (by omega),kb.mpr (by omega)⟩ h
theorem NX (x:Int):(x%2=1/\x*x%8=1)\/(x%2=0/\(x*x%8=0\/x*x%8=4)):=by
 have h:x%8=0\/x%8=1\/x%8=2\/x%8=3\/x%8=4\/x%8=5\/x%8=6\/x%8=7:=by omega
 rcases h with h|h|h|h|h|h|h|h
 all_goals (rw[abx,h])
 all_goals (have:x%2=x%8%2:=by omega)
 all_goals (rw[h] at this)
 all_goals (rw[this])
 all_goals decide
theorem GK (a b c:Nat):LZ a b c=true↔∃ x y z:Nat,x∈[0,1,4]/\y∈[0,1,4]/\z∈[0,1,4]/\(x=1\/y=1\/z=1)/\(a*x+b*y+c*z)%8=0:=by
 unfold LZ
 constructor
 ·intro h
  obtain⟨x,hx,h⟩:=abv.mp h
  obtain⟨y,hy,h⟩:=abv.mp h
  obtain⟨z,hz,h⟩:=abv.mp h
  rw[aaW,acI,acI] at h
  refine⟨x,y,z,hx,hy,hz,?_,by simpa using h.2⟩
  rcases h.1 with (w|w)|w
  ·exact .inl (by simpa using w)
  ·exact .inr (.inl (by simpa using w))
  ·exact .inr (.inr (by simpa using w))
 ·rintro⟨x,y,z,hx,hy,hz,o,e⟩
  refine abv.mpr ⟨x,hx,abv.mpr ⟨y,hy,abv.mpr ⟨z,hz,?_⟩⟩⟩
  rw[aaW,acI,acI]
  refine⟨?_,by simpa using e⟩
  rcases o with o|o|o
  ·exact .inl (.inl (by simpa using o))
  ·exact .inl (.inr (by simpa using o))
  ·exact .inr (by simpa using o)
theorem DU (x:Int):(x*x%8).toNat∈[0,1,4]:=by
 rcases NX x with ⟨_,h⟩|⟨_,h|h⟩<;>rw[h]<;>decide
theorem NY (a b c x y z:Int):(((a%16).toNat*(x*x%8).toNat+(b%16).toNat*(y*y%8).toNat+(c%16).toNat*(z*z%8).toNat)%8=0)↔(a*x*x+b*y*y+c*z*z)%8=0:=by
 have k:∀ u v:Int,(((u%16).toNat*(v*v%8).toNat:Nat):Int)%8=(u*v*v)%8:=by
  intro u v
  have h1:=Z6 u (show (16:Int)≠0 by decide)
  have h2:=Z6 (v*v) (show (8:Int)≠0 by decide)
  rw[aa7,ady h1,ady h2,Z3 u v v,abx,abx u (v*v),ab3 u (by decide:(8:Int)∣16),ab3 (v*v) (ach 8)]
 have ka:=k a x
 have kb:=k b y
 have kc:=k c z
 generalize (a%16).toNat*(x*x%8).toNat=A at *
 generalize (b%16).toNat*(y*y%8).toNat=B at *
 generalize (c%16).toNat*(z*z%8).toNat=C at *
 generalize a*x*x=A' at *
 generalize b*y*y=B' at *
 generalize c*z*z=C' at *
 omega
theorem GL (a b c:Int):yq a b c↔LZ (a%16).toNat (b%16).toNat (c%16).toNat=true:=by
 rw[GK]
 constructor
 ·rintro⟨x,y,z,o,e⟩
  refine⟨_,_,_,DU x,DU y,DU z,?_,(NY a b c x y z).mpr e⟩
  have kx:=NX x
  have ky:=NX y
  have kz:=NX z
  generalize x*x%8=X at *
  generalize y*y%8=Y at *
  generalize z*z%8=Z at *
  omega
 ·rintro⟨x,y,z,hx,hy,hz,o,e⟩
  have rt:∀ x:Nat,x∈[0,1,4]->∃ r:Int,(r*r%8).toNat=x/\(x=1->r%2=1):=by
   intro x hx
   rcases ZI.mp hx with rfl|hx
   ·exact⟨0,rfl,by decide⟩
   ·rcases ZI.mp hx with rfl|hx
    ·exact⟨1,rfl,by decide⟩
    ·rcases ZI.mp hx with rfl|hx
     ·exact⟨2,rfl,by decide⟩
     ·cases hx
  obtain⟨r,er,or⟩:=rt x hx
  obtain⟨s,es,os⟩:=rt y hy
  obtain⟨t,et,ot⟩:=rt z hz
  refine⟨r,s,t,?_,(NY a b c r s t).mp (by rw[er,es,et];exact e)⟩
  rcases o with o|o|o
  ·exact .inl (or o)
  ·exact .inr (.inl (os o))
  ·exact .inr (.inr (ot o))
theorem GN:bU 2:=⟨by decide,fun k h1 h2=>by have:=aaJ h1 h1 (by decide) (by omega);omega⟩
theorem GO (a c:Int):((-a*c)%(16:Nat)).toNat=(16-(a%16).toNat)*(c%16).toNat%16:=by
 have a0:=Z6 a (show (16:Int)≠0 by decide)
 have a1:=Z9 a (show (0:Int)<16 by decide)
 have c0:=Z6 c (show (16:Int)≠0 by decide)
 have e:(((16-(a%16).toNat)*(c%16).toNat%16:Nat):Int)=(-a*c)%16:=by
  rw[Int.natCast_emod,aa7,ady c0,show ((16-(a%16).toNat:Nat):Int)=16-a%16 by omega]
  show (16-a%16)*(c%16)%16=_
  rw[abx,ab3 c (ach 16),show (16-a%16)%16=(-a)%16 by omega,<- abx]
 show ((-a*c)%16).toNat=_
 omega
theorem GP {x:Int}(h:x%4≠0):(x%16).toNat%4≠0:=by omega
theorem R4 {x y:Int}(h:¬ (x%2=0/\y%2=0)):((x%16).toNat%2==0&&(y%16).toNat%2==0)=false:=by
 rw[Bool.and_eq_false_iff,beq_eq_false_iff_ne,beq_eq_false_iff_ne]
 by_cases k:x%2=0
 ·have:¬ y%2=0:=fun z=>h ⟨k,z⟩
  right
  clear h k
  omega
 ·left
  clear h
  omega
theorem Ks {x y z:Nat}(hx:x%4≠0)(hy:y%4≠0)(hz:z%4≠0)(h1:(x%2==0&&y%2==0)=false)(h2:(y%2==0&&z%2==0)=false)(h3:(z%2==0&&x%2==0)=false):PR x y z=true:=by
 unfold PR
 rw[h1,h2,h3,(bne_iff_ne (a:=x%4) (b:=0)).mpr hx,(bne_iff_ne (a:=y%4) (b:=0)).mpr hy,(bne_iff_ne (a:=z%4) (b:=0)).mpr hz]
 rfl
theorem GQ {a b c:Int}(P:kC a b c){o1 l1 o2 l2:Int}(d1:Dec (-a*c) 2 l1 o1)(d2:Dec (-b*c) 2 l2 o2):hs 2 o1 l1 o2 l2=-1↔PU a b c 2:=by
 have eb:PU a b c 2↔¬ yq a b c:=by
  constructor
  ·rintro (⟨z,_⟩|⟨_,z⟩|⟨_,z,_⟩)
   ·cases z
   ·exact z
   ·exact absurd rfl z
  ·exact fun z=>.inr (.inl ⟨rfl,z⟩)
 rw[eb,GL]
 have s4:∀ {x:Int},(∀ p,bU p->¬ p*p∣x)->x%4≠0:=fun h z=>h 2 GN (aaa z)
 have a4:=s4 P.sa
 have b4:=s4 P.sb
 have c4:=s4 P.sc
 have Ic:∀ {x y:Int},(∀ p,bU p->p∣x->¬ p∣y)->¬ (x%2=0/\y%2=0):=fun h z=>h 2 GN (aaa z.1) (aaa z.2)
 have ab:=Ic P.ab
 have bc:=Ic P.bc
 have ca:=Ic P.ca
 have n4:∀ {x:Int},x%4≠0->¬ (x%2=0/\c%2=0)->¬ (2:Int)*2∣-x*c:=by
  intro x hx hn z
  have z':=aax z
  have e:(-x*c)%4=((-x)%4)*(c%4)%4:=abx _ _ _
  have z2:(-x)%4*(c%4)%4=0:=by rw[<- e];exact z'
  have vw:(-x)%4=1\/(-x)%4=2\/(-x)%4=3:=by omega
  have xD:c%4=1\/c%4=2\/c%4=3:=by omega
  rcases vw with h1|h1|h1<;>rcases xD with h2|h2|h2<;>rw[h1,h2] at z2<;>first|omega|cases z2
 obtain⟨e1,f1,_⟩:=Ii d1 (n4 a4 (fun z=>ca ⟨z.2,z.1⟩))
 obtain⟨e2,f2,_⟩:=Ii d2 (n4 b4 bc)
 rw[GO] at e1 f1 e2 f2
 have ra:(a%16).toNat<16:=by omega
 have rb:(b%16).toNat<16:=by omega
 have rc:(c%16).toNat<16:=by omega
 have ch:=ab9.mp (ab9.mp (ab9.mp DQ _ (abN.mpr ra)) _ (abN.mpr rb)) _ (abN.mpr rc)
 have ad:PR (a%16).toNat (b%16).toNat (c%16).toNat=true:=by
  have k4:∀ {x:Int},x%4≠0->(x%16).toNat%4≠0:=GP
  exact Ks (k4 a4) (k4 b4) (k4 c4) (R4 ab) (R4 bc) (R4 ca)
 unfold NW at ch
 rw[ad] at ch
 have WD:(decide (PQ 2 ((16-(a%16).toNat)*(c%16).toNat%16) ((16-(b%16).toNat)*(c%16).toNat%16)=-1)==!(LZ (a%16).toNat (b%16).toNat (c%16).toNat))=true:=by simpa using ch
 have hv:hs 2 o1 l1 o2 l2=PQ 2 ((16-(a%16).toNat)*(c%16).toNat%16) ((16-(b%16).toNat)*(c%16).toNat%16):=by
  unfold PQ hs
  rw[aag rfl,aag (show ((2:Nat):Int)=2 from rfl),e1,e2]
  exact BA f1 f2
 rw[hv]
 have N2:=eq_of_beq WD
 cases hF:LZ (a%16).toNat (b%16).toNat (c%16).toNat with
 | true=>
  rw[hF] at N2
  constructor
  ·intro z
   rw[aay z] at N2
   cases N2
  ·intro z
   exact absurd rfl z
 | false=>
  rw[hF] at N2
  constructor
  ·intro _ z
   cases z
  ·intro _
   exact acq N2
end Pl
namespace Jc
open Pr (bU)
def Df (f:Int->Int):Int->Int:=fun x=>f (x+1)-f x
def Dg:Nat->Int->(Int->Int)->Prop
 | 0,c,f=>∀ x,f x=c
 | k+1,c,f=>Dg k (((k:Int)+1)*c) (Df f)
theorem Dg.congr:∀ {k:Nat}{c:Int}{f g:Int->Int},Dg k c f->(∀ x,f x=g x)->Dg k c g
 | 0,c,f,g,h,e=>fun x=>by rw[<- e];exact h x
 | k+1,c,f,g,h,e=>Dg.congr (k:=k) h fun x=>by unfold Df;rw[e,e]
theorem Dg.add:∀ {k:Nat}{c d:Int}{f g:Int->Int},Dg k c f->Dg k d g->Dg k (c+d) (fun x=>f x+g x)
 | 0,c,d,f,g,h,h'=>fun x=>by show f x+g x=c+d;rw[h x,h' x]
 | k+1,c,d,f,g,h,h'=>by
  show Dg k (((k:Int)+1)*(c+d)) _
  rw[Int.mul_add]
  exact (Dg.add (k:=k) h h').congr fun x=>by show (f (x+1)-f x)+(g (x+1)-g x)=(f (x+1)+g (x+1))-(f x+g x);omega
theorem Dg.up:∀ {k:Nat}{c:Int}{f:Int->Int},Dg k c f->Dg (k+1) 0 f
 | 0,c,f,h=>fun x=>by
  show f (x+1)-f x=((0:Nat)+1:Int)*0
  rw[h,h]
  omega
 | k+1,c,f,h=>by
  show Dg (k+1) (((k+1:Nat)+1:Int)*0) (Df f)
  rw[aaF]
  exact Dg.up (k:=k) h
theorem Dg.N3:∀ {k:Nat}{c:Int}{f:Int->Int},Dg k c f->Dg (k+1) c (fun x=>x*f x)
 | 0,c,f,h=>fun x=>by
  show (x+1)*f (x+1)-x*f x=((0:Nat)+1:Int)*c
  rw[h,h]
  grind
 | k+1,c,f,h=>by
  have h1:Dg k (((k:Int)+1)*c) (Df f):=h
  have a:=Dg.N3 (k:=k) h1
  have b:Dg (k+1) c f:=h
  have d:=h1.up
  have s:=(a.add b).add d
  show Dg (k+1) (((k+1:Nat)+1:Int)*c) _
  have e:((k:Int)+1)*c+c+0=((k+1:Nat)+1:Int)*c:=by
   rw[Int.add_zero,Int.add_mul (((k+1:Nat):Int)),aaI]
   rfl
  rw[<- e]
  refine s.congr fun x=>?_
  show x*(f (x+1)-f x)+f x+(f (x+1)-f x)=(x+1)*f (x+1)-x*f x
  grind
theorem DV:∀ k:Nat,Dg k 1 (fun x=>x^k)
 | 0=>fun x=>by simp
 | k+1=>(DV k).N3.congr fun x=>by rw[ZZ,ZX]
theorem Dg.zero {p:Int}:∀ {k:Nat}{c:Int}{f:Int->Int},Dg k c f->∀ x0:Int,(∀ j:Nat,j<=k->p∣f (x0+j))->p∣c*((PN (fun k=>k) k:Nat):Int)
 | 0,c,f,h,x0,z=>by
  have:=z 0 (ZL 0)
  rw[h] at this
  show p∣c*(1:Nat)
  simpa using this
 | k+1,c,f,h,x0,z=>by
  have:=Dg.zero (k:=k) h x0 fun j hj=>by
   have h1:=z (j+1) (by omega)
   have h2:=z j (by omega)
   unfold Df
   refine Int.dvd_sub ?_ h2
   rw[show x0+(j:Int)+1=x0+((j+1:Nat):Int) by omega]
   exact h1
  show p∣c*((PN (fun k=>k) k*(k+1):Nat):Int)
  rw[aa7]
  have e:((k:Int)+1)*c*((PN (fun k=>k) k:Nat):Int)=c*(((PN (fun k=>k) k:Nat):Int)*((k+1:Nat):Int)):=by
   rw[show ((k+1:Nat):Int)=(k:Int)+1 by omega]
   grind
  rw[e] at this
  exact this
theorem Kt {p:Int}(hp:bU p)(n2:p≠2):∃ z:Int,2<=z/\z<p/\J z p=-1:=by
 have po:=jq hp n2
 have p3:3<=p:=by have:=hp.two;omega
 have key:∃ z:Int,1<=z/\z<p/\J z p≠1:=aaK fun no=>by
  have all:∀ z:Int,1<=z->z<p->J z p=1:=fun z h1 h2=>aaK fun h=>no ⟨z,h1,h2,h⟩
  obtain⟨k,hk⟩:∃ k:Nat,(p / 2).toNat=k+1:=⟨(p / 2).toNat-1,by omega⟩
  have f0:Dg (k+1) 1 (fun x=>x^(k+1)+(-1)):=by
   have c0:Dg (k+1) 0 (fun _=>(-1:Int)):=by
    have:∀ m:Nat,Dg (m+1) 0 (fun _=>(-1:Int)):=fun m=>by
     induction m with
     | zero=>exact Dg.up (k:=0) (c:=-1) fun _=>rfl
     | succ m ih=>exact ih.up
    exact this k
   have:=(DV (k+1)).add c0
   rwa[Int.add_zero] at this
  have:=Dg.zero (p:=p) f0 1 fun j hj=>by
   have e:=Ag hp po (1+(j:Int))
   rw[all (1+(j:Int)) (by omega) (by omega),hk,Pw.fv,abc (show (0:Int)<=1 by decide) (by omega)] at e
   show p∣(1+(j:Int))^(k+1)+(-1)
   refine aaa ?_
   have:=ZY.mp (e.trans (abc (show (0:Int)<=1 by decide) (by omega:(1:Int)<p)).symm)
   rw[<- Int.sub_eq_add_neg]
   exact this
  rw[aaI] at this
  exact ug hp (k+1) (by omega) this
 obtain⟨z,z1,z2,hz⟩:=key
 have nd:¬ p∣z:=fun h=>by have:=adD (by omega) h;omega
 have u:=ue hp nd
 have jm:J z p=-1:=by
  rcases Ko z p with e|e|e
  ·exact absurd e hz
  ·rw[e] at u;cases u
  ·exact e
 refine⟨z,?_,z2,jm⟩
 by_cases c:2<=z
 ·exact c
 ·have e1:z=1:=by omega
  rw[e1,NP (by omega) po] at jm
  cases jm
structure Cd (p n root over turner:Int)(h:Nat):Prop where
 ro:root*root%p=n*over%p
 ov:over^(if h=0 then 1 else 2*h)%p=1%p
 tu:h≠0->turner^(2*h)%p=(-1)%p
 two:h=0\/∃ j,h=2^j
theorem qw {h:Nat}(h0:h≠0)(t:h=0\/∃ j,h=2^j):(h / 2=0\/∃ j,h / 2=2^j)/\(if h / 2=0 then 1 else 2*(h / 2))=h:=by
 rcases t with z|⟨j,rfl⟩
 ·exact absurd z h0
 ·cases j with
  | zero=>exact⟨.inl rfl,rfl⟩
  | succ j=>
   have e:2^(j+1) / 2=2^j:=by rw[abf];omega
   have p:0<2^j:=adP (by decide)
   rw[e]
   exact⟨.inr ⟨j,rfl⟩,by rw[Z4 (by omega),abf];omega⟩
theorem DW (t:Int)(h:Nat):(t*t)^h=t^(2*h):=by
 rw[adS]
 congr 1
 rw[ZZ,ZZ,aaB,aaI]
theorem Aj {p turner:Int}{h:Nat}(h0:h≠0)(t:h=0\/∃ j,h=2^j)(tu:turner^(2*h)%p=(-1)%p):h / 2≠0->(turner*turner%p)^(2*(h / 2))%p=(-1)%p:=fun z=>by
 have e:=(qw h0 t).2
 rw[Z4 z] at e
 rw[e,Pw.powC (Pw.gK _ _),DW]
 exact tu
theorem Cd.keep {p n root over turner:Int}{h:Nat}(T:Cd p n root over turner h)(h0:h≠0)(c:over^h%p=1%p):Cd p n root over (turner*turner%p) (h / 2):=by
 obtain⟨a,b⟩:=qw h0 T.two
 exact⟨T.ro,by rw[b];exact c,Aj h0 T.two (T.tu h0),a⟩
theorem Cd.turn {p n root over turner:Int}{h:Nat}(hp:bU p)(T:Cd p n root over turner h)(h0:h≠0)(c:¬ over^h%p=1%p):Cd p n (root*turner%p) (over*turner*turner%p) (turner*turner%p) (h / 2):=by
 obtain⟨a,b⟩:=qw h0 T.two
 have ov:=T.ov
 rw[Z4 h0] at ov
 have m1:over^h%p=(-1)%p:=by
  have d:p∣(over^h-1)*(over^h+1):=by
   refine aaa ?_
   have z:=ZY.mp ov
   rw[show over^(2*h)=over^h*over^h by rw[show 2*h=h+h by omega,ac9]] at z
   rw[show (over^h-1)*(over^h+1)=over^h*over^h-1 by grind]
   exact z
  rcases Pr.euclid hp d with z|z
  ·exact absurd (ZY.mpr (aax z)) c
  ·exact ZY.mpr (aax (by rw[Int.sub_neg];exact z))
 refine⟨?_,?_,Aj h0 T.two (T.tu h0),a⟩
 ·have e1:(root*turner%p)*(root*turner%p)%p=(root*root)*(turner*turner)%p:=by
   rw[Pw.mulC (Pw.gK _ _) (Pw.gK _ _)]
   congr 1
   grind
  have e2:n*(over*turner*turner%p)%p=(n*over)*(turner*turner)%p:=by
   rw[Pw.mulC rfl (Pw.gK _ _)]
   congr 1
   grind
  rw[e1,e2]
  exact Pw.mulC T.ro rfl
 ·rw[b,Pw.powC (Pw.gK _ _),Z3,Int.mul_pow,DW,Pw.mulC m1 (T.tu h0)]
  rfl
theorem Cd.done {p n root over turner:Int}(T:Cd p n root over turner 0):root*root%p=n%p:=by
 have ov:=T.ov
 rw[aag rfl,ZZ,aaB,aaI] at ov
 rw[T.ro,Pw.mulC rfl ov,aaM]
theorem BD {p n z:Int}{o:Nat}{e:Nat}(hp:bU p)(po:p%2=1)(hn:J n p=1)(hz:J z p=-1)(oo:o%2=1)(pe:p-1=2^e*(o:Int))(e1:1<=e) :
  Cd p n (Pw.PM n ((o+1) / 2) p) (Pw.PM n o p) (Pw.PM z o p) (2^e / 4):=by
 have p2:=hp.two
 have hf:(p / 2).toNat=o*2^(e-1):=by
  obtain⟨k,rfl⟩:∃ k,e=k+1:=⟨e-1,by omega⟩
  have q:p-1=2*((o*2^k:Nat):Int):=by
   rw[pe,ZZ,aa7,adT]
   show (2:Int)^k*2*(o:Int)=2*((o:Int)*2^k)
   grind
  rw[show k+1-1=k by omega]
  omega
 have en:n^(o*2^(e-1))%p=1%p:=by
  have h:=Ag hp po n
  rw[hf,hn,Pw.fv] at h
  exact h
 have ez:z^(o*2^(e-1))%p=(-1)%p:=by
  have h:=Ag hp po z
  rw[hf,hz,Pw.fv] at h
  exact h
 refine⟨?_,?_,fun h0=>?_,?_⟩
 ·have h:=(Pw.Kr n p ((o+1) / 2) ((o+1) / 2)).symm
  rw[h,show (o+1) / 2+(o+1) / 2=o+1 by omega,Pw.GH,ZX]
 ·rw[Pw.fv,Pw.powC (Pw.gK _ _),<- adS]
  have k:(if 2^e / 4=0 then 1 else 2*(2^e / 4))=2^(e-1):=by
   rcases (show e=1\/2<=e by omega) with z|z
   ·subst z;rfl
   ·obtain⟨j,rfl⟩:∃ j,e=j+2:=⟨e-2,by omega⟩
    have p:0<2^j:=adP (by decide)
    rw[show j+2-1=j+1 by omega,abf,abf,Z4 (by omega)]
    omega
  rw[k]
  exact en
 ·rw[Pw.fv,Pw.powC (Pw.gK _ _),<- adS]
  have k:2*(2^e / 4)=2^(e-1):=by
   rcases (show e=1\/2<=e by omega) with z|z
   ·subst z;exact absurd rfl h0
   ·obtain⟨j,rfl⟩:∃ j,e=j+2:=⟨e-2,by omega⟩
    rw[show j+2-1=j+1 by omega,abf,abf]
    omega
  rw[k]
  exact ez
 ·rcases (show e=1\/2<=e by omega) with z|z
  ·subst z;exact .inl rfl
  ·obtain⟨j,rfl⟩:∃ j,e=j+2:=⟨e-2,by omega⟩
   refine .inr ⟨j,?_⟩
   rw[abf,abf]
   omega
end Jc
namespace Sm
structure P3 where
 (x y z:Int)
structure F6 where
 (a b c d e f:Int)
structure T3 where
 (r0 r1 r2:P3)
def rp (r s:P3):Int:=r.x*s.x+r.y*s.y+r.z*s.z
def wo (Q:F6)(P:P3):Int:=Q.a*(P.x*P.x)+Q.b*(P.y*P.y)+Q.c*(P.z*P.z)+Q.d*(P.y*P.z)+Q.e*(P.x*P.z)+Q.f*(P.x*P.y)
def sl (Q:F6):T3:=⟨⟨2*Q.a,Q.f,Q.e⟩,⟨Q.f,2*Q.b,Q.d⟩,⟨Q.e,Q.d,2*Q.c⟩⟩
def tb (t:T3)(P:P3):P3:=⟨rp t.r0 P,rp t.r1 P,rp t.r2 P⟩
def tr (t:T3):T3:=⟨⟨t.r0.x,t.r1.x,t.r2.x⟩,⟨t.r0.y,t.r1.y,t.r2.y⟩,⟨t.r0.z,t.r1.z,t.r2.z⟩⟩
def bl (Q:F6)(x y:P3):Int:=rp (tb (sl Q) x) y
def ch (Q:F6)(t:T3):F6:=⟨wo Q (tr t).r0,wo Q (tr t).r1,wo Q (tr t).r2,bl Q (tr t).r1 (tr t).r2,bl Q (tr t).r0 (tr t).r2,bl Q (tr t).r0 (tr t).r1⟩
def pt (t u:T3):T3:=⟨tb (tr u) t.r0,tb (tr u) t.r1,tb (tr u) t.r2⟩
def cr (r s:P3):P3:=⟨r.y*s.z-r.z*s.y,r.z*s.x-r.x*s.z,r.x*s.y-r.y*s.x⟩
def me (t:T3):Int:=rp t.r0 (cr t.r1 t.r2)
theorem Ij (t u:T3):me (pt t u)=me t*me u:=by
 simp only[me,pt,tb,tr,cr,rp]
 grind
def Bd (k:Nat)(x:Int):Prop:=x.natAbs<=2^k
theorem Bd.mul {j k:Nat}{x y:Int}(h:Bd j x)(h2:Bd k y):Bd (j+k) (x*y):=by
 unfold Bd at *
 rw[Z7,Nat.pow_add]
 exact abd h h2
theorem Bd.add {j:Nat}{x y:Int}(h:Bd j x)(h2:Bd j y):Bd (j+1) (x+y):=by
 unfold Bd at *
 rw[abf]
 omega
theorem Bd.mono {j k:Nat}{x:Int}(h:Bd j x)(hk:j<=k):Bd k x:=ZV h (Nat.pow_le_pow_right (by decide) hk)
structure BP (k:Nat)(P:P3):Prop where
 (x:Bd k P.x) (y:Bd k P.y) (z:Bd k P.z)
structure BF (k:Nat)(Q:F6):Prop where
 (a:Bd k Q.a) (b:Bd k Q.b) (c:Bd k Q.c) (d:Bd k Q.d) (e:Bd k Q.e) (f:Bd k Q.f)
structure BT (k:Nat)(t:T3):Prop where
 (r0:BP k t.r0) (r1:BP k t.r1) (r2:BP k t.r2)
theorem BP.mono {j k:Nat}{P:P3}(h:BP j P)(hk:j<=k):BP k P:=⟨h.x.mono hk,h.y.mono hk,h.z.mono hk⟩
theorem Ak {j k:Nat}{r s:P3}(h:BP j r)(h2:BP k s):Bd (j+k+2) (rp r s):=((h.x.mul h2.x).add (h.y.mul h2.y)).add ((h.z.mul h2.z).mono (aa3 _))
theorem N4 {j k:Nat}{Q:F6}{P:P3}(h:BF j Q)(p:BP k P):Bd (j+(k+k)+5) (wo Q P):=
 (((((h.a.mul (p.x.mul p.x)).add (h.b.mul (p.y.mul p.y))).add ((h.c.mul (p.z.mul p.z)).mono (by omega))).add ((h.d.mul (p.y.mul p.z)).mono (by omega))).add ((h.e.mul (p.x.mul p.z)).mono (by omega))).add ((h.f.mul (p.x.mul p.y)).mono (by omega))
theorem Ik {j k:Nat}{t:T3}{P:P3}(h:BT j t)(p:BP k P):BP (j+k+2) (tb t P):=⟨Ak h.r0 p,Ak h.r1 p,Ak h.r2 p⟩
theorem yr {k:Nat}{x:Int}(h:Bd k x):Bd (k+1) (2*x):=by
 unfold Bd at *
 rw[abf]
 omega
theorem DX {k:Nat}{Q:F6}(h:BF k Q):BT (k+1) (sl Q):=⟨⟨yr h.a,h.f.mono (aa3 _),h.e.mono (aa3 _)⟩,⟨h.f.mono (aa3 _),yr h.b,h.d.mono (aa3 _)⟩,⟨h.e.mono (aa3 _),h.d.mono (aa3 _),yr h.c⟩⟩
theorem R5 (a b c:Int):[a,b,c].sum=a+b+c:=by
 simp[List.sum_cons]
 omega
theorem R6 (a b c d e f:Int):[a,b,c,d,e,f].sum=a+b+c+d+e+f:=by
 simp[List.sum_cons]
 omega
end Sm
namespace Lw
def BE (a b c:Int):Prop:=∃ u v w:Int,u*a+v*b+w*c=1
def rY (a b c:Int):Prop:=0<a\/(a=0/\0<b)\/(a=0/\b=0/\0<c)
theorem Ku {x y z d:Int}(hd:d≠0)(hx:d∣x)(hy:d∣y)(hz:d∣z)(hb:∃ u v w:Int,u*x+v*y+w*z=d):BE (x.fdiv d) (y.fdiv d) (z.fdiv d)/\x=d*x.fdiv d/\y=d*y.fdiv d/\z=d*z.fdiv d:=by
 obtain⟨x',rfl⟩:=hx
 obtain⟨y',rfl⟩:=hy
 obtain⟨z',rfl⟩:=hz
 obtain⟨u,v,w,e⟩:=hb
 rw[abB _ hd,abB _ hd,abB _ hd]
 refine⟨⟨u,v,w,?_⟩,rfl,rfl,rfl⟩
 have:d*(u*x'+v*y'+w*z')=d*1:=by grind
 exact aaR hd this
end Lw
namespace Sm
theorem BP.eJ {j k:Nat}{P:P3}(h:BP j P)(hk:j<=k:=by omega):BP k P:=h.mono hk
theorem BF.mono {j k:Nat}{F:F6}(h:BF j F)(hk:j<=k:=by omega):BF k F:=⟨h.a.mono hk,h.b.mono hk,h.c.mono hk,h.d.mono hk,h.e.mono hk,h.f.mono hk⟩
theorem BT.mono {j k:Nat}{t:T3}(h:BT j t)(hk:j<=k:=by omega):BT k t:=⟨h.r0.mono hk,h.r1.mono hk,h.r2.mono hk⟩
end Sm
namespace Pn
open Sm Lw
def sz (Q:F6):Int:=4*Q.a*Q.b*Q.c+Q.d*Q.e*Q.f-Q.a*Q.d*Q.d-Q.b*Q.e*Q.e-Q.c*Q.f*Q.f
def ad (P R:P3):P3:=⟨P.x+R.x,P.y+R.y,P.z+R.z⟩
theorem N5 (Q:F6)(P R:P3):wo Q (ad P R)-wo Q P-wo Q R=bl Q P R:=by
 simp only[wo,ad,bl,tb,sl,rp]
 grind
theorem P3.ext' {P R:P3}(h:P.x=R.x/\P.y=R.y/\P.z=R.z):P=R:=by
 cases P;cases R
 simp only at h
 obtain⟨rfl,rfl,rfl⟩:=h
 rfl
instance:DecidableEq P3:=fun P R=>decidable_of_iff (P.x=R.x/\P.y=R.y/\P.z=R.z) ⟨P3.ext',fun h=>by subst h;exact⟨rfl,rfl,rfl⟩⟩
end Pn
namespace Jc
open Pr (bU)
end Jc
namespace Pn
open Sm Lw
open Pr (bU)
open Jc (J)
end Pn
namespace Jc
open Pr (bU)
def Kv (p:Nat)(m:Nat):Bool:=(List.range m).all fun k=>Nat.ble k 1 || !(p%k==0)
theorem cH {p m:Nat}(p2:2<=p)(hm:p<m*m)(h:Kv p m=true):bU (p:Int):=by
 refine⟨by omega,fun k k2 kk hd=>?_⟩
 obtain⟨j,rfl⟩:∃ j:Nat,k=(j:Int):=⟨k.toNat,by omega⟩
 have jj:j*j<=p:=by
  have:((j*j:Nat):Int)<=(p:Int):=by rw[aa7];exact kk
  omega
 have jm:j<m:=by
  rcases adK j m with z|z
  ·exact z
  ·have:=abd z z
   omega
 have c:=ab9.mp h j (abN.mpr jm)
 have d:p%j=0:=Nat.mod_eq_zero_of_dvd (Int.natCast_dvd_natCast.mp hd)
 rw[d] at c
 have c':Nat.ble j 1=true:=by simpa using c
 have:=Nat.le_of_ble_eq_true c'
 omega
def HS (p a b v:Int):Prop:=∃ l1 o1 l2 o2,Dec a p l1 o1/\Dec b p l2 o2/\v=hs p o1 l1 o2 l2
open Classical in
noncomputable def H (p a b:Int):Int:=if h:∃ v,HS p a b v then choose h else 1
theorem DY {p a b l1 o1 l2 o2:Int}(hp:bU p)(d1:Dec a p l1 o1)(d2:Dec b p l2 o2):H p a b=hs p o1 l1 o2 l2:=by
 have h:∃ v,HS p a b v:=⟨_,l1,o1,l2,o2,d1,d2,rfl⟩
 unfold H
 rw[dif_pos h]
 obtain⟨m1,q1,m2,q2,e1,e2,e3⟩:=Classical.choose_spec h
 have p0:p≠0:=by have:=hp.two;omega
 obtain⟨rfl,rfl⟩:=e1.unique p0 d1
 obtain⟨rfl,rfl⟩:=e2.unique p0 d2
 exact e3
theorem GR {p x:Int}(hp:bU p)(h:x≠0):∃ l o,Dec x p l o:=DP hp.two _ x h (ZL _)
theorem Al {p x:Int}(h:¬ p∣x):Dec x p x 0:=⟨by simp,by decide,h⟩
def inf (a b:Int):Int:=if a<0/\b<0 then -1 else 1
section
variable {L:List Int}
theorem An:bU 2:=cH (p:=2) (m:=2) (by decide) (by decide) (by decide)
end
noncomputable def Ao (a b x:Int):Int:=if x=0 then inf a b else H x a b
theorem R7 {a b c p l:Int}(hp:bU p)(n2:p≠2)(ea:a=p*l)(nl:¬ p∣l)(nb:¬ p∣b)(nc:¬ p∣c):H p (-a*c) (-b*c)=J (-(b*c)) p:=by
 have d1:Dec (-a*c) p (-l*c) 1:=⟨by rw[ea];show _=p^(1:Nat)*_;rw[ZZ,aaB];grind,by decide,fun d=>(Pr.euclid hp d).elim (fun h=>nl (aa8.mp h)) nc⟩
 have d2:Dec (-b*c) p (-b*c) 0:=Al fun d=>(Pr.euclid hp d).elim (fun h=>nb (aa8.mp h)) nc
 rw[DY hp d1 d2]
 unfold hs By
 rw[Z4 n2,aag (by decide),Z4 (by decide),aaS]
theorem R8 {a b c p l:Int}(hp:bU p)(n2:p≠2)(eb:b=p*l)(nl:¬ p∣l)(na:¬ p∣a)(nc:¬ p∣c):H p (-a*c) (-b*c)=J (-(c*a)) p:=by
 have d1:Dec (-a*c) p (-a*c) 0:=Al fun d=>(Pr.euclid hp d).elim (fun h=>na (aa8.mp h)) nc
 have d2:Dec (-b*c) p (-l*c) 1:=⟨by rw[eb];show _=p^(1:Nat)*_;rw[ZZ,aaB];grind,by decide,fun d=>(Pr.euclid hp d).elim (fun h=>nl (aa8.mp h)) nc⟩
 rw[DY hp d1 d2]
 unfold hs By
 rw[Z4 n2,Z4 (by decide),aag (by decide),aaS,ZX a c]
theorem R9 {a b c p l:Int}(hp:bU p)(n2:p≠2)(ec:c=p*l)(nl:¬ p∣l)(na:¬ p∣a)(nb:¬ p∣b):H p (-a*c) (-b*c)=J (-(a*b)) p:=by
 have d1:Dec (-a*c) p (-a*l) 1:=⟨by rw[ec];show _=p^(1:Nat)*_;rw[ZZ,aaB];grind,by decide,fun d=>(Pr.euclid hp d).elim (fun h=>na (aa8.mp h)) nl⟩
 have d2:Dec (-b*c) p (-b*l) 1:=⟨by rw[ec];show _=p^(1:Nat)*_;rw[ZZ,aaB];grind,by decide,fun d=>(Pr.euclid hp d).elim (fun h=>nb (aa8.mp h)) nl⟩
 rw[DY hp d1 d2]
 unfold hs By
 rw[Z4 n2,aag (by decide),aag (by decide)]
 have e:-(-a*l)*(-b*l)=-(a*b)*(l*l):=by grind
 have po:=jq hp n2
 have p0:0<p:=by have:=hp.two;omega
 rw[e,Ih p0 po,Ih p0 po l l,ue hp nl,aaM]
def fV (a b c x:Int):Prop:=(x=0/\((a<0/\b<0/\c<0)\/(0<a/\0<b/\0<c)))\/(x=2/\¬ Pl.yq a b c) \/
 (bU x/\x≠2/\((x∣a/\J (-(b*c)) x=-1)\/(x∣b/\J (-(c*a)) x=-1)\/(x∣c/\J (-(a*b)) x=-1)))
theorem DZ {n p:Int}(sq:¬ p*p∣n)(h:p∣n):∃ l,n=p*l/\¬ p∣l:=by
 obtain⟨l,e⟩:=h
 exact⟨l,e,fun ⟨m,em⟩=>sq ⟨m,by rw[e,em,Z3]⟩⟩
theorem Ap {a b c x:Int}(P:Pl.kC a b c)(h:x=0\/x=2\/(bU x/\x≠2/\(x∣a\/x∣b\/x∣c))):Ao (-a*c) (-b*c) x=-1↔fV a b c x:=by
 have nz:∀ {x:Int},x≠0->-x*c≠0:=fun h z=>by
  rcases abg.mp z with w|w
  ·omega
  ·exact P.c0 w
 rcases h with rfl|rfl|⟨hp,n2,hd⟩
 ·have e:Ao (-a*c) (-b*c) 0=inf (-a*c) (-b*c):=aag rfl
  rw[e]
  refine (Pl.DT P).trans ⟨fun h=>?_,fun h=>?_⟩
  ·rcases h with h|⟨e,_⟩|⟨hp,_⟩
   ·exact .inl h
   ·cases e
   ·exact absurd hp.two (by decide)
  ·rcases h with h|⟨e,_⟩|⟨hp,_⟩
   ·exact .inl h
   ·cases e
   ·exact absurd hp.two (by decide)
 ·have e:Ao (-a*c) (-b*c) 2=H 2 (-a*c) (-b*c):=Z4 (by decide)
  obtain⟨l1,o1,d1⟩:=GR An (nz P.a0)
  obtain⟨l2,o2,d2⟩:=GR An (nz P.b0)
  rw[e,DY An d1 d2]
  refine (Pl.GQ P d1 d2).trans ⟨fun h=>?_,fun h=>?_⟩
  ·rcases h with ⟨e,_⟩|h|⟨_,n,_⟩
   ·cases e
   ·exact .inr (.inl h)
   ·exact absurd rfl n
  ·rcases h with ⟨e,_⟩|h|⟨_,n,_⟩
   ·cases e
   ·exact .inr (.inl h)
   ·exact absurd rfl n
 ·have x2:=hp.two
  have e:Ao (-a*c) (-b*c) x=H x (-a*c) (-b*c):=Z4 (by omega)
  rw[e]
  have out:∀ {A:Prop},A->((fV a b c x)↔((x∣a/\J (-(b*c)) x=-1)\/(x∣b/\J (-(c*a)) x=-1)\/(x∣c/\J (-(a*b)) x=-1))):=fun _=>⟨fun h=>by
   rcases h with ⟨e,_⟩|⟨e,_⟩|⟨_,_,h⟩
   ·omega
   ·omega
   ·exact h,fun h=>.inr (.inr ⟨hp,n2,h⟩)⟩
  rw[out trivial]
  rcases hd with hd|hd|hd
  ·obtain⟨l,el,nl⟩:=DZ (P.sa x hp) hd
   have nb:=P.ab x hp hd
   have nc:¬ x∣c:=fun z=>P.ca x hp z hd
   rw[R7 hp n2 el nl nb nc]
   simp[hd,nb,nc]
  ·obtain⟨l,el,nl⟩:=DZ (P.sb x hp) hd
   have nc:=P.bc x hp hd
   have na:¬ x∣a:=fun z=>P.ab x hp z hd
   rw[R8 hp n2 el nl na nc]
   simp[hd,na,nc]
  ·obtain⟨l,el,nl⟩:=DZ (P.sc x hp) hd
   have na:=P.ca x hp hd
   have nb:¬ x∣b:=fun z=>P.bc x hp z hd
   rw[R9 hp n2 el nl na nb]
   simp[hd,na,nb]
end Jc
namespace Pn
open Sm Lw
open Pr (bU)
open Jc (J fV)
def dg (a b c:Int):F6:=⟨a,b,c,0,0,0⟩
section
variable {p:Int}{F G:F6}{t:T3}{k:Int}
end
section
variable {p a b c:Int}
theorem iC (a b c:Int)(u:P3):wo (dg a b c) u=a*(u.x*u.x)+b*(u.y*u.y)+c*(u.z*u.z):=by
 simp only[wo,dg]
 grind
end
def Nz (u:P3):Prop:=u.x≠0\/u.y≠0\/u.z≠0
section
variable {F:F6}{t:T3}{k a b c:Int}
theorem sq_pos {x:Int}(h:x≠0):0<x*x:=by
 rcases ack h with z|z
 ·exact Int.mul_pos_of_neg_of_neg z z
 ·exact aat z z
theorem eT (x:Int):0<=x*x:=by
 by_cases h:x=0
 ·rw[h];decide
 ·exact Z1 (sq_pos h)
theorem yt (ha:0<a)(hb:0<b)(hc:0<c){u:P3}(h:Nz u):0<wo (dg a b c) u:=by
 rw[iC]
 have x1:=ZO (Z1 ha) (eT u.x)
 have y1:=ZO (Z1 hb) (eT u.y)
 have z1:=ZO (Z1 hc) (eT u.z)
 rcases h with h|h|h
 ·have:=aat ha (sq_pos h);omega
 ·have:=aat hb (sq_pos h);omega
 ·have:=aat hc (sq_pos h);omega
end
end Pn
namespace Jc
open Pr (bU)
structure Sf (n:Int):Prop where
 n0:n≠0
 sq:∀ p,bU p->¬ p*p∣n
section
variable {a b p x y z:Int}
end
theorem D2 {r n s m sh th:Int}(e:1=sh*n+th*m):(r+sh*n*(s-r))%n=r%n/\(r+sh*n*(s-r))%m=s%m:=by
 constructor
 ·rw[show r+sh*n*(s-r)=r+n*(sh*(s-r)) by grind,abt]
 ·have h:r+sh*n*(s-r)=s+m*(-(th*(s-r))):=by grind
  rw[h,abt]
theorem BG {X n m r s:Int}(h:X%n=r%n/\X%m=s%m):(X%(n*m))%n=r%n/\(X%(n*m))%m=s%m:=
 ⟨by rw[ab3 X (aaX n m)];exact h.1,by rw[ab3 X (aab n m)];exact h.2⟩
theorem D3 {x r n a:Int}(h:x%n=r%n)(k:(r*r-a)%n=0):(x*x-a)%n=0:=
 ZY.mp ((Pw.mulC h h).trans (ZY.mpr k))
theorem GS {y n p:Int}(hp:bU p)(nd:¬ p∣n)(h1:y%n=0)(h2:y%p=0):y%(n*p)=0:=by
 obtain⟨k,rfl⟩:=aaa h1
 rcases Pr.euclid hp (aaa h2) with z|⟨j,rfl⟩
 ·exact absurd z nd
 ·exact aax ⟨j,by grind⟩
theorem yu {x n a:Int}(n0:0<n)(x0:0<=x)(x1:x<n)(h:(x*x-a)%n=0):∀ w,w=(if x<=n-x then x else n-x)->0<=w/\2*w<=n/\(w*w-a)%n=0:=by
 intro w hw
 split at hw
 ·subst hw;exact⟨x0,by omega,h⟩
 ·subst hw
  refine⟨by omega,by omega,?_⟩
  rw[show (n-x)*(n-x)-a=(x*x-a)+n*(n-2*x) by grind,abt]
  exact h
theorem ahead {n:Int}{xs:List (Int × Int)}(t:Pr.Told n xs){i:Nat}{x:Int × Int}(hx:xs[i]?=some x):¬ x.1∣Pr.aX (xs.take i):=fun d=>by
 have pt:=t.all x (aau hx)
 obtain⟨y,hy,e⟩:=Pr.DD pt.prime (fun z hz=>t.all z (adt hz)) d
 obtain⟨j,hj,ej⟩:=aaU hy
 have jl:j<i:=by rw[abk] at hj;omega
 have il:i<xs.length:=(aae.mp hx).1
 have:=List.pairwise_iff_getElem.mp t.rise j i (by omega) il jl
 rw[List.getElem_take] at ej
 rw[ej,(aae.mp hx).2] at this
 omega
end Jc
namespace Sh
theorem quot (x y:Int):x=y*Int.fdiv x y+Int.fmod x y:=by rw[aee];omega
structure Rows (x y a s t b u v:Int):Prop where
 up:a=s*x+t*y
 lo:b=u*x+v*y
 one:∃ p q,x=p*a+q*b
 two:∃ p q,y=p*a+q*b
theorem yv (x y:Int):Rows x y x 1 0 y 0 1:=⟨by omega,by omega,⟨1,0,by omega⟩,⟨0,1,by omega⟩⟩
theorem BH {x y a s t b u v:Int}(h:Rows x y a s t b u v)(q:Int):Rows x y b u v (a-q*b) (s-q*u) (t-q*v):=by
 obtain⟨h1,h2,⟨p1,q1,h3⟩,⟨p2,q2,h4⟩⟩:=h
 refine⟨h2,by grind,⟨p1*q+q1,p1,?_⟩,⟨p2*q+q2,p2,?_⟩⟩<;>grind
theorem D4 {x y a s t b u v:Int}(h:Rows x y a s t b u v)(hb:b=0):a=s*x+t*y/\(∃ p,x=p*a)/\(∃ p,y=p*a):=by
 obtain⟨h1,h2,⟨p1,q1,h3⟩,⟨p2,q2,h4⟩⟩:=h
 subst hb
 exact⟨h1,⟨p1,by grind⟩,⟨p2,by grind⟩⟩
structure Sz (B a s t b u v:Int):Prop where
 a0:a.natAbs<=B.natAbs
 b0:b.natAbs<=B.natAbs
 s0:s.natAbs<=B.natAbs
 t0:t.natAbs<=B.natAbs
 u0:u.natAbs<=B.natAbs
 v0:v.natAbs<=B.natAbs
 way:(s=1/\t=0/\u=0/\v=1/\a.natAbs+2*b.natAbs<=B.natAbs) \/
  ((0<=a/\0<=b\/a<=0/\b<=0)/\s.natAbs*b.natAbs+u.natAbs*a.natAbs<=B.natAbs/\t.natAbs*b.natAbs+v.natAbs*a.natAbs<=B.natAbs)
theorem sS {m n B:Nat}(h:m*n<=B)(hn:n≠0):m<=B:=ZV (ac8 m (Nat.pos_of_ne_zero hn)) h
theorem wj {a b:Int}(hb:b≠0):(Int.fmod a b).natAbs<b.natAbs:=by
 rcases ack hb with h|h
 ·have h1:=Int.fmod_lt_of_pos (-a) (show 0 < -b by omega)
  have h2:=acp (-a) (show 0 < -b by omega)
  rw[Int.neg_fmod_neg] at h1 h2
  omega
 ·have h1:=Int.fmod_lt_of_pos a h
  have h2:=acp a h
  omega
theorem BI {a b:Int}(hb:b≠0):0<=b/\0<=Int.fmod a b\/b<=0/\Int.fmod a b<=0:=by
 rcases ack hb with h|h
 ·have h2:=acp (-a) (show 0 < -b by omega)
  rw[Int.neg_fmod_neg] at h2
  omega
 ·have h2:=acp a h
  omega
theorem wk (s q u:Int):(s-q*u).natAbs<=s.natAbs+q.natAbs*u.natAbs:=by
 have:=Int.natAbs_sub_le s (q*u)
 rw[Z7] at this
 exact this
theorem wq {s u a b q r:Int}(hq:(q*b).natAbs+r.natAbs<=a.natAbs):u.natAbs*r.natAbs+(s-q*u).natAbs*b.natAbs<=s.natAbs*b.natAbs+u.natAbs*a.natAbs:=by
 have h1:=acC b.natAbs (wk s q u)
 have h2:=Nat.mul_le_mul_left u.natAbs hq
 rw[Z7] at h2
 rw[Nat.add_mul] at h1
 rw[ac7] at h2
 have e:q.natAbs*u.natAbs*b.natAbs=u.natAbs*(q.natAbs*b.natAbs):=by
  rw[acM q.natAbs,ac6]
 omega
theorem D5 {x y:Int}:Sz ((x.natAbs:Int)+2*y.natAbs+1) x 1 0 y 0 1:=by
 refine⟨by omega,by omega,by omega,by omega,by omega,by omega,.inl ⟨rfl,rfl,rfl,rfl,by omega⟩⟩
theorem GU {B a s t b u v:Int}(h:Sz B a s t b u v)(hb:b≠0)(q r:Int)(hq:a=b*q+r)(hr:r=Int.fmod a b) :
  Sz B b u v r (s-q*u) (t-q*v):=by
 have ra:r.natAbs<b.natAbs:=hr▸wj hb
 have rs:0<=b/\0<=r\/b<=0/\r<=0:=hr▸BI hb
 have eq:q*b=a-r:=by rw[ZX];omega
 rcases h.way with ⟨rfl,rfl,rfl,rfl,h1⟩|⟨hs,h1,h2⟩
 ·have sJ:(q*b).natAbs<=a.natAbs+r.natAbs:=by rw[eq];omega
  have Ze:q.natAbs<=(q*b).natAbs:=by
   rw[Z7]
   exact ac8 _ (by omega)
  have e1:(1-q*0).natAbs=1:=by rw[aaF];rfl
  have e2:(0-q*1).natAbs=q.natAbs:=by rw[aaM];omega
  have b0:=h.b0
  refine⟨h.b0,by omega,h.u0,h.v0,by rw[e1];omega,by rw[e2];omega,.inr ⟨rs,?_,?_⟩⟩
  ·rw[e1];simp;omega
  ·have e3:q.natAbs*b.natAbs=(q*b).natAbs:=(Z7 q b).symm
   have e4:(1:Int).natAbs*r.natAbs=r.natAbs:=by rw[show (1:Int).natAbs=1 from rfl,adx]
   rw[e2,e3,e4]
   omega
 ·have sJ:(q*b).natAbs+r.natAbs<=a.natAbs:=by
   have q0:0<=q:=by
    rcases (show 0<=q\/q<=-1 by omega) with h0|h0
    ·exact h0
    ·exfalso
     rcases (show 0<b\/b<0 by omega) with xZ|xZ
     ·have:=ZS h0 (Z1 xZ)
      omega
     ·have:=ZS h0 (show 0<=-b by omega)
      rw[aaS,aaS] at this
      omega
   rcases (show 0<b\/b<0 by omega) with xZ|xZ
   ·have:=ZO q0 (Z1 xZ)
    omega
   ·have:=ZO q0 (show 0<=-b by omega)
    rw[Int.mul_neg] at this
    omega
  have k1:=wq (s:=s) (u:=u) sJ
  have k2:=wq (s:=t) (u:=v) sJ
  refine⟨h.b0,by have:=h.b0;omega,h.u0,h.v0,?_,?_,.inr ⟨rs,by omega,by omega⟩⟩
  ·exact sS (n:=b.natAbs) (by omega) (by omega)
  ·exact sS (n:=b.natAbs) (by omega) (by omega)
end Sh
namespace Pn
open Sm Lw
theorem N6 (Q:F6)(t:T3):sl (ch Q t)=pt (tr t) (pt (sl Q) t):=by
 simp only[sl,ch,wo,bl,tb,tr,pt,rp,T3.mk.injEq,P3.mk.injEq]
 refine⟨⟨?_,?_,?_⟩,⟨?_,?_,?_⟩,⟨?_,?_,?_⟩⟩<;>grind
theorem Il (t:T3):me (tr t)=me t:=by
 simp only[me,tr,cr,rp]
 grind
theorem Im (Q:F6):me (sl Q)=2*sz Q:=by
 simp only[me,sl,cr,rp,sz]
 grind
theorem N7 (Q:F6)(t:T3):sz (ch Q t)=sz Q*me t*me t:=by
 have h:=Im (ch Q t)
 rw[N6,Ij,Ij,Im,Il] at h
 have:me t*(2*sz Q*me t)=2*(sz Q*me t*me t):=by grind
 omega
end Pn
namespace Jc
open Pr (bU)
end Jc
namespace Pn
open Sm Lw
end Pn
namespace Jc
open Pr
end Jc
namespace Pn
open Sm Lw
theorem WE {a b t u v:Int}(a0:0<a)(ab:a<=b)(t0:0<=t)(tb:t<=b)(u0:0<=u)(ua:u<=a)(v0:0<=v)(va:v<=a):0<=2*a*b*b+t*u*v-a*(t*t)-b*(u*u)-b*(v*v):=by
 have b0:0<b:=by omega
 have uu:u*u<=a*a:=aaJ ua ua u0 (by omega)
 have vv:v*v<=a*a:=aaJ va va v0 (by omega)
 have aa:a*a<=a*b:=ZS ab (by omega)
 have e0:0<=2*(a*b)-u*u-v*v:=by omega
 have e1:0<=a*b+u*v-u*u-v*v:=by
  by_cases h:v<=u
  ·have:=ZO v0 (show 0<=u-v by omega)
   rw[Int.mul_sub] at this
   have c:=ZX u v
   omega
  ·have:=ZO u0 (show 0<=v-u by omega)
   rw[Int.mul_sub] at this
   omega
 have p1:=ZO (ZO (show 0<=b-t by omega) (Z1 b0)) e0
 have p2:=ZO (ZO t0 (Z1 b0)) e1
 have p3:=ZO (ZO (ZO (Z1 a0) (Z1 b0)) t0) (show 0<=b-t by omega)
 have key:b*(2*a*b*b+t*u*v-a*(t*t)-b*(u*u)-b*(v*v))=(b-t)*b*(2*(a*b)-u*u-v*v)+t*b*(a*b+u*v-u*u-v*v)+a*b*t*(b-t):=by grind
 have:0<=b*(2*a*b*b+t*u*v-a*(t*t)-b*(u*u)-b*(v*v)):=by rw[key];omega
 exact Int.nonneg_of_mul_nonneg_right this b0
theorem WG {a b t u v:Int}(a0:0<a)(ab:a<=b)(t0:0<=t)(tb:t<=b)(u0:0<=u)(ua:u<=a)(v0:0<=v)(va:v<=a)(h:t+u+v<=a+b):0<=2*a*b*b-t*u*v-a*(t*t)-b*(u*u)-b*(v*v):=by
 have b0:0<b:=by omega
 have uv:=ZO u0 v0
 have aa:a*a<=a*b:=ZS ab (by omega)
 by_cases c:u+v<=a
 ·have s1:=aaJ c c (by omega) (by omega)
  have e:0<=a*b-u*v-u*u-v*v:=by
   have:(u+v)*(u+v)=u*u+v*v+2*(u*v):=by grind
   omega
  have p1:=ZO (Z1 b0) e
  have p2:=ZO (show 0<=b-t by omega) uv
  have p3:=ZO (Z1 a0) (ZO (show 0<=b-t by omega) (show 0<=b+t by omega))
  have key:2*a*b*b-t*u*v-a*(t*t)-b*(u*u)-b*(v*v)=b*(a*b-u*v-u*u-v*v)+(b-t)*(u*v)+a*((b-t)*(b+t)):=by grind
  rw[key]
  omega
 ·obtain⟨s,hs⟩:∃ s:Int,s=u+v-a:=⟨_,rfl⟩
  have q1:=ZO (show 0<=a-u by omega) (show 0<=a-v by omega)
  have q2:0<=u*v-a*s:=by
   have:(a-u)*(a-v)=u*v-a*s:=by rw[hs];grind
   omega
  have p1:=ZO (show 0<=b+s by omega) q2
  have p2:=ZO (ZO (Z1 a0) (Z1 b0)) (show 0<=b-a by omega)
  have p3:=ZO (ZO (show 0<=s by omega) (Z1 b0)) (show 0<=a-s by omega)
  have p4:=ZO (show 0<=b-s-t by omega) uv
  have p5:=ZO (Z1 a0) (ZO (show 0<=b-s-t by omega) (show 0<=b-s+t by omega))
  have key:2*a*b*b-t*u*v-a*(t*t)-b*(u*u)-b*(v*v)=(b+s)*(u*v-a*s)+a*b*(b-a)+s*b*(a-s)+(b-s-t)*(u*v)+a*((b-s-t)*(b-s+t)):=by
   rw[hs]
   grind
  rw[key]
  omega
theorem wt (x:Int):(if x<0 then -x else x)*(if x<0 then -x else x)=x*x:=by
 split
 ·rw[abp]
 ·rfl
theorem qA (x:Int):0<=(if x<0 then -x else x):=by split<;>omega
theorem gs {a b c T U V:Int}(a0:0<a)(ab:a<=b)(bc:b<=c)(hV:-a<=V/\V<=a)(hU:-a<=U/\U<=a)(hT:-b<=T/\T<=b)
  (h1:0<=a+b+U+T+V) (h2:0<=a+b+U-T-V) (h3:0<=a+b-U+T-V) (h4:0<=a+b-U-T+V):0<=2*a*b*c+T*U*V-a*(T*T)-b*(U*U)-c*(V*V):=by
 have aa:a*a<=a*b:=ZS ab (by omega)
 have va:(if V<0 then -V else V)<=a:=by split<;>omega
 have ua:(if U<0 then -U else U)<=a:=by split<;>omega
 have tb:(if T<0 then -T else T)<=b:=by split<;>omega
 have vv:V*V<=a*a:=by
  rw[<- wt]
  exact aaJ va va (qA V) (by omega)
 have Zf:=aat a0 (show 0<b by omega)
 have big:=ZO (show 0<=c-b by omega) (show 0<=2*(a*b)-V*V by omega)
 have step:0<=2*a*b*b+T*U*V-a*(T*T)-b*(U*U)-b*(V*V)->0<=2*a*b*c+T*U*V-a*(T*T)-b*(U*U)-c*(V*V):=fun h=>by
  have key:2*a*b*c+T*U*V-a*(T*T)-b*(U*U)-c*(V*V)=(2*a*b*b+T*U*V-a*(T*T)-b*(U*U)-b*(V*V))+(c-b)*(2*(a*b)-V*V):=by grind
  rw[key]
  omega
 refine step ?_
 have g0:=WE a0 ab (qA T) tb (qA U) ua (qA V) va
 have g1:=fun h=>WG a0 ab (qA T) tb (qA U) ua (qA V) va h
 rw[wt,wt,wt] at g0
 simp only[wt] at g1
 by_cases cT:T<0<;>by_cases cU:U<0<;>by_cases cV:V<0<;>simp only[cT,cU,cV,acR,abX] at g0 g1
 ·have:=g1 (by omega)
  have e:-T*-U*-V=-(T*U*V):=by grind
  rw[e] at this
  omega
 ·have e:-T*-U*V=T*U*V:=by grind
  rw[e] at g0
  exact g0
 ·have e:-T*U*-V=T*U*V:=by grind
  rw[e] at g0
  exact g0
 ·have:=g1 (by omega)
  have e:-T*U*V=-(T*U*V):=by grind
  rw[e] at this
  omega
 ·have e:T*-U*-V=T*U*V:=by grind
  rw[e] at g0
  exact g0
 ·have:=g1 (by omega)
  have e:T*-U*V=-(T*U*V):=by grind
  rw[e] at this
  omega
 ·have:=g1 (by omega)
  have e:T*U*-V=-(T*U*V):=by grind
  rw[e] at this
  omega
 ·exact g0
structure Io (L:F6)(p q r:P3):Prop where
 UD:wo L p<=wo L q
 UE:wo L q<=wo L r
 pq:-wo L p<=bl L p q/\bl L p q<=wo L p
 pr:-wo L p<=bl L p r/\bl L p r<=wo L p
 qr:-wo L q<=bl L q r/\bl L q r<=wo L q
 h1:0<=wo L p+wo L q+bl L p r+bl L q r+bl L p q
 h2:0<=wo L p+wo L q+bl L p r-bl L q r-bl L p q
 h3:0<=wo L p+wo L q-bl L p r+bl L q r-bl L p q
 h4:0<=wo L p+wo L q-bl L p r-bl L q r+bl L p q
theorem N8 {A B C:Int}(p q r:P3):4*wo (dg A B C) p*wo (dg A B C) q*wo (dg A B C) r+bl (dg A B C) q r*bl (dg A B C) p r*bl (dg A B C) p q-wo (dg A B C) p*(bl (dg A B C) q r*bl (dg A B C) q r)-wo (dg A B C) q*(bl (dg A B C) p r*bl (dg A B C) p r)-wo (dg A B C) r*(bl (dg A B C) p q*bl (dg A B C) p q)=4*(A*B*C)*(me ⟨p,q,r⟩*me ⟨p,q,r⟩):=by
 have h:=N7 (dg A B C) (tr ⟨p,q,r⟩)
 have e1:ch (dg A B C) (tr ⟨p,q,r⟩)=⟨wo (dg A B C) p,wo (dg A B C) q,wo (dg A B C) r,bl (dg A B C) q r,bl (dg A B C) p r,bl (dg A B C) p q⟩:=rfl
 rw[e1,Il] at h
 have e2:sz (dg A B C)=4*(A*B*C):=by simp only[sz,dg];grind
 rw[e2] at h
 unfold sz at h
 generalize wo (dg A B C) p=a at *
 generalize wo (dg A B C) q=b at *
 generalize wo (dg A B C) r=c at *
 generalize bl (dg A B C) q r=d at *
 generalize bl (dg A B C) p r=e at *
 generalize bl (dg A B C) p q=f at *
 generalize me ⟨p,q,r⟩=m at *
 generalize A*B*C=n at *
 grind
theorem GV {a b c N:Int}(a0:0<a)(ab:a<=b)(bc:b<=c)(N0:0<N)(h:a*b*c<=N*N*N):a<=N/\(a=N->b=N/\c=N):=by
 have low:∀ {x y z:Int},N<=x->N<=y->N<=z->x*y*z<=N*N*N->x=N/\y=N/\z=N:=fun {x y z} h1 h2 h3 h=>by
  have e:x*y*z-N*N*N=(x-N)*(y*z)+N*((y-N)*z)+N*N*(z-N):=by grind
  have p1:=ZO (show 0<=x-N by omega) (ZO (show 0<=y by omega) (show 0<=z by omega))
  have p2:=ZO (Z1 N0) (ZO (show 0<=y-N by omega) (show 0<=z by omega))
  have p3:=ZO (ZO (Z1 N0) (Z1 N0)) (show 0<=z-N by omega)
  refine⟨?_,?_,?_⟩
  ·rcases (show x=N\/0<x-N by omega) with z1|z1
   ·exact z1
   ·have:=aat z1 (aat (show 0<y by omega) (show 0<z by omega));omega
  ·rcases (show y=N\/0<y-N by omega) with z1|z1
   ·exact z1
   ·have:=aat N0 (aat z1 (show 0<z by omega));omega
  ·rcases (show z=N\/0<z-N by omega) with z1|z1
   ·exact z1
   ·have:=aat (aat N0 N0) z1;omega
 constructor
 ·by_cases c1:a<=N
  ·exact c1
  ·have:=low (x:=a) (y:=b) (z:=c) (by omega) (by omega) (by omega) h
   omega
 ·intro e
  have:=low (x:=a) (y:=b) (z:=c) (by omega) (by omega) (by omega) h
  exact⟨this.2.1,this.2.2⟩
theorem Kw {a b c A B C:Int}(hA:A=a\/A=-a)(hB:B=b\/B=-b)(hC:C=c\/C=-c)(A0:0<A)(B0:0<B)(C0:0<C)(u:P3):-wo (dg A B C) u<=wo (dg a b c) u/\wo (dg a b c) u<=wo (dg A B C) u:=by
 rw[iC,iC]
 have x1:=ZO (Z1 A0) (eT u.x)
 have y1:=ZO (Z1 B0) (eT u.y)
 have z1:=ZO (Z1 C0) (eT u.z)
 have ex:a*(u.x*u.x)=A*(u.x*u.x)\/a*(u.x*u.x)=-(A*(u.x*u.x)):=by
  rcases hA with h|h
  ·exact .inl (by rw[h])
  ·exact .inr (by rw[h,aaS,ada])
 have ey:b*(u.y*u.y)=B*(u.y*u.y)\/b*(u.y*u.y)=-(B*(u.y*u.y)):=by
  rcases hB with h|h
  ·exact .inl (by rw[h])
  ·exact .inr (by rw[h,aaS,ada])
 have ez:c*(u.z*u.z)=C*(u.z*u.z)\/c*(u.z*u.z)=-(C*(u.z*u.z)):=by
  rcases hC with h|h
  ·exact .inl (by rw[h])
  ·exact .inr (by rw[h,aaS,ada])
 omega
theorem sT {N x:Int}(N0:0<N)(h:N∣x)(h1:-N<x)(h2:x<N):x=0:=by
 obtain⟨k,rfl⟩:=h
 rcases ab1 k 0 with z|z|z
 ·have:=ZS (show k<=-1 by omega) (Z1 N0)
  omega
 ·rw[z,aaF]
 ·have:=ZS (show 1<=k by omega) (Z1 N0)
  omega
theorem WH (z d:Int):z*z*(d*d)=z*d*(z*d):=by grind
theorem Sa (m d:Int):2*(m*(d*d))=2*m*(d*d):=by grind
theorem qB {A B C N x1 y1 x2 y2 z:Int}(A0:0<A)(B0:0<B)(C0:0<C)(eN:N=2*(A*B*C))(h1:A*(x1*x1)+B*(y1*y1)=N)(h2:A*(x2*x2)+B*(y2*y2)=N)(h3:C*(z*z)=N)
  (hm:(z*(x1*y2-x2*y1))*(z*(x1*y2-x2*y1))=N*N) (hW:-N<=2*(A*(x1*x2)+B*(y1*y2))/\2*(A*(x1*x2)+B*(y1*y2))<=N):False:=by
 have AB:=aat A0 B0
 have N0:0<N:=by rw[eN];have:=aat AB C0;omega
 have ez:z*z=2*(A*B):=by
  have:C*(z*z)=C*(2*(A*B)):=by rw[h3,eN];grind
  exact aaR (by omega) this
 have UG:(A*(x1*x1)+B*(y1*y1))*(A*(x2*x2)+B*(y2*y2))-(A*(x1*x2)+B*(y1*y2))*(A*(x1*x2)+B*(y1*y2))=A*B*((x1*y2-x2*y1)*(x1*y2-x2*y1)):=by grind
 rw[h1,h2] at UG
 generalize hw:A*(x1*x2)+B*(y1*y2)=W at *
 generalize hd:x1*y2-x2*y1=d at *
 have e2:2*(N*N-W*W)=N*N:=by
  have:z*z*(d*d)=N*N:=by rw[<- hm];exact WH z d
  rw[ez] at this
  rw[UG,<- this]
  exact Sa _ _
 have ww:4*(W*W)<=N*N:=by
  have:=ZO (show 0<=N-2*W by omega) (show 0<=N+2*W by omega)
  have e:(N-2*W)*(N+2*W)=N*N-4*(W*W):=by grind
  omega
 have nn:=aat N0 N0
 omega
theorem uh {A x:Int}(A0:0<A)(h:A*(x*x)=0):x=0:=by
 rcases abg.mp h with z|z
 ·omega
 ·rcases abg.mp z with z|z<;>exact z
theorem D6 {a b c A B C:Int}{p q r:P3}(hs:(A=a/\B=b/\C=-c)\/(A=-a/\B=-b/\C=c))(A0:0<A)(B0:0<B)(C0:0<C)(S:Io (dg A B C) p q r){N:Int}(eN:N=2*(A*B*C))(hm:me ⟨p,q,r⟩*me ⟨p,q,r⟩=N*N)
  (dp:N∣wo (dg a b c) p) (dq:N∣wo (dg a b c) q) (dr:N∣wo (dg a b c) r):(wo (dg a b c) p=0/\wo (dg A B C) p<=N)\/(wo (dg A B C) p=N/\wo (dg A B C) q=N/\wo (dg A B C) r=N/\(wo (dg a b c) p=0\/wo (dg a b c) q=0\/wo (dg a b c) r=0)):=by
 have AB:=aat A0 B0
 have N0:0<N:=by rw[eN];have:=aat AB C0;omega
 have hA:A=a\/A=-a:=hs.elim (fun h=>.inl h.1) fun h=>.inr h.1
 have hB:B=b\/B=-b:=hs.elim (fun h=>.inl h.2.1) fun h=>.inr h.2.1
 have hC:C=c\/C=-c:=hs.elim (fun h=>.inr h.2.2) fun h=>.inl h.2.2
 have wa:=Kw hA hB hC A0 B0 C0
 have m0:me ⟨p,q,r⟩≠0:=fun z=>by
  rw[z] at hm
  have:=aat N0 N0
  omega
 have np:Nz p:=aaK fun z=>m0 (by
  unfold Nz at z
  have e1:p.x=0:=by omega
  have e2:p.y=0:=by omega
  have e3:p.z=0:=by omega
  simp only[me,rp,e1,e2,e3]
  omega)
 have l0:=yt A0 B0 C0 np
 have G:=N8 (A:=A) (B:=B) (C:=C) p q r
 have gg:=gs (T:=bl (dg A B C) q r) (U:=bl (dg A B C) p r) (V:=bl (dg A B C) p q) l0 S.UD S.UE S.pq S.pr S.qr S.h1 S.h2 S.h3 S.h4
 have prod:wo (dg A B C) p*wo (dg A B C) q*wo (dg A B C) r<=N*N*N:=by
  rw[hm] at G
  have e:4*(A*B*C)*(N*N)=2*(N*N*N):=by rw[show 4*(A*B*C)=2*N by omega];grind
  rw[e] at G
  generalize wo (dg A B C) p=l1 at *
  generalize wo (dg A B C) q=l2 at *
  generalize wo (dg A B C) r=l3 at *
  generalize bl (dg A B C) q r=t at *
  generalize bl (dg A B C) p r=u at *
  generalize bl (dg A B C) p q=v at *
  have e1:4*l1*l2*l3=4*(l1*l2*l3):=by grind
  have e2:2*l1*l2*l3=2*(l1*l2*l3):=by grind
  omega
 obtain⟨c1,c2⟩:=GV l0 S.UD S.UE N0 prod
 by_cases lt:wo (dg A B C) p<N
 ·have:=wa p
  exact .inl ⟨sT N0 dp (by omega) (by omega),by omega⟩
 ·have e1:wo (dg A B C) p=N:=by omega
  obtain⟨e2,e3⟩:=c2 e1
  refine .inr ⟨e1,e2,e3,aaK fun no=>?_⟩
  have n1:wo (dg a b c) p≠0:=fun z=>no (.inl z)
  have n2:wo (dg a b c) q≠0:=fun z=>no (.inr (.inl z))
  have n3:wo (dg a b c) r≠0:=fun z=>no (.inr (.inr z))
  have full:∀ u:P3,N∣wo (dg a b c) u->wo (dg a b c) u≠0->wo (dg A B C) u=N->u.z=0\/(u.x=0/\u.y=0):=fun u hd hn hl=>by
   have w:=wa u
   rw[hl] at w
   have ends:wo (dg a b c) u=N\/wo (dg a b c) u=-N:=aaK fun z=>hn (sT N0 hd (by omega) (by omega))
   rw[<- hl] at ends
   rw[iC,iC] at ends
   have x1:=ZO (Z1 A0) (eT u.x)
   have y1:=ZO (Z1 B0) (eT u.y)
   have z1:=ZO (Z1 C0) (eT u.z)
   have key:A*(u.x*u.x)+B*(u.y*u.y)=0\/C*(u.z*u.z)=0:=by
    rcases hs with ⟨h1,h2,h3⟩|⟨h1,h2,h3⟩
    ·have ec:c=-C:=by omega
     rw[<- h1,<- h2,ec,aaS] at ends
     omega
    ·have ea:a=-A:=by omega
     have eb:b=-B:=by omega
     rw[ea,eb,<- h3,aaS,aaS] at ends
     omega
   rcases key with k|k
   ·exact .inr ⟨uh A0 (by omega),uh B0 (by omega)⟩
   ·exact .inl (uh C0 k)
  have fp:=full p dp n1 e1
  have fq:=full q dq n2 e2
  have fr:=full r dr n3 e3
  have bp:=S.pq
  have bq:=S.pr
  have br:=S.qr
  rw[e1] at bp bq
  rw[e2] at br
  rw[iC] at e1 e2 e3
  have eb:∀ u v:P3,bl (dg A B C) u v=2*(A*(u.x*v.x)+B*(u.y*v.y)+C*(u.z*v.z)):=fun u v=>by
   simp only[bl,tb,sl,dg,rp]
   grind
  rw[eb] at bp bq br
  have em:me ⟨p,q,r⟩=p.x*(q.y*r.z-q.z*r.y)+p.y*(q.z*r.x-q.x*r.z)+p.z*(q.x*r.y-q.y*r.x):=rfl
  rw[em] at hm m0
  have zz:∀ x:Int,x*0=0:=aaF
  rcases fp with z1|⟨x1,y1⟩<;>rcases fq with z2|⟨x2,y2⟩<;>rcases fr with z3|⟨x3,y3⟩
  ·exact m0 (by rw[z1,z2,z3];grind)
  ·rw[z1] at e1 bp
   rw[z2] at e2
   rw[x3,y3] at e3
   exact qB A0 B0 C0 eN (x1:=p.x) (y1:=p.y) (x2:=q.x) (y2:=q.y) (z:=r.z) (by rw[<- e1];grind) (by rw[<- e2];grind) (by rw[<- e3];grind) (by rw[<- hm,z1,z2,x3,y3];grind) (by have e:p.x*q.x=p.x*q.x:=rfl;constructor<;>grind)
  ·rw[z1] at e1 bq
   rw[z3] at e3
   rw[x2,y2] at e2
   exact qB A0 B0 C0 eN (x1:=p.x) (y1:=p.y) (x2:=r.x) (y2:=r.y) (z:=q.z) (by rw[<- e1];grind) (by rw[<- e3];grind) (by rw[<- e2];grind) (by rw[<- hm,z1,z3,x2,y2];grind) (by constructor<;>grind)
  ·exact m0 (by rw[x2,y2,x3,y3];grind)
  ·rw[z2] at e2 br
   rw[z3] at e3
   rw[x1,y1] at e1
   exact qB A0 B0 C0 eN (x1:=q.x) (y1:=q.y) (x2:=r.x) (y2:=r.y) (z:=p.z) (by rw[<- e2];grind) (by rw[<- e3];grind) (by rw[<- e1];grind) (by rw[<- hm,z2,z3,x1,y1];grind) (by constructor<;>grind)
  ·exact m0 (by rw[x1,y1,x3,y3];grind)
  ·exact m0 (by rw[x1,y1,x2,y2];grind)
  ·exact m0 (by rw[x1,y1,x2,y2];grind)
def mt (P:P3)(m:Int):P3:=⟨P.x*m,P.y*m,P.z*m⟩
def fO (p:P3):P3:=⟨p.y,p.z,p.x⟩
theorem gm (a b c:Int)(p:P3):wo (dg b c a) (fO p)=wo (dg a b c) p:=by
 rw[iC,iC]
 simp only[fO]
 omega
theorem D7 (A B C:Int)(u v:P3):bl (dg A B C) u v=2*(A*(u.x*v.x)+B*(u.y*v.y)+C*(u.z*v.z)):=by
 simp only[bl,tb,sl,dg,rp]
 grind
theorem Ky (a b c:Int)(p q:P3):bl (dg b c a) (fO p) (fO q)=bl (dg a b c) p q:=by
 rw[D7,D7]
 simp only[fO]
 omega
theorem cg (p q r:P3):me ⟨p,q,r⟩=p.x*(q.y*r.z-q.z*r.y)+p.y*(q.z*r.x-q.x*r.z)+p.z*(q.x*r.y-q.y*r.x):=rfl
theorem yw (p q r:P3):me ⟨fO p,fO q,fO r⟩=me ⟨p,q,r⟩:=by
 rw[cg,cg]
 simp only[fO]
 omega
theorem Io.fO {A B C:Int}{p q r:P3}(S:Io (dg A B C) p q r):Io (dg B C A) (fO p) (fO q) (fO r):=by
 obtain⟨h1,h2,h3,h4,h5,h6,h7,h8,h9⟩:=S
 constructor<;>simp only[gm,Ky]<;>assumption
theorem Sb {a b c A B C:Int}{p q r:P3}(hA:A=a\/A=-a)(hB:B=b\/B=-b)(hC:C=c\/C=-c)(m1:¬(0<a/\0<b/\0<c))(m2:¬(a<0/\b<0/\c<0))(A0:0<A)(B0:0<B)(C0:0<C)(S:Io (dg A B C) p q r){N:Int}(eN:N=2*(A*B*C))(hm:me ⟨p,q,r⟩*me ⟨p,q,r⟩=N*N)
  (dp:N∣wo (dg a b c) p) (dq:N∣wo (dg a b c) q) (dr:N∣wo (dg a b c) r):(wo (dg a b c) p=0/\wo (dg A B C) p<=N)\/(wo (dg A B C) p=N/\wo (dg A B C) q=N/\wo (dg A B C) r=N/\(wo (dg a b c) p=0\/wo (dg a b c) q=0\/wo (dg a b c) r=0)):=by
 have third:(A=a/\B=b/\C=-c)\/(A=-a/\B=-b/\C=c)->_:=fun hs=>D6 hs A0 B0 C0 S eN hm dp dq dr
 have first:(B=b/\C=c/\A=-a)\/(B=-b/\C=-c/\A=a)->(wo (dg a b c) p=0/\wo (dg A B C) p<=N)\/(wo (dg A B C) p=N/\wo (dg A B C) q=N/\wo (dg A B C) r=N/\(wo (dg a b c) p=0\/wo (dg a b c) q=0\/wo (dg a b c) r=0)):=fun hs=>by
  have e:N=2*(B*C*A):=by rw[eN];grind
  have:=D6 (p:=fO p) (q:=fO q) (r:=fO r) hs B0 C0 A0 S.fO e (by rw[yw];exact hm) (by rw[gm];exact dp) (by rw[gm];exact dq) (by rw[gm];exact dr)
  simp only[gm] at this
  exact this
 have second:(C=c/\A=a/\B=-b)\/(C=-c/\A=-a/\B=b)->(wo (dg a b c) p=0/\wo (dg A B C) p<=N)\/(wo (dg A B C) p=N/\wo (dg A B C) q=N/\wo (dg A B C) r=N/\(wo (dg a b c) p=0\/wo (dg a b c) q=0\/wo (dg a b c) r=0)):=fun hs=>by
  have e:N=2*(C*A*B):=by rw[eN];grind
  have:=D6 (p:=fO (fO p)) (q:=fO (fO q)) (r:=fO (fO r)) hs C0 A0 B0 S.fO.fO e (by rw[yw,yw];exact hm) (by rw[gm,gm];exact dp) (by rw[gm,gm];exact dq) (by rw[gm,gm];exact dr)
  simp only[gm] at this
  exact this
 rcases hA with hA|hA<;>rcases hB with hB|hB<;>rcases hC with hC|hC
 ·exact absurd (show 0<a/\0<b/\0<c by omega) m1
 ·exact third (.inl ⟨hA,hB,hC⟩)
 ·exact second (.inl ⟨hC,hA,hB⟩)
 ·exact first (.inr ⟨hB,hC,hA⟩)
 ·exact first (.inl ⟨hB,hC,hA⟩)
 ·exact second (.inr ⟨hC,hA,hB⟩)
 ·exact third (.inr ⟨hA,hB,hC⟩)
 ·exact absurd (show a<0/\b<0/\c<0 by omega) m2
structure m5 (a b c s t u:Int):Prop where
 f1:a∣b*(s*s)+c
 f2:b∣a*(t*t)+c
 f3:c∣a*(u*u)+b
 all:∀ x:Int,a∣x->b∣x->c∣x->a*b*c∣x
structure jc (a b c s t u:Int)(p:P3):Prop where
 l1:a∣p.y-s*p.z
 l2:b∣p.x-t*p.z
 l3:c∣p.x-u*p.y
section
variable {a b c s t u:Int}{p q r:P3}
theorem Sd {n s m y z y' z' x w:Int}(h:n∣m*(s*s)+w)(h1:n∣y-s*z)(h2:n∣y'-s*z'):n∣n*x+m*(y*y')+w*(z*z'):=by
 obtain⟨k,hk⟩:=h
 obtain⟨i,hi⟩:=h1
 obtain⟨j,hj⟩:=h2
 obtain rfl:y=s*z+n*i:=by omega
 obtain rfl:y'=s*z'+n*j:=by omega
 exact⟨x+k*(z*z')+m*(s*z*j+i*(s*z')+n*i*j),by grind⟩
theorem jc.UH (F:m5 a b c s t u)(hp:jc a b c s t u p)(hq:jc a b c s t u q):a*b*c∣a*(p.x*q.x)+b*(p.y*q.y)+c*(p.z*q.z):=by
 refine F.all _ (Sd F.f1 hp.l1 hq.l1) ?_ ?_
 ·have:=Sd (x:=p.y*q.y) F.f2 hp.l2 hq.l2
  rwa[show b*(p.y*q.y)+a*(p.x*q.x)+c*(p.z*q.z)=a*(p.x*q.x)+b*(p.y*q.y)+c*(p.z*q.z) by omega] at this
 ·have:=Sd (x:=p.z*q.z) F.f3 hp.l3 hq.l3
  rwa[show c*(p.z*q.z)+a*(p.x*q.x)+b*(p.y*q.y)=a*(p.x*q.x)+b*(p.y*q.y)+c*(p.z*q.z) by omega] at this
theorem jc.bl (F:m5 a b c s t u)(hp:jc a b c s t u p)(hq:jc a b c s t u q):2*(a*b*c)∣bl (dg a b c) p q:=by
 rw[D7]
 exact adU (ach 2) (hp.UH F hq)
theorem jc.wo (F:m5 a b c s t u)(hp:jc a b c s t u p):a*b*c∣wo (dg a b c) p:=by
 rw[iC]
 exact hp.UH F hp
theorem Se {n y s z y' z' k:Int}(h1:n∣y-s*z)(h2:n∣y'-s*z'):n∣y+y'*k-s*(z+z'*k):=by
 have:=acs h1 (Int.dvd_mul_of_dvd_left (c:=k) h2)
 rwa[show y-s*z+(y'-s*z')*k=y+y'*k-s*(z+z'*k) by grind] at this
theorem jc.add (hp:jc a b c s t u p)(hq:jc a b c s t u q)(k:Int):jc a b c s t u (ad p (mt q k)):=⟨Se hp.l1 hq.l1,Se hp.l2 hq.l2,Se hp.l3 hq.l3⟩
theorem Ip (Q:F6)(p q:P3)(k:Int):wo Q (ad p (mt q k))=wo Q p+k*Sm.bl Q q p+k*k*wo Q q:=by
 simp only[Sm.wo,Sm.bl,ad,mt,rp,tb,sl]
 grind
structure iZ (a b c s t u:Int)(p:P3):Prop where
 PV:jc a b c s t u p
 ev:2*(a*b*c)∣Sm.wo (dg a b c) p
theorem iZ.add (F:m5 a b c s t u)(hp:iZ a b c s t u p)(hq:iZ a b c s t u q)(k:Int):iZ a b c s t u (ad p (mt q k)):=by
 refine⟨hp.PV.add hq.PV k,?_⟩
 rw[Ip]
 exact acs (acs hp.ev (Int.dvd_mul_of_dvd_right (hq.PV.bl F hp.PV))) (Int.dvd_mul_of_dvd_right hq.ev)
theorem Kz (Q:F6)(p:P3)(k:Int):Sm.wo Q (mt p k)=k*k*Sm.wo Q p:=by
 simp only[Sm.wo,mt]
 grind
theorem jc.dbl (hp:jc a b c s t u p)(k:Int):jc a b c s t u (mt p k):=by
 have e:∀ {n y s z:Int},n∣y-s*z->n∣y*k-s*(z*k):=fun {n y s z} h=>by
  have:=Int.dvd_mul_of_dvd_left (c:=k) h
  rwa[show (y-s*z)*k=y*k-s*(z*k) by grind] at this
 exact⟨e hp.l1,e hp.l2,e hp.l3⟩
theorem iZ.two (F:m5 a b c s t u)(hp:jc a b c s t u p):iZ a b c s t u (mt p 2):=by
 refine⟨hp.dbl 2,?_⟩
 rw[Kz]
 obtain⟨k,hk⟩:=hp.wo F
 exact⟨2*k,by rw[hk];grind⟩
theorem iZ.sum (F:m5 a b c s t u)(hp:jc a b c s t u p)(hq:jc a b c s t u q)(n0:a*b*c≠0)(op:¬2*(a*b*c)∣Sm.wo (dg a b c) p)(oq:¬2*(a*b*c)∣Sm.wo (dg a b c) q):iZ a b c s t u (ad p q):=by
 have e1:ad p q=ad p (mt q 1):=by simp only[ad,mt,aaM]
 refine⟨by rw[e1];exact hp.add hq 1,?_⟩
 have w:=N5 (dg a b c) p q
 obtain⟨k,hk⟩:=hp.wo F
 obtain⟨m,hm⟩:=hq.wo F
 obtain⟨d,hd⟩:=hp.bl F hq
 have odd:∀ {x k:Int},x=a*b*c*k->¬2*(a*b*c)∣x->k%2=1:=fun {x k} h n=>by
  rcases Int.emod_two_eq k with z|z
  ·have e2:k=2*(k / 2):=by omega
   exact absurd ⟨k / 2,by rw[h,show 2*(a*b*c)*(k / 2)=a*b*c*(2*(k / 2)) by grind,<- e2]⟩ n
  ·exact z
 have k1:=odd hk op
 have m1:=odd hm oq
 refine⟨(k+m) / 2+d,?_⟩
 have:Sm.wo (dg a b c) (ad p q)=a*b*c*(k+m)+2*(a*b*c)*d:=by rw[<- hd,<- w,hk,hm];grind
 rw[this]
 have e:k+m=2*((k+m) / 2):=by omega
 generalize (k+m) / 2=y at *
 rw[e]
 grind
theorem D8 (F:m5 a b c s t u)(hp:jc a b c s t u p)(hq:jc a b c s t u q)(hr:jc a b c s t u r)(n0:a*b*c≠0)(hm:me ⟨p,q,r⟩*me ⟨p,q,r⟩=a*b*c*(a*b*c))
  (e1:2*(a*b*c)∣Sm.wo (dg a b c) p) (e2:2*(a*b*c)∣Sm.wo (dg a b c) q) (e3:2*(a*b*c)∣Sm.wo (dg a b c) r):False:=by
 have G:=N8 (A:=a) (B:=b) (C:=c) p q r
 obtain⟨x,hx⟩:=e1
 obtain⟨y,hy⟩:=e2
 obtain⟨z,hz⟩:=e3
 obtain⟨d,hd⟩:=hq.bl F hr
 obtain⟨e,he⟩:=hp.bl F hr
 obtain⟨f,hf⟩:=hp.bl F hq
 rw[hx,hy,hz,hd,he,hf,hm] at G
 generalize a*b*c=n at *
 have:n*n*n*4*(2*(4*(x*y*z)+d*e*f-x*(d*d)-y*(e*e)-z*(f*f)))=n*n*n*4*1:=by grind
 have n3:n*n*n*4≠0:=by
  intro h
  rcases abg.mp h with h|h
  ·rcases abg.mp h with h|h
   ·rcases abg.mp h with h|h<;>exact n0 h
   ·exact n0 h
  ·cases h
 have:=aaR n3 this
 omega
def mq:List P3->Int
 | [x,y,z]=>me ⟨x,y,z⟩*me ⟨x,y,z⟩
 | _=>0
theorem D9:∀ {l:List P3},l.length≠3->mq l=0
 | [],_=>rfl
 | [_],_=>rfl
 | [_,_],_=>rfl
 | [_,_,_],h=>absurd rfl h
 | _::_::_::_::_,_=>rfl
theorem N9 (p q r:P3):me ⟨q,p,r⟩=-me ⟨p,q,r⟩:=by rw[cg,cg];grind
theorem Oa (p q r:P3):me ⟨p,r,q⟩=-me ⟨p,q,r⟩:=by rw[cg,cg];grind
theorem GW {l l':List P3}(h:l.Perm l'):∀ pre:List P3,mq (pre++l)=mq (pre++l'):=by
 induction h with
 | nil=>exact fun _=>rfl
 | cons x h ih=>
  intro pre
  have:=ih (pre++[x])
  simpa using this
 | trans _ _ a b=>exact fun pre=>(a pre).trans (b pre)
 | swap x y l=>
  intro pre
  by_cases hl:(pre++x::y::l).length=3
  ·match pre,l with
   | [],[z]=>
    show me ⟨y,x,z⟩*me ⟨y,x,z⟩=me ⟨x,y,z⟩*me ⟨x,y,z⟩
    rw[N9 x y z,abp]
   | [w],[]=>
    show me ⟨w,y,x⟩*me ⟨w,y,x⟩=me ⟨w,x,y⟩*me ⟨w,x,y⟩
    rw[Oa w x y,abp]
   | [],[]=>simp at hl
   | [],_::_::_=>simp at hl
   | [_],_::_=>simp at hl
   | _::_::_,l=>simp at hl;omega
  ·rw[D9 hl,D9 (by simpa using hl)]
def Iq (L:F6)(v o v':P3):Prop:=(v'=v/\-Sm.wo L o<=Sm.bl L o v/\Sm.bl L o v<=Sm.wo L o)\/(Sm.wo L v'<Sm.wo L v/\∃ k,v'=ad v (mt o k))
def L0 (L:F6)(v f g v':P3):Prop:=(v'=v/\∀ i j:Int,(i=1\/i=-1)->(j=1\/j=-1)->Sm.wo L v<=Sm.wo L (ad (ad v (mt f i)) (mt g j)))\/(Sm.wo L v'<Sm.wo L v/\∃ i j,v'=ad (ad v (mt f i)) (mt g j))
theorem Ea {L:F6}{v o:P3}{k:Int}(W:0<Sm.wo L o)(hk:k=(Sm.bl L o v+Sm.wo L o) / (2*Sm.wo L o))(h:Sm.wo L v<=Sm.wo L (ad v (mt o (-k)))):-Sm.wo L o<=Sm.bl L o v/\Sm.bl L o v<=Sm.wo L o:=by
 rw[Ip] at h
 generalize Sm.wo L o=w at *
 generalize Sm.bl L o v=d at *
 have e1:=Int.mul_ediv_add_emod (d+w) (2*w)
 have e2:=Z6 (d+w) (show 2*w≠0 by omega)
 have e3:=Z9 (d+w) (show 0<2*w by omega)
 rw[<- hk] at e1
 have h':0<=k*(k*w-d):=by
  have:-k*d+-k*-k*w=k*(k*w-d):=by grind
  omega
 rcases ab1 k 0 with z|z|z
 ·exfalso
  have m1:k*w-d<=0:=by
   rcases acQ 0 (k*w-d) with y|y
   ·have:=Int.mul_neg_of_neg_of_pos z y
    omega
   ·exact y
  have m2:(k+1)*w<=0:=Int.mul_nonpos_of_nonpos_of_nonneg (by omega) (by omega)
  have e4:2*w*k=2*(k*w):=by grind
  have e5:(k+1)*w=k*w+w:=by grind
  omega
 ·subst z
  omega
 ·have m1:0<=k*w-d:=by
   rcases acQ (k*w-d) 0 with y|y
   ·have:=acT z y
    omega
   ·exact y
  have m2:w<=k*w:=by
   have:=aak (show 1<=k by omega) (show 0<=w by omega)
   omega
  have e4:2*w*k=2*(k*w):=by grind
  omega
theorem Iq.le {L:F6}{v o v':P3}(h:Iq L v o v'):Sm.wo L v'<=Sm.wo L v:=by
 rcases h with ⟨rfl,_⟩|⟨h,_⟩
 ·exact aaV _
 ·omega
theorem L0.le {L:F6}{v f g v':P3}(h:L0 L v f g v'):Sm.wo L v'<=Sm.wo L v:=by
 rcases h with ⟨rfl,_⟩|⟨h,_⟩
 ·exact aaV _
 ·omega
theorem Iq.BJ {L:F6}{v o v':P3}(h:Iq L v o v'):∃ k,v'=ad v (mt o k):=by
 rcases h with ⟨rfl,_⟩|⟨_,h⟩
 ·exact⟨0,by simp[ad,mt]⟩
 ·exact h
theorem L0.BJ {L:F6}{v f g v':P3}(h:L0 L v f g v'):∃ i j,v'=ad (ad v (mt f i)) (mt g j):=by
 rcases h with ⟨rfl,_⟩|⟨_,h⟩
 ·exact⟨0,0,by simp[ad,mt]⟩
 ·exact h
inductive Eb (L:F6)(p q r q' r':P3):Prop
 | mk:∀ t1 t2,Iq L q p q'->Iq L r p t1->Iq L t1 q' t2->L0 L t2 p q' r'->Eb L p q r q' r'
theorem Eb.less {L:F6}{q' r':P3}(h:Eb L p q r q' r')(n:¬(q'=q/\r'=r)):Sm.wo L q'+Sm.wo L r'<Sm.wo L q+Sm.wo L r:=by
 obtain⟨t1,t2,a,b,c,d⟩:=h
 have a1:=a.le
 have b1:=b.le
 have c1:=c.le
 have d1:=d.le
 rcases a with ⟨rfl,_⟩|⟨a,_⟩
 ·rcases b with ⟨rfl,_⟩|⟨b,_⟩
  ·rcases c with ⟨rfl,_⟩|⟨c,_⟩
   ·rcases d with ⟨rfl,_⟩|⟨d,_⟩
    ·exact absurd ⟨rfl,rfl⟩ n
    ·omega
   ·omega
  ·omega
 ·omega
theorem Eb.le {L:F6}{q' r':P3}(h:Eb L p q r q' r'):Sm.wo L q'<=Sm.wo L q/\Sm.wo L r'<=Sm.wo L r:=by
 obtain⟨t1,t2,a,b,c,d⟩:=h
 have a1:=a.le
 have b1:=b.le
 have c1:=c.le
 have d1:=d.le
 omega
theorem KA (L:F6)(v f g:P3)(i j:Int):Sm.wo L (ad (ad v (mt f i)) (mt g j))=Sm.wo L v+i*i*Sm.wo L f+j*j*Sm.wo L g+i*Sm.bl L f v+j*Sm.bl L g v+i*j*Sm.bl L f g:=by
 simp only[Sm.wo,Sm.bl,ad,mt,rp,tb,sl]
 grind
theorem Eb.done {L:F6}(h:Eb L p q r q r)(h1:Sm.wo L p<=Sm.wo L q)(h2:Sm.wo L q<=Sm.wo L r):Io L p q r:=by
 obtain⟨t1,t2,a,b,c,d⟩:=h
 have b1:=b.le
 have c1:=c.le
 have d1:=d.le
 rcases a with ⟨_,a⟩|⟨a,_⟩
 ·rcases b with ⟨rfl,b⟩|⟨b,_⟩
  ·rcases c with ⟨rfl,c⟩|⟨c,_⟩
   ·rcases d with ⟨_,d⟩|⟨d,_⟩
    ·have n1:=d 1 1 (.inl rfl) (.inl rfl)
     have n2:=d 1 (-1) (.inl rfl) (.inr rfl)
     have n3:=d (-1) 1 (.inr rfl) (.inl rfl)
     have n4:=d (-1) (-1) (.inr rfl) (.inr rfl)
     rw[KA] at n1 n2 n3 n4
     exact⟨h1,h2,a,b,c,by omega,by omega,by omega,by omega⟩
    ·omega
   ·omega
  ·omega
 ·omega
theorem Ir (p q r:P3)(k:Int):me ⟨p,ad q (mt p k),r⟩=me ⟨p,q,r⟩:=by
 rw[cg,cg]
 simp only[ad,mt]
 grind
theorem KC (p q r:P3)(i j:Int):me ⟨p,q,ad (ad r (mt p i)) (mt q j)⟩=me ⟨p,q,r⟩:=by
 rw[cg,cg]
 simp only[ad,mt]
 grind
theorem KD (p q r:P3)(i:Int):me ⟨p,q,ad r (mt p i)⟩=me ⟨p,q,r⟩:=by
 rw[cg,cg]
 simp only[ad,mt]
 grind
theorem KG (p q r:P3)(i:Int):me ⟨p,q,ad r (mt q i)⟩=me ⟨p,q,r⟩:=by
 rw[cg,cg]
 simp only[ad,mt]
 grind
structure xx (a b c s t u:Int)(L:F6)(M N:Int)(l:List P3):Prop where
 len:l.length=3
 mem:∀ p∈l,iZ a b c s t u p/\Sm.wo L p<=M
 mq:mq l=N*N
theorem xx.perm {L:F6}{M N:Int}{l l':List P3}(S:xx a b c s t u L M N l)(h:l'.Perm l):xx a b c s t u L M N l':=
 ⟨h.length_eq.trans S.len,fun p hp=>S.mem p (h.mem_iff.mp hp),(GW h []).trans S.mq⟩
theorem xx.shr {L:F6}{M N:Int}{q' r':P3}(F:m5 a b c s t u)(S:xx a b c s t u L M N [p,q,r])(h:Eb L p q r q' r'):xx a b c s t u L M N [p,q',r']:=by
 have le:=h.le
 obtain⟨t1,t2,a,b,c,d⟩:=h
 obtain⟨p1,p2⟩:=S.mem p (by simp)
 obtain⟨q1,q2⟩:=S.mem q (by simp)
 obtain⟨r1,r2⟩:=S.mem r (by simp)
 obtain⟨k1,rfl⟩:=a.BJ
 obtain⟨k2,rfl⟩:=b.BJ
 obtain⟨k3,rfl⟩:=c.BJ
 obtain⟨i,j,rfl⟩:=d.BJ
 have Q:=q1.add F p1 k1
 refine⟨rfl,fun x hx=>?_,?_⟩
 ·simp only[ZI,aas,abE] at hx
  rcases hx with rfl|rfl|rfl
  ·exact⟨p1,p2⟩
  ·exact⟨Q,by omega⟩
  ·exact⟨(((r1.add F p1 k2).add F Q k3).add F p1 i).add F Q j,by omega⟩
 ·have:=S.mq
  show me _*me _=_
  rw[KC,KG,KD,Ir]
  exact this
theorem Ec {p q r:P3}(h:me ⟨p,q,r⟩≠0):Nz p/\Nz q/\Nz r:=by
 rw[cg] at h
 refine⟨aaK fun z=>h ?_,aaK fun z=>h ?_,aaK fun z=>h ?_⟩
 all_goals
  unfold Nz at z
 ·obtain⟨e1,e2,e3⟩:p.x=0/\p.y=0/\p.z=0:=by omega
  rw[e1,e2,e3];grind
 ·obtain⟨e1,e2,e3⟩:q.x=0/\q.y=0/\q.z=0:=by omega
  rw[e1,e2,e3];grind
 ·obtain⟨e1,e2,e3⟩:r.x=0/\r.y=0/\r.z=0:=by omega
  rw[e1,e2,e3];grind
theorem xx.nz {A B C M N:Int}{l:List P3}(S:xx a b c s t u (dg A B C) M N l)(N0:0<N):∀ v∈l,Nz v:=by
 match l,S.len with
 | [p,q,r],_=>
  have:=S.mq
  have m0:me ⟨p,q,r⟩≠0:=fun z=>by
   have e:me ⟨p,q,r⟩*me ⟨p,q,r⟩=N*N:=this
   rw[z] at e
   have:=aat N0 N0
   omega
  obtain⟨h1,h2,h3⟩:=Ec m0
  intro v hv
  simp only[ZI,aas,abE] at hv
  rcases hv with rfl|rfl|rfl<;>assumption
theorem KH {e:P3->Bool}{B B':P3->Prop}(F:m5 a b c s t u)(n0:a*b*c≠0)(h1:jc a b c s t u p)(h2:jc a b c s t u q)(h3:jc a b c s t u r)(hm:me ⟨p,q,r⟩=a*b*c)
  (he:∀ v,jc a b c s t u v->(e v=true↔2*(a*b*c)∣Sm.wo (dg a b c) v)) (b1:B p) (b2:B q) (b3:B r) (k1:∀ x,B x->B' x) (k2:∀ x,B x->B' (mt x 2)) (k3:∀ x y,B x->B y->B' (ad x y)) :
  ∃ o os,[p,q,r].filter (fun v=>!e v)=o::os/\∀ l,l=[p,q,r].filter e++[mt o 2]++os.map (fun v=>ad v o)->l.length=3/\(∀ v∈l,iZ a b c s t u v/\B' v)/\mq l=2*(a*b*c)*(2*(a*b*c)):=by
 have ev:∀ v,jc a b c s t u v->B v->e v=true->iZ a b c s t u v/\B' v:=fun v l bv h=>⟨⟨l,(he v l).mp h⟩,k1 v bv⟩
 have tw:∀ v,jc a b c s t u v->B v->iZ a b c s t u (mt v 2)/\B' (mt v 2):=fun v l bv=>⟨iZ.two F l,k2 v bv⟩
 have od:∀ v w,jc a b c s t u v->jc a b c s t u w->B v->B w->e v=false->e w=false->iZ a b c s t u (ad v w)/\B' (ad v w):=fun v w l m bv bw x y=>
  ⟨iZ.sum F l m n0 (fun z=>by rw[(he v l).mpr z] at x;cases x) (fun z=>by rw[(he w m).mpr z] at y;cases y),k3 v w bv bw⟩
 have sq:∀ {x:Int},(x=2*me ⟨p,q,r⟩\/x=-(2*me ⟨p,q,r⟩))->x*x=2*(a*b*c)*(2*(a*b*c)):=fun {x} h=>by
  rw[<- hm]
  rcases h with rfl|rfl
  ·rfl
  ·rw[abp]
 have three:∀ {x y z:P3},iZ a b c s t u x/\B' x->iZ a b c s t u y/\B' y->iZ a b c s t u z/\B' z->(me ⟨x,y,z⟩=2*me ⟨p,q,r⟩\/me ⟨x,y,z⟩=-(2*me ⟨p,q,r⟩)) ->
   ∀ l,l=[x,y,z]->l.length=3/\(∀ v∈l,iZ a b c s t u v/\B' v)/\mq l=2*(a*b*c)*(2*(a*b*c)):=fun {x y z} hx hy hz m l e=>by
  subst e
  refine⟨rfl,fun v hv=>?_,sq m⟩
  simp only[ZI,aas,abE] at hv
  rcases hv with rfl|rfl|rfl<;>assumption
 cases ep:e p<;>cases eq:e q<;>cases er:e r
 ·refine⟨p,[q,r],by simp[List.filter,ep,eq,er],fun l hl=>three (tw p h1 b1) (od q p h2 h1 b2 b1 eq ep) (od r p h3 h1 b3 b1 er ep) ?_ l (by rw[hl];simp[List.filter,ep,eq,er])⟩
  left;rw[cg,cg];simp only[mt,ad];grind
 ·refine⟨p,[q],by simp[List.filter,ep,eq,er],fun l hl=>three (ev r h3 b3 er) (tw p h1 b1) (od q p h2 h1 b2 b1 eq ep) ?_ l (by rw[hl];simp[List.filter,ep,eq,er])⟩
  left;rw[cg,cg];simp only[mt,ad];grind
 ·refine⟨p,[r],by simp[List.filter,ep,eq,er],fun l hl=>three (ev q h2 b2 eq) (tw p h1 b1) (od r p h3 h1 b3 b1 er ep) ?_ l (by rw[hl];simp[List.filter,ep,eq,er])⟩
  right;rw[cg,cg];simp only[mt,ad];grind
 ·refine⟨p,[],by simp[List.filter,ep,eq,er],fun l hl=>three (ev q h2 b2 eq) (ev r h3 b3 er) (tw p h1 b1) ?_ l (by rw[hl];simp[List.filter,ep,eq,er])⟩
  left;rw[cg,cg];simp only[mt,ad];grind
 ·refine⟨q,[r],by simp[List.filter,ep,eq,er],fun l hl=>three (ev p h1 b1 ep) (tw q h2 b2) (od r q h3 h2 b3 b2 er eq) ?_ l (by rw[hl];simp[List.filter,ep,eq,er])⟩
  left;rw[cg,cg];simp only[mt,ad];grind
 ·refine⟨q,[],by simp[List.filter,ep,eq,er],fun l hl=>three (ev p h1 b1 ep) (ev r h3 b3 er) (tw q h2 b2) ?_ l (by rw[hl];simp[List.filter,ep,eq,er])⟩
  right;rw[cg,cg];simp only[mt,ad];grind
 ·refine⟨r,[],by simp[List.filter,ep,eq,er],fun l hl=>three (ev p h1 b1 ep) (ev q h2 b2 eq) (tw r h3 b3) ?_ l (by rw[hl];simp[List.filter,ep,eq,er])⟩
  left;rw[cg,cg];simp only[mt,ad];grind
 ·exact (D8 F h1 h2 h3 n0 (by rw[hm]) ((he p h1).mp ep) ((he q h2).mp eq) ((he r h3).mp er)).elim
structure L4 (L:F6)(Ps Qs:List P3):Prop where
 perm:Qs.Perm Ps
 rise:Qs.Pairwise fun x y=>Sm.wo L x<=Sm.wo L y
 first:∀ p,Ps[0]?=some p->(∀ q∈Ps,Sm.wo L p<=Sm.wo L q)->Qs[0]?=some p
theorem L4.head {L:F6}{Ps Qs:List P3}(R:L4 L (p::Ps) Qs):∃ x rest,Qs=x::rest/\((x=p/\∀ y∈Ps,Sm.wo L p<=Sm.wo L y)\/(x∈Ps/\Sm.wo L x<Sm.wo L p)):=by
 match Qs,R with
 | [],R=>have:=R.perm.length_eq;simp at this
 | x::rest,R=>
  refine⟨x,rest,rfl,?_⟩
  by_cases h:∀ y∈Ps,Sm.wo L p<=Sm.wo L y
  ·have:=R.first p rfl fun y hy=>by
    rcases ZI.mp hy with rfl|hy
    ·exact aaV _
    ·exact h y hy
   exact .inl ⟨ZG this,h⟩
  ·have ⟨y,hy⟩:=Classical.not_forall.mp h
   have ⟨hm,lt⟩:=Classical.not_imp.mp hy
   have my:y∈x::rest:=R.perm.mem_iff.mpr (.tail _ hm)
   have le:Sm.wo L x<=Sm.wo L y:=by
    rcases ZI.mp my with rfl|z
    ·exact aaV _
    ·exact (aaY.mp R.rise).1 y z
   have lt':Sm.wo L x<Sm.wo L p:=by omega
   refine .inr ⟨?_,lt'⟩
   rcases ZI.mp (R.perm.mem_iff.mp (.head _)) with z|z
   ·rw[z] at lt';omega
   ·exact z
theorem L4.three {L:F6}{Ps Qs:List P3}(R:L4 L Ps Qs)(h:Ps.length=3):∃ p q r,Qs=[p,q,r]/\Sm.wo L p<=Sm.wo L q/\Sm.wo L q<=Sm.wo L r:=by
 have hl:=R.perm.length_eq
 rw[h] at hl
 match Qs,hl,R.rise with
 | [p,q,r],_,H=>
  have h1:=aaY.mp H
  exact⟨p,q,r,rfl,h1.1 q (by simp),(aaY.mp h1.2).1 r (by simp)⟩
theorem Ed {a b c A B C:Int}(hA:A=a\/A=-a)(hB:B=b\/B=-b)(hC:C=c\/C=-c)(A0:0<A)(B0:0<B)(C0:0<C){v:P3}(h0:Sm.wo (dg a b c) v=0)(hN:Sm.wo (dg A B C) v<=2*(A*B*C)) :
  v.x*v.x<=B*C/\v.y*v.y<=A*C/\v.z*v.z<=A*B:=by
 rw[iC] at h0 hN
 have x0:=ZO (Z1 A0) (eT v.x)
 have y0:=ZO (Z1 B0) (eT v.y)
 have z0:=ZO (Z1 C0) (eT v.z)
 have e1:a*(v.x*v.x)=A*(v.x*v.x)\/a*(v.x*v.x)=-(A*(v.x*v.x)):=by
  rcases hA with h|h
  ·left;rw[h]
  ·right;rw[h,aaS,ada]
 have e2:b*(v.y*v.y)=B*(v.y*v.y)\/b*(v.y*v.y)=-(B*(v.y*v.y)):=by
  rcases hB with h|h
  ·left;rw[h]
  ·right;rw[h,aaS,ada]
 have e3:c*(v.z*v.z)=C*(v.z*v.z)\/c*(v.z*v.z)=-(C*(v.z*v.z)):=by
  rcases hC with h|h
  ·left;rw[h]
  ·right;rw[h,aaS,ada]
 have f1:A*B*C=A*(B*C):=by grind
 have f2:A*B*C=B*(A*C):=by grind
 have f3:A*B*C=C*(A*B):=by grind
 refine⟨acU ?_ A0,acU ?_ B0,acU ?_ C0⟩
 ·rw[<- f1];omega
 ·rw[<- f2];omega
 ·rw[<- f3];omega
theorem KI {A B C M:Int}(A0:0<A)(B0:0<B)(C0:0<C){v:P3}(h:Sm.wo (dg A B C) v<=M):(-M<=v.x/\v.x<=M)/\(-M<=v.y/\v.y<=M)/\(-M<=v.z/\v.z<=M):=by
 rw[iC] at h
 have one:∀ {A x:Int},0<A->(-(A*(x*x))<=x/\x<=A*(x*x))/\0<=A*(x*x):=fun {A x} A0=>by
  have n:=eT x
  have h1:x*x<=A*(x*x):=by
   have:=aak (show 1<=A by omega) n
   omega
  have h2:-(x*x)<=x/\x<=x*x:=by
   rcases ab1 x 0 with z|z|z
   ·have:=ZS (show 1<=-x by omega) (show 0<=-x by omega)
    have e:-x*-x=x*x:=abp x x
    omega
   ·subst z;omega
   ·have:=ZS (show 1<=x by omega) (show 0<=x by omega)
    omega
  omega
 have a1:=one (x:=v.x) A0
 have b1:=one (x:=v.y) B0
 have c1:=one (x:=v.z) C0
 omega
theorem Ee {A B C m M:Int}(A0:0<A)(B0:0<B)(C0:0<C)(hA:A<=m)(hB:B<=m)(hC:C<=m){v:P3}(hx:-M<=v.x/\v.x<=M)(hy:-M<=v.y/\v.y<=M)(hz:-M<=v.z/\v.z<=M):Sm.wo (dg A B C) v<=3*(m*(M*M)):=by
 rw[iC]
 have one:∀ {A x:Int},0<A->A<=m->-M<=x->x<=M->A*(x*x)<=m*(M*M):=fun {A x} A0 Am h1 h2=>by
  have sq:x*x<=M*M:=by
   have:=ZO (show 0<=M-x by omega) (show 0<=M+x by omega)
   have e:(M-x)*(M+x)=M*M-x*x:=by grind
   omega
  exact aaJ Am sq (eT x) (by omega)
 have a1:=one A0 hA hx.1 hx.2
 have b1:=one B0 hB hy.1 hy.2
 have c1:=one C0 hC hz.1 hz.2
 omega
end
end Pn
namespace wu
open PySem PySem.SetTable
def Up (xs:Array Nat):Prop:=∀ i j,(xF:i<j)->(h:j<xs.size)->xs[i]'(aec xF h)<xs[j]
theorem qC {xs:Array Nat}(u:Up xs)(j:Nat):∀ (f lo hi:Nat),hi<=xs.size->hi-lo<=f->lo<=hi->(∀ i,i<lo->(h:i<xs.size)->xs[i]<j)->(∀ i,hi<=i->(h:i<xs.size)->j<=xs[i]) ->
  let r:=below.go xs j f lo hi
  r<=xs.size/\(∀ i,i<r->(h:i<xs.size)->xs[i]<j)/\(∀ i,r<=i->(h:i<xs.size)->j<=xs[i])
 | 0,lo,hi,h1,h2,h3,ha,hb=>by
  have e:lo=hi:=by omega
  subst e
  exact⟨h1,ha,hb⟩
 | f+1,lo,hi,h1,h2,h3,ha,hb=>by
  unfold below.go
  by_cases c:lo<hi
  ·rw[aag c]
   have hm:(lo+hi) / 2<xs.size:=by omega
   have e:xs.getD ((lo+hi) / 2) j=xs[(lo+hi) / 2]:=by
    rw[abW,Z8 hm]
    rfl
   dsimp only
   rw[e]
   by_cases d:xs[(lo+hi) / 2]<j
   ·rw[aag d]
    refine qC u j f _ hi h1 (by omega) (by omega) (fun i Cb h=>?_) hb
    by_cases q:i=(lo+hi) / 2
    ·subst q;exact d
    ·have:=u i ((lo+hi) / 2) (by omega) hm
     omega
   ·rw[Z4 d]
    refine qC u j f lo _ (by omega) (by omega) (by omega) ha (fun i Cb h=>?_)
    by_cases q:i=(lo+hi) / 2
    ·subst q;omega
    ·have:=u ((lo+hi) / 2) i (by omega) h
     omega
  ·rw[Z4 c]
   have e:lo=hi:=by omega
   subst e
   exact⟨h1,ha,hb⟩
theorem lh {xs:Array Nat}(u:Up xs)(j:Nat):below xs j<=xs.size/\(∀ i,i<below xs j->(h:i<xs.size)->xs[i]<j)/\(∀ i,below xs j<=i->(h:i<xs.size)->j<=xs[i]):=
 qC u j xs.size 0 xs.size (ZL _) (by omega) (by omega) (fun i h=>absurd h (Nat.not_lt_zero i)) fun i h h'=>by omega
theorem yx {xs:Array Nat}(u:Up xs){i:Nat}(h:i<xs.size):below xs (xs[i]+1)=i+1:=by
 obtain⟨a,b,c⟩:=lh u (xs[i]+1)
 have h1:¬ below xs (xs[i]+1)<=i:=fun z=>by have:=c i z h;omega
 have h2:¬ i+1<below xs (xs[i]+1):=fun z=>by
  have h3:i+1<xs.size:=by omega
  have:=b (i+1) z h3
  have:=u i (i+1) (by omega) h3
  omega
 omega
theorem yy {xs:Array Nat}(u:Up xs):below xs 0=0:=by
 obtain⟨a,b,c⟩:=lh u 0
 by_cases z:below xs 0=0
 ·exact z
 ·have:=b 0 (by omega) (by omega)
  omega
theorem o7 {α:Type}(xs:Array α)(p:Nat)(x:α):(insertAt xs p x).toList=xs.toList.take p++x::xs.toList.drop p:=by
 unfold insertAt
 simp
 exact aco (by simp)
theorem ui {xs:Array Nat}:Up xs↔xs.toList.Pairwise (·<·):=by
 rw[List.pairwise_iff_getElem]
 constructor
 ·intro u i j hi hj xF
  exact u i j xF (by simpa using hj)
 ·intro u i j xF h
  exact u i j (by simpa using aec xF h) (by simpa using h) xF
theorem BK {xs:Array Nat}(u:Up xs){j:Nat}(hj:xs[below xs j]?≠some j):Up (insertAt xs (below xs j) j):=by
 obtain⟨a,b,c⟩:=lh u j
 have ul:=ui.mp u
 rw[ui,o7]
 have c':∀ y∈xs.toList.drop (below xs j),j<y:=fun y hy=>by
  obtain⟨i,hi,rfl⟩:=aaU hy
  rw[List.getElem_drop]
  have hs:below xs j+i<xs.size:=by
   rw[List.length_drop,aac] at hi
   omega
  have h1:=c (below xs j+i) (by omega) hs
  by_cases z:i=0
  ·subst z
   have h2:xs[below xs j]≠j:=fun z=>hj (by rw[Z8 (by omega),z])
   have h3:=c (below xs j) (by omega) (by omega)
   have h4:xs[below xs j]=xs[below xs j+0]:=rfl
   show j<xs[below xs j+0]
   omega
  ·have h2:=u (below xs j) (below xs j+i) (by omega) hs
   have h3:=c (below xs j) (by omega) (by omega)
   show j<xs[below xs j+i]
   omega
 have b':∀ y∈xs.toList.take (below xs j),y<j:=fun y hy=>by
  obtain⟨i,hi,rfl⟩:=aaU hy
  rw[List.getElem_take]
  rw[abk,aac] at hi
  exact b i (by omega) (by omega)
 rw[List.pairwise_append]
 refine⟨ul.take,aaY.mpr ⟨c',ul.drop⟩,fun x hx y hy=>?_⟩
 rcases ZI.mp hy with rfl|hy
 ·exact b' x hx
 ·exact aec (b' x hx) (c' y hy)
structure Good (b:Bool)(t:SetTable):Prop where
 up:Up t.place
 no:t.dummies=#[]
 led:t.led=b
theorem yA (f m:Nat)(b:Bool):Good b (.fresh f m b):=⟨fun i j xF h=>absurd h (Nat.not_lt_zero j),rfl,rfl⟩
theorem Ef (n:Nat):Up (Array.range n):=by
 rw[ui,Array.toList_range]
 exact List.pairwise_lt_range
theorem gN {b:Bool}{t:SetTable}(g:Good b t)(n:Nat):Good b (t.standIn n):=⟨Ef n,rfl,g.led⟩
theorem qD {b:Bool}{t:SetTable}(g:Good b t)(n:Nat):Good b (t.orStandIn n):=by
 unfold SetTable.orStandIn
 split
 ·exact g
 ·exact gN g n
theorem yB {b:Bool}{t:SetTable}(g:Good b t)(p:Bool):Good b { t with plain:=p }:=⟨g.up,g.no,g.led⟩
theorem has_none (j:Nat):SetTable.has #[] j=false:=rfl
theorem Eg {b:Bool}{t:SetTable}(g:Good b t){j:Nat}(hj:t.slot j=.empty):Good b (t.put j).1:=by
 have hn:t.place[below t.place j]?≠some j:=fun z=>by
  unfold SetTable.slot at hj
  dsimp only at hj
  rw[aag (by rw[z];exact ade _)] at hj
  cases hj
 refine⟨BK g.up hn,?_,g.led⟩
 unfold SetTable.put
 dsimp only
 rw[g.no,has_none]
 rfl
theorem wx {b:Bool}{t:SetTable}(g:Good b t){f:Nat->Int}{h:Int}:∀ (n:Nat) (p:Probe),p.dummy=none->∀ j d,probe.go t f h n p=some (.empty j d)->d=none/\t.slot j=.empty
 | 0,p,_,j,d,e=>by cases e
 | n+1,p,hp,j,d,e=>by
  unfold probe.go at e
  have Sg:(t.advance p).dummy=none:=by
   unfold SetTable.advance
   split
   ·exact hp
   ·exact hp
  cases hs:t.slot p.j with
  | empty=>
   rw[hs] at e
   cases e
   exact⟨hp,hs⟩
  | dummy=>
   unfold SetTable.slot at hs
   dsimp only at hs
   rw[g.no,has_none] at hs
   split at hs<;>cases hs
  | live i=>
   rw[hs] at e
   dsimp only at e
   split at e
   ·cases e
   ·exact wx g n _ Sg j d e
theorem BL {b:Bool}{t:SetTable}(g:Good b t){h:Int}{j:Nat}{d:Bool}(e:t.freeSlot h=some (j,d)):t.slot j=.empty:=by
 unfold SetTable.freeSlot at e
 split at e
 ·rename_i j' d' hp
  obtain⟨rfl,z⟩:=wx g _ _ rfl _ _ hp
  cases e
  exact z
 ·cases e
theorem wy {b:Bool}{t:SetTable}(g:Good b t)(es:Array (Int × Value))(h:Int)(x:Value):Good b (layNew t es h x).2.1:=by
 unfold layNew
 split
 ·rename_i slot d e
  exact qD (Eg g (BL g e)) _
 ·exact gN g _
theorem wz {b:Bool}{t:SetTable}(g:Good b t){hs:Array Int}{n:Nat}{t':SetTable}{o:Array Nat}(e:t.relaid hs n=some (t',o)):Good b t':=by
 unfold SetTable.relaid SetTable.laid at e
 cases q:layClean (sizeAbove n-1) hs with
 | none=>rw[q] at e;cases e
 | some owner=>
  rw[q] at e
  cases e
  refine⟨?_,rfl,g.led⟩
  rw[ui]
  dsimp only
  rw[abZ,List.pairwise_filterMap]
  refine List.Pairwise.imp (fun {a c} WI x hx y hy=>?_) List.pairwise_lt_range
  obtain⟨v,_,rfl⟩:=Option.map_eq_some_iff.mp hx
  obtain⟨v',_,rfl⟩:=Option.map_eq_some_iff.mp hy
  exact WI
theorem rZ {b:Bool}{t:SetTable}(g:Good b t)(es:Array (Int × Value))(n:Nat):Good b (relayAll t es n).2.1:=by
 unfold relayAll
 split
 ·rename_i t' o e
  dsimp only
  split
  ·exact wz g e
  ·exact gN g _
 ·exact gN g _
end wu
namespace wu
open PySem
def kK (prog:Program)(w:World)(b:Bool)(h:Heap)(a:Addr)(S:Int->Bool)(n:Nat):Prop:=
 ∃ o es ep t,h.get? a=some o/\o.ExactSet/\o.data=.set es ep t/\ElemsOf (intKind prog w) es.toList/\(∀ k,S k=true↔∃ e∈es.toList,(intKind prog w).is k e.2=true)/\es.size<scanBound/\t.fits es.size=true/\es.size=n/\Good b t
section
variable {prog:Program}{w:World}{A:Around}{E:Value->Shared->Prop}{s:Shared}{b:Bool}
theorem qE {h:Heap}{a:Addr}{o:Obj}{es:Array (Int × Value)}{ep:Nat}{t:SetTable}(ho:h.get? a=some o)(hex:o.ExactSet)(hd:o.data=.set es ep t)
  {AL:Array (Int × Value)}{t':SetTable}{S':Int->Bool} (xu:ElemsOf (intKind prog w) AL.toList) (o8:∀ k,S' k=true↔∃ e∈AL.toList,(intKind prog w).is k e.2=true) (hb:AL.size<scanBound) (hf:t'.fits AL.size=true) (g:Good b t') :
  (h.update a (Obj.putSet AL t')).get? a=some { o with data:=.set AL (ep+1) t' }/\kK prog w b (h.update a (Obj.putSet AL t')) a S' AL.size:=by
 obtain⟨h1,_⟩:=SetOf_store (knd:=intKind prog w) (S':=S') ho hex hd xu o8 hb hf
 exact⟨h1,_,AL,ep+1,t',h1,hex,rfl,xu,o8,hb,hf,rfl,g⟩
theorem Iu {q:Bool->Sem Unit}(hq:∀ (c:Bool) (s₁:Shared) (Q':Unit->Shared->Prop),Q' () s₁->wpAny (model prog w) A (q c) Q' E s₁)
  {a:Addr}{o:Obj}{es:Array (Int × Value)}{ep:Nat}{t:SetTable} (ho:s.heap.get? a=some o) (hex:o.ExactSet) (hd:o.data=.set es ep t)
  {oK:Array (Int × Value)}{t2:SetTable}{S':Int->Bool} (Ob:ElemsOf (intKind prog w) oK.toList) (Iv:∀ k',S' k'=true↔∃ e∈oK.toList,(intKind prog w).is k' e.2=true)
  (KJ:oK.size<scanBound) (Si:t2.fits oK.size=true) (g2:Good b t2) {wA:Bool}{R:Option Bool->Shared->Prop}
  (h:∀ h',Heap.SameBut a s.heap h'->kK prog w b h' a S' oK.size->R (some true) { s with heap:=h' }) :
  wpAny (model prog w) A (do
    storeSet a oK t2
    if (!wA&&t2.tooFull)=true then do
      q (relayAll t2 oK (SetTable.grown oK.size)).2.2
      storeSet a (relayAll t2 oK (SetTable.grown oK.size)).1 (relayAll t2 oK (SetTable.grown oK.size)).2.1
      pure (some true)
     else pure (some true)) R E s:=by
 refine ZD (wpAny_storeSet_of ho hd ?_ (adX KJ))
 obtain⟨UI,Oc⟩:=qE ho hex hd Ob Iv KJ Si g2
 have UJ:=aam s.heap a (Obj.putSet oK t2)
 split
 ·have hp:=relayAll_perm t2 oK (SetTable.grown oK.size)
  have JU:=relayAll_fits t2 oK (SetTable.grown oK.size)
  have gr:=rZ g2 oK (SetTable.grown oK.size)
  generalize relayAll t2 oK (SetTable.grown oK.size)=Rl at hp JU gr ⊢
  obtain⟨WJ,t3,Sj⟩:=Rl
  dsimp only at hp JU gr ⊢
  have zE:WJ.size=oK.size:=by rw[<- aac,hp.length_eq,aac]
  refine ZD (hq _ _ _ (ZD (wpAny_storeSet_of UI rfl ?_ (adX (by rw[zE];exact KJ)))))
  obtain⟨_,PX⟩:=qE (S':=S') UI hex rfl (Ob.perm hp) (fun k'=>(Iv k').trans ⟨fun ⟨e,he,z⟩=>⟨e,hp.mem_iff.mpr he,z⟩,fun ⟨e,he,z⟩=>⟨e,hp.mem_iff.mp he,z⟩⟩) (by rw[zE];exact KJ) JU gr
  rw[zE] at PX
  exact ZF (h _ (UJ.trans (aam _ a _)) PX)
 ·exact ZF (h _ UJ Oc)
theorem Sk {a:Addr}{S:Int->Bool}{n:Nat}{k:Int}{x:Value}{Q:Bool->Shared->Prop}(xI:(intKind prog w).is k x=true)(PY:x.scannable=true)(hS:kK prog w b s.heap a S n)(Dk:n+1<scanBound)
  (h:∀ h',Heap.SameBut a s.heap h'->kK prog w b h' a (fun k'=>S k' || decide (k'=k)) (if S k then n else n+1)->Q (!S k) { s with heap:=h' }) :
  wpAny (model prog w) A (setAddHashed a x ((intKind prog w).hash k)) Q E s:=by
 obtain⟨o,es,ep,t,ho,hex,hd,xu,o8,hb,hf,hn,g⟩:=hS
 unfold setAddHashed setAddHashedIn
 refine aaj (ZD (abJ ho hd hf ?_))
 dsimp only
 rw[byScan_of PY hb xu]
 simp only[↓reduceIte]
 unfold setAddByScan
 refine ZD (ZD (abK (ZD (wpAny_setScan_of xI ho hd hf xu ?_))))
 cases hr:List.findIdx? (fun e=>(intKind prog w).is k e.2) es.toList with
 | some j=>
  dsimp only
  obtain⟨hj,WK,_⟩:=List.findIdx?_eq_some_iff_getElem.mp hr
  have hk:S k=true:=(o8 k).mpr ⟨es.toList[j],abl hj,WK⟩
  have z:=h s.heap (adZ a s.heap) ⟨o,es,ep,t,ho,hex,hd,xu,fun k'=>by
   rw[acI,decide_eq_true_eq,<- o8 k']
   exact⟨fun y=>y.elim id (fun e=>e▸hk),.inl⟩,hb,hf,by rw[hk];exact hn,g⟩
  rw[hk] at z
  exact ZF (ZF z)
 | none=>
  dsimp only
  have hk:S k=false:=by
   cases c:S k with
   | false=>rfl
   | true=>
    obtain⟨e,he,hp⟩:=(o8 k).mp c
    have:=List.findIdx?_eq_none_iff.mp hr e he
    rw[hp] at this
    cases this
  have oM:=layNew_perm t es ((intKind prog w).hash k) x
  have wB:=layNew_fits t es ((intKind prog w).hash k) x
  have gl:=wy g es ((intKind prog w).hash k) x
  generalize layNew t es ((intKind prog w).hash k) x=L at oM wB gl ⊢
  obtain⟨oK,t1,wA,Sj⟩:=L
  dsimp only at oM wB gl ⊢
  rw[Array.toList_push] at oM
  have sz:oK.size=n+1:=by rw[<- aac,oM.length_eq,aaN,aac,hn];rfl
  have KJ:oK.size<scanBound:=by rw[sz];exact Dk
  have fin:∀ h',Heap.SameBut a s.heap h'->kK prog w b h' a (fun k'=>S k' || decide (k'=k)) oK.size->Q true { s with heap:=h' }:=fun h' sb z=>by
   have y:=h h' sb
   rw[hk] at y
   rw[sz] at z
   exact y z
  have hq:∀ (c:Bool) (s₁:Shared) (Q':Unit->Shared->Prop),Q' () s₁->wpAny (model prog w) A (match c with|true=>rule "set.scan.the-table-gave-way" | false=>pure ()) Q' E s₁:=fun c s₁ Q' y=>by
   cases c
   ·exact ZF y
   ·exact abK y
  refine ZD (hq _ _ _ ?_)
  split
  ·refine ZD ?_
   rw[hashByValue_scannable 8 PY]
   refine ZF ?_
   refine Iu hq ho hex hd ((xu.push xI PY).perm oM) (mem_push_iff xI o8 oM) KJ ?_ ?_ fun h' sb z=>ZF (fin h' sb z)
   ·split
    ·exact wB
    ·exact SetTable.fits_plain_off wB
   ·split
    ·exact gl
    ·exact yB gl false
  ·refine ZD (ZF ?_)
   simp only[↓reduceIte]
   exact Iu hq ho hex hd ((xu.push xI PY).perm oM) (mem_push_iff xI o8 oM) KJ wB gl fun h' sb z=>ZF (fin h' sb z)
end
end wu
namespace wu
open PySem PyProof.Rows
abbrev rJ (w:World):Bool:=w.params.followText "set-order"
abbrev uj (w:World):Obj:={ cls:=.type "set",dict:=none,data:=.set #[] 0 (.fresh 0 0 (!rJ w)) }
theorem kK.congr {prog:Program}{w:World}{b:Bool}{h:Heap}{a:Addr}{S S':Int->Bool}{n n':Nat}(g:kK prog w b h a S n)(e:∀ k,S k=S' k)(en:n=n'):kK prog w b h a S' n':=by
 have:S=S':=funext e
 subst this en
 exact g
theorem kK.keeps {prog:Program}{w:World}{b:Bool}{h h':Heap}{a:Addr}{S:Int->Bool}{n:Nat}(g:kK prog w b h a S n)(k:∀ o,h.get? a=some o->h'.get? a=some o):kK prog w b h' a S n:=
 let ⟨o,es,ep,t,h1,r⟩:=g;⟨o,es,ep,t,k _ h1,r⟩
section
variable {prog:Program}{w:World}{A:Around}{E:Value->Shared->Prop}{s:Shared}{b:Bool}
theorem Iw {R:Result->Shared->Prop}{I:Addr}{fp wr:List Addr}{G:Array GenState->Array GenState->Prop}{n:Nat}{P:Nat->Value->Prop}{St:Nat->Shared->Prop}
  (W:WalksS prog w A.in1 I fp wr G n P St) (S:Addr) (GX:S∉fp) (val:Nat->Int) (GY:∀ i v,P i v->∃ t,v=.int (val i) t) (hb:n+1<scanBound):∀ (k i:Nat) (s:Shared),n-i=k->i<=n->St i s ->
   kK prog w b s.heap S (fun k'=>(firstMet val i).any (·==k')) (firstMet val i).length ->
   (∀ s',Moved (S::wr) G s s'->kK prog w b s'.heap S (fun k'=>(firstMet val n).any (·==k')) (firstMet val n).length->R (.ok (.ret .none)) s') ->
   codeAny (model prog w) A (.builtin "set.update.loop" ⟨[.ref S,.ref I],[]⟩) R s
 | 0,i,s,hk,hi,st,hS,hR=>by
  obtain rfl:i=n:=by omega
  refine abM F.entry_set_update_loop ?_
  rw[abI adJ _]
  show wpAny _ A.in1 (pyNext (.ref I) >>= _) _ _ s
  refine ZD (W.done s _ _ st fun s' hm=>?_)
  show wpAny _ A.in1 (ret Value.none) _ _ s'
  exact ZF (hR s' (hm.mono fun b hb=>aav _ hb) (hS.keeps fun o e=>hm.heap S o (fun z=>GX (W.sub _ z)) e))
 | k+1,i,s,hk,hi,st,hS,hR=>by
  have lt:i<n:=by omega
  refine abM F.entry_set_update_loop ?_
  rw[abI adJ _]
  show wpAny _ A.in1 (pyNext (.ref I) >>= _) _ _ s
  refine ZD (W.item i s _ _ lt st fun v s' hP vz hm=>?_)
  obtain⟨t,rfl⟩:=GY i v hP
  have BM:=hS.keeps (h':=s'.heap) fun o e=>hm.heap S o (fun z=>GX (W.sub _ z)) e
  show wpAny _ A.in1 (holding [Value.int (val i) t] (setAdd S (.int (val i) t)) >>= _) _ _ s'
  refine ZD (aaj ?_)
  unfold setAdd
  refine aaj (ZD ((intKind prog w).pyHash (k:=val i) (intKind_is _ _ _ _) ?_))
  have room:(firstMet val i).length+1<scanBound:=by have:=firstMet_length_le val i;omega
  refine Sk (s:={ s' with toks:=s'.toks+1 }) (intKind_is _ _ _ _) rfl BM room fun h' sb PX=>?_
  have WL:=PX.congr (S':=fun k'=>(firstMet val (i+1)).any (·==k')) (n':=(firstMet val (i+1)).length) (fun k'=>by rw[firstMet_succ,step_any]) (by rw[firstMet_succ,step_length])
  refine ZF ⟨adq adJ _,Iw W S GX val GY hb k (i+1) _ (by omega) lt (W.frame _ s' _ _ vz (aa3 _) fun b hb o e=>?_) WL fun xr Sl Sn=>?_⟩
  ·rw[sb.2 b fun z=>GX (by rw[<- z];exact hb)]
   exact e
  ·refine hR xr (Moved.trans W.gtrans ((hm.mono fun b hb=>aav _ hb).then_heap (aa3 _) fun b o hb e=>?_) Sl) Sn
   rw[sb.2 b fun z=>hb (by rw[z];exact aaZ)]
   exact e
theorem So (a:Value){Q₁:Value->Shared->Prop}(h:Q₁ (.ref s.heap.objs.size) { s with heap:=s.heap.push (uj w) }) :
  codeAny (model prog w) A (.call (.builtin "set.__new__") ⟨[.type "set",a],[]⟩) (wants Q₁ E) s:=by
 refine aea ?_
 show wpAny _ A.in1 (do checkBuiltinCall "set.__new__" ⟨[.type "set",a],[]⟩;again (.builtin "set.__new__" ⟨[.type "set",a],[]⟩)) _ _ s
 refine ZD (adp (PySem.F.newCall_set_1 a) (ZF ⟨adq PySem.F.plain_set_new _,abM PySem.F.entry_set_new ?_⟩))
 rw[abI PySem.F.plain_set_new _]
 unfold Builtin.«set.__new__» Builtin.Frozenset.newClass
 have Nv:=sub_set_self
 obtain⟨hp,g,d,tk,os⟩:=s
 dsimp only
 wp_walk
 refine abS (ZF ?_)
 dsimp only
 simp only[newObj]
 exact ZD (wpAny_alloc (ZF (ZF h)))
theorem BN {l:Addr}{items:Array Value}{ns:List Int}{Q:Value->Shared->Prop}(hh:A.handled=none)(hl:s.heap.IsList l items)(hi:IntsAre items.toList ns)(hb:items.size+1<scanBound)
  (h:∀ (h':Heap) (tk:Nat),kK prog w (!rJ w) h' s.heap.objs.size (fun k'=>(firstMet (fun i=>ns.getD i 0) items.size).any (·==k')) (firstMet (fun i=>ns.getD i 0) items.size).length ->
   (∀ b o,b<s.heap.objs.size->s.heap.get? b=some o->h'.get? b=some o)->Q (.ref s.heap.objs.size) { s with heap:=h',toks:=tk }) :
  wpAny (model prog w) A (call (.type "set") [.ref l]) Q E s:=by
 obtain⟨c,tl,WM⟩:=PySem.F.called_set.mro
 have UK:=PySem.F.called_set.made
 have Nv:=PySem.F.called_set.sub
 refine abL (aea ?_)
 show wpAny _ _ (callAny (.type "set") _) _ _ _
 refine ZF ⟨adg _ (by decide +kernel),abM PySem.F.entry_type_call ?_⟩
 rw[Around.under_plain (weight_type_call_type "set" [.ref l] []) rfl]
 have h1:=PySem.F.called_set.notType
 have h2:=PySem.F.called_set.canCreate
 have Zg:=PySem.F.typeCall_set_1 (.ref l)
 repeat (any_goals (first|assumption|wp_step))
 refine abO (So (.ref l) (E:=E) (Q₁:=fun obj s₁=>obj=.ref s.heap.objs.size/\s₁={ s with heap:=s.heap.push (uj w) }) ⟨rfl,rfl⟩) fun r s₁ hr=>?_
 cases r with
 | error e=>exact hr
 | ok fl=>
  cases fl with
  | ret obj=>
   obtain⟨rfl,rfl⟩:=hr
   have hS:(s.heap.push (uj w)).get? s.heap.objs.size=some (uj w):=ZN _ rfl
   have hT:Shared.TypeIs { s with heap:=s.heap.push (uj w) } (.ref s.heap.objs.size) "set":=⟨_,hS,rfl⟩
   have Zh:=PySem.F.called_set.init.lookup
   have Rz:=PySem.F.called_set.init.bind (.ref s.heap.objs.size)
   repeat (any_goals (first|assumption|wp_step))
   refine abO (abH (R:=wants (fun r s₂=>r=.none/\∃ h' tk,s₂={ s with heap:=h',toks:=tk } /\
     kK prog w (!rJ w) h' s.heap.objs.size (fun k'=>(firstMet (fun i=>ns.getD i 0) items.size).any (·==k')) (firstMet (fun i=>ns.getD i 0) items.size).length /\
     (∀ b o,b<s.heap.objs.size->s.heap.get? b=some o->h'.get? b=some o)) E) PySem.F.called_set.init.plain PySem.F.entry_set_init (check_set_init_1 hT ?_)) fun r₂ s₂ Eh=>?_
   ·obtain⟨ol,Lx,Bp,nl,Ly⟩:=hl
    obtain⟨WN,Od,UL,KL⟩:=ol
    simp only at Bp Ly
    subst Bp Ly
    have Sr:(s.heap.push (uj w)).get? l=some { cls:=.type "list",dict:=Od,data:=.seq items nl,slots:=KL }:=ZE _ Lx
    have WO:=PySem.F.sub_list_set
    have WQ:=PySem.F.sub_list_frozenset
    have lQ:(Value.type "list"==Value.type "dict")=false:=by decide
    have xy:(s.heap.push (uj w)).IsList l items:=⟨_,Sr,rfl,nl,rfl⟩
    unfold Builtin.«set.__init__» noKeywords Builtin.Frozenset.updateFrom
    generalize WR:pyIter=PI
    wp_walk
    subst WR
    refine abq xy (ZD (wpAny_runValue ?_))
    have lS:l<s.heap.objs.size:=ZH Lx
    have WT:A.in1.in1.in1.handled=none:=by simp[hh]
    have WU:l≠(s.heap.push (uj w)).objs.size:=by rw[aal];exact ZP (aaL lS)
    have GX:s.heap.objs.size∉[(s.heap.push (uj w)).objs.size,l]:=by
     rw[aal]
     simp only[ZI,aas,abE,not_or]
     exact⟨ZP (acB _),ace lS⟩
    have GY:∀ (i:Nat) (v:Value),items[i]?=some v->∃ t,v=.int ((fun i=>ns.getD i 0) i) t:=fun i v hv=>IntsAre.int_at hi i v (by rw[Array.getElem?_toList];exact hv)
    refine Iw (b:=!rJ w) ((Walks.list WT _ l WU items).toS) s.heap.objs.size GX (fun i=>ns.getD i 0) GY hb (items.size-0) 0 _ (by omega) (aaH _) ⟨⟨_,ZN _ rfl,rfl,rfl⟩,(xy.push _)⟩ ?hS0 ?hR
    case hS0=>exact⟨_,#[],0,_,ZE _ hS,⟨rfl,rfl,rfl⟩,rfl,fun e he=>by simp at he,fun k=>by simp[firstMet],by decide,by rfl,rfl,yA 0 0 _⟩
    case hR=>
     intro s' hm BM
     obtain⟨h',g',d',WV,QT⟩:=s'
     have eg:g'=s.gens:=hm.gens
     have ed:d'=s.drawn:=hm.drawn
     have eo:QT=s.os:=hm.os
     subst eg ed eo
     show wpAny _ _ _ _ _ _
     refine ZF ?_
     show wpAny _ _ (ret Value.none) _ _ _
     refine ZF ⟨rfl,h',WV,rfl,BM,fun b o hb e=>?_⟩
     exact hm.heap b o (by
      rw[aal]
      simp only[ZI,aas,abE,not_or]
      exact⟨ZP hb,ZP (aaL hb)⟩) (ZE _ (ZE _ e))
   ·cases r₂ with
    | error e=>exact Eh
    | ok Oe=>
     cases Oe with
     | ret r=>
      obtain⟨rfl,h',tk,rfl,BM,Ke⟩:=Eh
      repeat (any_goals (first|assumption|wp_step))
      exact h _ _ BM Ke
     | _=>exact Eh.elim
  | _=>exact hr.elim
end
theorem ff:Slot "set_iterator" "__next__" "set_iterator.__next__":=
 .of (owner:="set_iterator") (n:="__next__") (by rw[typeLookup_type,builtinLookup_eq_fast];kernel_rfl) (by decide +kernel) (by decide +kernel) (by decide +kernel)
  (by first|exact .inl (by decide +kernel)|exact .inr (by decide +kernel)) (by rw[isSubtype_type];kernel_rfl)
theorem pK:entryFor table "set_iterator.__next__"=some Builtin.«set_iterator.__next__»:=entryFor_of_tree (by kernel_rfl)
theorem Iy:Manifest.owners.lookup (String.ofList ['r','o','t','a','r','e','t','i','_','t','e','s'].reverse)=some Manifest.sig_set_iterator:=by kernel_rfl
theorem pM (a:Value):argsOk "set_iterator.__next__" ⟨[a],[]⟩:=by
 unfold argsOk;rw[signature?_of (id:="set_iterator.__next__") (n:=['_','_','t','x','e','n','_','_']) (o:=['r','o','t','a','r','e','t','i','_','t','e','s']) (by kernel_rfl) Iy];kernel_rfl
theorem GZ:entryFor table "set.__iter__"=some Builtin.«frozenset.__iter__»:=entryFor_alias (id':="frozenset.__iter__") (by kernel_rfl) rfl (by decide +kernel) (by kernel_rfl)
theorem Aq:Slot "set_iterator" "__iter__" "set_iterator.__iter__":=
 .of (owner:="set_iterator") (n:="__iter__") (by rw[typeLookup_type,builtinLookup_eq_fast];kernel_rfl) (by decide +kernel) (by decide +kernel) (by decide +kernel)
  (by first|exact .inl (by decide +kernel)|exact .inr (by decide +kernel)) (by rw[isSubtype_type];kernel_rfl)
def fg (h:Heap)(a:Addr)(es:Array (Int × Value))(ep:Nat)(t:SetTable):Prop:=∃ o,h.get? a=some o/\o.ExactSet/\o.data=.set es ep t/\t.fits es.size=true
def dG (h:Heap)(it a:Addr)(first:Value)(i n ep:Nat):Prop:=∃ o,h.get? it=some o/\o.cls=.type "set_iterator"/\o.data=.fields #[first,.int i 0,.ref a,.int n 0,.int ep 0]
theorem fg.keeps {h h':Heap}{a:Addr}{es:Array (Int × Value)}{ep:Nat}{t:SetTable}(x:fg h a es ep t)(k:∀ o,h.get? a=some o->h'.get? a=some o):fg h' a es ep t:=let ⟨o,p,r⟩:=x;⟨o,k _ p,r⟩
theorem dG.keeps {h h':Heap}{it a:Addr}{f:Value}{i n ep:Nat}(x:dG h it a f i n ep)(k:∀ o,h.get? it=some o->h'.get? it=some o):dG h' it a f i n ep:=let ⟨o,p,r⟩:=x;⟨o,k _ p,r⟩
section
variable {prog:Program}{w:World}{A:Around}{E:Value->Shared->Prop}{s:Shared}{it a:Addr}{es:Array (Int × Value)}{ep i:Nat}{t:SetTable}{first:Value}
theorem dG.type {n:Nat}(x:dG s.heap it a first i n ep):s.TypeIs (.ref it) "set_iterator":=let ⟨o,p,c,_⟩:=x;⟨o,p,c⟩
theorem BO {src:Source}{n:Nat}{Q:Nat->Shared->Prop}(hn:n≠0)(h:∀ k d,k<n->Q k { s with drawn:=d }):wpAny (model prog w) A (choose src n) Q E s:=fun _ _ _=>⟨hn,h _ _ (acf _ (Nat.pos_of_ne_zero hn))⟩
theorem wC {sl nx:Nat}{x:Value}{Q:Option Value->Shared->Prop}(hi:dG s.heap it a (.int sl 0) i es.size ep)(hs:fg s.heap a es ep t)(lQ:a≠it)
  (hn:∀ (A':Around) (Q':Option (Value × Nat)->Shared->Prop) (E':Value->Shared->Prop),Q' (some (x,nx)) s->wpAny (model prog w) A' (setNext a sl i ep) Q' E' s)
  (hQ:∀ h',dG h' it a (.int nx 0) (i+1) es.size ep->Heap.SameBut it s.heap h'->Q (some x) { s with heap:=h' }) :
  wpAny (model prog w) A (pyNext (.ref it)) Q E s:=by
 obtain⟨o,ho,hc,hd⟩:=id hi
 obtain⟨os,Ce,hex,Iz,hf⟩:=id hs
 unfold pyNext
 refine ZD (abb (aaA (name:=Str.ofString "__next__") hi.type ff (aaP ff hi.type pK ?_ (pM _))))
 unfold Builtin.«set_iterator.__next__»
 refine ZD (ZF ?_)
 refine ZD (adI ho hd ?_)
 dsimp only
 refine ZD (acn Ce Iz hf ?_)
 rw[Z4 (by simp)]
 refine ZD ?_
 simp only[aaE]
 refine hn _ _ _ ?_
 dsimp only
 refine ZD (aa9 ho hd (by simp) ?_)
 have h1:(s.heap.update it (Obj.mapFields (·.setIfInBounds 0 (rawInt (nx:Int))))).get? it=some (Obj.mapFields (·.setIfInBounds 0 (rawInt (nx:Int))) o):=aaq _ ho (aa5 (aan hd _))
 refine ZD (aa9 (s:={ s with heap:=s.heap.update it (Obj.mapFields (·.setIfInBounds 0 (rawInt (nx:Int)))) }) h1 (aan hd _) (by simp) ?_)
 refine ZF ⟨_,rfl,ZF (hQ _ ⟨_,aaq _ h1 (aa5 (aan (aan hd _) _)),?_,?_⟩ ((aam ..).trans (aam ..)))⟩
 ·rw[acb,acb]
  exact hc
 ·rw[aan (aan hd _)]
  simp[rawInt]
theorem stopped {o:Obj}{vs:Array Value}{k:Nat}{Q:Option Value->Shared->Prop}(hh:A.handled=none)(ho:s.heap.get? it=some o)(hd:o.data=.fields vs)(hk:k<vs.size)(x:Value)(hQ:∀ h',Heap.ExtBut it s.heap h'->Q none { s with heap:=h' }) :
  wpAny (model prog w) A.in1 (do setField (.ref it) k x;raiseNew (<- newExc (.type "StopIteration") [])) (fun fin s'=>∃ v,fin=Fin.done (Flow.ret v)/\wpAny (model prog w) A (pure (some v)) Q E s')
   (fun e s'=>wpAny (model prog w) A (do if <- isInstance e (.type "StopIteration") then pure none else throw e) Q E s') s:=by
 refine ZD (aa9 ho hd hk ?_)
 refine ZD ?_
 simp only[newExc,newTuple]
 refine ZD (aa0 ?_ (by size_fits))
 refine ZD (m:=firstArgMember _ _) (adp (a:=Value.none) (by first|rfl|(simp only[firstArgMember];rfl)) ?_)
 refine aa0 ?_ (by size_fits)
 simp only[raiseNew]
 refine ZD (wpAny_handled ?_)
 rw[show A.in1.handled=none from hh]
 refine ZD (ZF (wpAny_throw ?_))
 refine ZD (acm (T:="StopIteration") (b:=true) ⟨_,ZN _ rfl,rfl⟩ adj ?_)
 exact ZF (hQ _ (((aam ..).extBut.push _).push _))
theorem sU {sl:Nat}{Q:Option Value->Shared->Prop}(hh:A.handled=none)(hi:dG s.heap it a (.int sl 0) i es.size ep)(hs:fg s.heap a es ep t)
  (hn:∀ (A':Around) (Q':Option (Value × Nat)->Shared->Prop) (E':Value->Shared->Prop),Q' none s->wpAny (model prog w) A' (setNext a sl i ep) Q' E' s)
  (hQ:∀ h',Heap.ExtBut it s.heap h'->Q none { s with heap:=h' }):wpAny (model prog w) A (pyNext (.ref it)) Q E s:=by
 obtain⟨o,ho,hc,hd⟩:=id hi
 obtain⟨os,Ce,hex,Iz,hf⟩:=id hs
 unfold pyNext
 refine ZD (abb (aaA (name:=Str.ofString "__next__") hi.type ff (aaP ff hi.type pK ?_ (pM _))))
 unfold Builtin.«set_iterator.__next__»
 refine ZD (ZF ?_)
 refine ZD (adI ho hd ?_)
 dsimp only
 refine ZD (acn Ce Iz hf ?_)
 rw[Z4 (by simp)]
 refine ZD ?_
 simp only[aaE]
 refine hn _ _ _ ?_
 dsimp only
 exact stopped hh ho hd (by simp) _ hQ
theorem yC {f:Addr}{ps:List Nat}{p:Nat}{e:Int × Value}{Q:Option Value->Shared->Prop}(hi:dG s.heap it a (.ref f) i es.size ep)(hs:fg s.heap a es ep t)(Of:s.heap.IsTuple f (ps.map fun (i:Nat)=>rawInt i).toArray)
  (hp:ps[i]?=some p) (he:es[p]?=some e) (hQ:∀ h',dG h' it a (.ref f) (i+1) es.size ep->Heap.SameBut it s.heap h'->Q (some e.2) { s with heap:=h' }) :
  wpAny (model prog w) A (pyNext (.ref it)) Q E s:=by
 obtain⟨o,ho,hc,hd⟩:=id hi
 obtain⟨os,Ce,hex,Iz,hf⟩:=id hs
 unfold pyNext
 refine ZD (abb (aaA (name:=Str.ofString "__next__") hi.type ff (aaP ff hi.type pK ?_ (pM _))))
 unfold Builtin.«set_iterator.__next__»
 refine ZD (ZF ?_)
 refine ZD (adI ho hd ?_)
 dsimp only
 refine ZD (acn Ce Iz hf ?_)
 rw[Z4 (by simp)]
 obtain⟨of,Ss,WW,nf,z6⟩:=id Of
 refine ZD (abi Ss z6 ?_)
 have hx:(ps.map fun (i:Nat)=>rawInt i).toArray[(i:Int).toNat]?=some (.int p 0):=by
  rw[aaE,List.getElem?_toArray,ZU,hp]
  rfl
 dsimp only
 rw[hx]
 dsimp only
 refine ZD ?_
 unfold setNextDrawn
 refine ZD (abJ Ce Iz hf ?_)
 dsimp only
 rw[Z4 (by simp)]
 simp only[aaE,he]
 refine ZF ?_
 refine ZD (aa9 ho hd (by simp) ?_)
 refine ZF ⟨_,rfl,ZF (hQ _ ⟨_,aaq _ ho (aa5 (aan hd _)),(acb ..).trans hc,?_⟩ (aam ..))⟩
 rw[aan hd]
 simp[rawInt]
theorem wD {f:Addr}{ps:List Nat}{Q:Option Value->Shared->Prop}(hh:A.handled=none)(hi:dG s.heap it a (.ref f) i es.size ep)(hs:fg s.heap a es ep t)(Of:s.heap.IsTuple f (ps.map fun (i:Nat)=>rawInt i).toArray)
  (hp:ps[i]?=none) (hQ:∀ h',Heap.ExtBut it s.heap h'->Q none { s with heap:=h' }):wpAny (model prog w) A (pyNext (.ref it)) Q E s:=by
 obtain⟨o,ho,hc,hd⟩:=id hi
 obtain⟨os,Ce,hex,Iz,hf⟩:=id hs
 unfold pyNext
 refine ZD (abb (aaA (name:=Str.ofString "__next__") hi.type ff (aaP ff hi.type pK ?_ (pM _))))
 unfold Builtin.«set_iterator.__next__»
 refine ZD (ZF ?_)
 refine ZD (adI ho hd ?_)
 dsimp only
 refine ZD (acn Ce Iz hf ?_)
 rw[Z4 (by simp)]
 obtain⟨of,Ss,WW,nf,z6⟩:=id Of
 refine ZD (abi Ss z6 ?_)
 have hx:(ps.map fun (i:Nat)=>rawInt i).toArray[(i:Int).toNat]?=none:=by
  rw[aaE,List.getElem?_toArray,ZU,hp]
  rfl
 dsimp only
 rw[hx]
 dsimp only
 refine ZD (aa9 ho hd (by simp) ?_)
 have h1:(s.heap.update it (Obj.mapFields (·.setIfInBounds 0 (rawInt 0)))).get? it=some (Obj.mapFields (·.setIfInBounds 0 (rawInt 0)) o):=aaq _ ho (aa5 (aan hd _))
 exact stopped (s:={ s with heap:=s.heap.update it (Obj.mapFields (·.setIfInBounds 0 (rawInt 0))) }) hh h1 (aan hd _) (by simp) _ fun h' x=>hQ h' fun b o' nb e=>x b o' nb ((acW _ _ _ _ nb).trans e)
theorem lj {α:Type}:∀ {l:List α}{i:Nat} (h:i<l.length),(l[i]::l.eraseIdx i).Perm l
 | x::xs,0,h=>.refl _
 | x::xs,i+1,h=>by
  have h':i<xs.length:=by simpa using h
  show (xs[i]::x::xs.eraseIdx i).Perm (x::xs)
  exact (List.Perm.swap x xs[i] _).trans ((lj h').cons x)
theorem Ar {α:Type}:∀ (n:Nat) (xs:List α) (s:Shared) (Q:List α->Shared->Prop),n=xs.length->(∀ ys d,ys.Perm xs->Q ys { s with drawn:=d })->wpAny (model prog w) A (drawOrder n xs) Q E s
 | 0,xs,s,Q,hl,h=>by
  have:xs=[]:=List.length_eq_zero_iff.mp hl.symm
  subst this
  exact ZF (h [] s.drawn .nil)
 | n+1,[],s,Q,hl,h=>by cases hl
 | n+1,x::xs,s,Q,hl,h=>by
  unfold drawOrder
  refine ZD (BO (by simp) fun k d hk=>?_)
  rw[ZK hk]
  dsimp only
  refine ZD (Ar n _ _ _ (by rw[List.length_eraseIdx_of_lt hk];simp at hl ⊢;omega) fun ys d' hy=>ZF ?_)
  exact h _ d' ((hy.cons _).trans (lj hk))
theorem As {α:Type}(nx:Nat->Nat):∀ (f k:Nat) (l:List α) (out:Array α),f=l.length->(pickOrder.go nx f k l out).toList.Perm (out.toList++l)
 | 0,k,l,out,hl=>by
  have:l=[]:=List.length_eq_zero_iff.mp hl.symm
  subst this
  unfold pickOrder.go
  rw[aa6]
 | f+1,k,l,out,hl=>by
  have hp:nx k%l.length<l.length:=acf _ (by omega)
  unfold pickOrder.go
  rw[ZK hp]
  dsimp only
  refine (As nx f (k+1) _ _ (by rw[List.length_eraseIdx_of_lt hp];omega)).trans ?_
  rw[Array.toList_push,List.append_assoc]
  exact (lj hp).append_left out.toList
theorem kD {α:Type}(nx:Nat->Nat)(xs:Array α):(pickOrder nx xs).toList.Perm xs.toList:=by
 have:=As nx xs.size 0 xs.toList #[] (by simp)
 simpa [pickOrder] using this
end
def Fx (es:Array (Int × Value))(t:SetTable):Bool:=!t.plain&&decide (es.size > 1)
def slotAt (t:SetTable)(i:Nat):Nat:=match i with
 | 0=>0
 | i+1=>t.place.getD i 0+1
section
variable {prog:Program}{w:World}{A:Around}{E:Value->Shared->Prop}{s:Shared}{it a:Addr}{es:Array (Int × Value)}{ep i:Nat}{t:SetTable}
theorem qF {t:SetTable}(u:Up t.place){i:Nat}(h:i<=t.place.size):SetTable.below t.place (slotAt t i)=i:=by
 cases i with
 | zero=>exact yy u
 | succ i=>
  have hi:i<t.place.size:=h
  show SetTable.below t.place (t.place.getD i 0+1)=i+1
  rw[abW,Z8 hi]
  exact yx u hi
theorem sV {t:SetTable}{n:Nat}(h:t.fits n=true):t.place.size=n:=by
 unfold SetTable.fits at h
 simp only[aaW,aa4] at h
 exact h.1
theorem yD {k:Nat}{Q:Option (Value × Nat)->Shared->Prop}(hs:fg s.heap a es ep t)(hT:rJ w=false)(hD:Fx es t=false)(g:Good true t)(hi:i<es.size)(hQ:Q (some ((es[i]).2,slotAt t (i+1))) s) :
  wpAny (model prog w) A (setNext a (slotAt t i) k ep) Q E s:=by
 obtain⟨o,ho,hex,hd,hf⟩:=hs
 have hz:=sV hf
 unfold setNext
 refine ZD (abJ ho hd hf ?_)
 refine ZD (ZD (abS (ZF ?_)))
 show wpAny _ _ (if rJ w=true then _ else _) _ _ _
 rw[Z4 (by rw[hT];exact ZJ)]
 show wpAny _ _ (if Fx es t=true then _ else _) _ _ _
 rw[Z4 (by rw[hD];exact ZJ)]
 refine ZD ?_
 show wpAny _ _ (if (!t.led&&!es.isEmpty)=true then _ else _) _ _ _
 rw[Z4 (by rw[g.led];simp)]
 refine ZF (ZF ?_)
 rw[qF g.up (by omega),Z8 hi,Z8 (show i<t.place.size by omega)]
 have e:slotAt t (i+1)=t.place[i]'(by omega)+1:=by
  show t.place.getD i 0+1=_
  rw[abW,Z8 (show i<t.place.size by omega)]
  rfl
 rw[e] at hQ
 exact hQ
theorem wF {k:Nat}{Q:Option (Value × Nat)->Shared->Prop}(hs:fg s.heap a es ep t)(hT:rJ w=false)(hD:Fx es t=false)(g:Good true t)(hQ:Q none s) :
  wpAny (model prog w) A (setNext a (slotAt t es.size) k ep) Q E s:=by
 obtain⟨o,ho,hex,hd,hf⟩:=hs
 have hz:=sV hf
 unfold setNext
 refine ZD (abJ ho hd hf ?_)
 refine ZD (ZD (abS (ZF ?_)))
 show wpAny _ _ (if rJ w=true then _ else _) _ _ _
 rw[Z4 (by rw[hT];exact ZJ)]
 show wpAny _ _ (if Fx es t=true then _ else _) _ _ _
 rw[Z4 (by rw[hD];exact ZJ)]
 refine ZD ?_
 show wpAny _ _ (if (!t.led&&!es.isEmpty)=true then _ else _) _ _ _
 rw[Z4 (by rw[g.led];simp)]
 refine ZF (ZF ?_)
 rw[qF g.up (by omega),Array.getElem?_eq_none (ZL es.size)]
 exact hQ
abbrev picked (w:World)(a:Addr)(ep:Nat)(es:Array (Int × Value)):Array (Int × Value):=pickOrder (w.params.setOrder a ep) es
theorem sW {sl:Nat}{Q:Option (Value × Nat)->Shared->Prop}(hs:fg s.heap a es ep t)(hT:rJ w=true)(hQ:Q (((picked w a ep es)[i]?).map fun e=>(e.2,sl)) s) :
  wpAny (model prog w) A (setNext a sl i ep) Q E s:=by
 obtain⟨o,ho,hex,hd,hf⟩:=hs
 unfold setNext
 refine ZD (abJ ho hd hf ?_)
 refine ZD (ZD (abS (ZF ?_)))
 show wpAny _ _ (if rJ w=true then _ else _) _ _ _
 rw[aag hT]
 rw[Z4 (by simp)]
 refine ZD ?_
 unfold setWalk
 refine ZD (abJ ho hd hf ?_)
 refine ZD (ZD (abS (ZF ?_)))
 show wpAny _ _ (if rJ w=true then _ else _) _ _ _
 rw[aag hT]
 exact ZD (abS (ZF (ZF hQ)))
theorem Ei {Q:Value->Shared->Prop}(hs:fg s.heap a es ep t)(hz:es.size<=sizeLine)
  (h1:(!rJ w&&Fx es t)=false->Q (.ref s.heap.objs.size) { s with heap:=s.heap.push { cls:=.type "set_iterator",data:=.fields #[.int 0 0,.int 0 0,.ref a,.int es.size 0,.int ep 0] } })
  (h2:(!rJ w&&Fx es t)=true->∀ (ps:List Nat) d,ps.Perm (List.range es.size)->Q (.ref (s.heap.objs.size+1)) { s with
   heap:=(s.heap.push { cls:=.type "tuple",data:=.seq (ps.map fun (i:Nat)=>rawInt i).toArray }).push { cls:=.type "set_iterator",data:=.fields #[.ref s.heap.objs.size,.int 0 0,.ref a,.int es.size 0,.int ep 0] },drawn:=d }) :
  wpAny (model prog w) A (pyIter (.ref a)) Q E s:=by
 obtain⟨o,ho,hex,hd,hf⟩:=id hs
 have hT:s.TypeIs (.ref a) "set":=⟨o,ho,hex.1⟩
 refine wpAny_pyIter_slot hT PySem.F.slot_set_iter (aaP PySem.F.slot_set_iter hT GZ ?_ (PySem.F.args_set_iter_1 _))
 unfold Builtin.«frozenset.__iter__»
 refine ZD ?_
 unfold Builtin.Frozenset.slot0
 refine ZD (ZF ?_)
 show wpAny _ _ (pure a) _ _ _
 refine ZF (ZD ?_)
 unfold Builtin.Frozenset.sizeOf
 refine ZD (acn ho hd hf (ZF (ZD ?_)))
 refine ZD (abJ ho hd hf ?_)
 refine ZD (ZD (abS (ZF (ZF ?_))))
 show wpAny _ _ (if (!rJ w&&Fx es t)=true then _ else _) _ _ _
 cases c:(!rJ w&&Fx es t) with
 | false=>
  rw[Z4 ZJ]
  refine ZD (ZF (ZD (wpAny_setEpoch_of ho hd hf ?_)))
  refine ZD (aa0 (ZF ⟨_,rfl,"set_iterator",_,⟨_,ZN _ rfl,rfl⟩,ff.lookup,?_⟩))
  simpa [rawInt] using h1 c
 | true=>
  rw[aag rfl]
  refine ZD (Ar _ _ _ _ (by simp) fun ps d hp=>?_)
  have hl:(ps.map fun (i:Nat)=>rawInt (i:Int)).length<=sizeLine:=by rw[ZR,hp.length_eq,acr];exact hz
  refine ZD (wpAny_newTuple ?_ hl)
  have WX:(s.heap.push { cls:=.type "tuple",data:=.seq (ps.map fun (i:Nat)=>rawInt (i:Int)).toArray }).get? a=some o:=ZE _ ho
  refine ZD (wpAny_setEpoch_of WX hd hf ?_)
  refine ZD (aa0 (ZF ⟨_,rfl,"set_iterator",_,⟨_,ZN _ rfl,rfl⟩,ff.lookup,?_⟩))
  have:=h2 c ps d hp
  simpa [rawInt,aal] using this
end
end wu
namespace wu
open PySem PyProof.Rows PySem.W
section
variable {prog:Program}{w:World}{A:Around}{E:Value->Shared->Prop}{s:Shared}{a:Addr}{es:Array (Int × Value)}{ep:Nat}{t:SetTable}
theorem G0:entryFor table "set_iterator.__iter__"=some Builtin.«dict_keyiterator.__iter__»:=entryFor_alias (id':="dict_keyiterator.__iter__") (by kernel_rfl) rfl (by decide +kernel) (by kernel_rfl)
theorem G1 (a:Value):argsOk "set_iterator.__iter__" ⟨[a],[]⟩:=by
 unfold argsOk;rw[signature?_of (id:="set_iterator.__iter__") (n:=['_','_','r','e','t','i','_','_']) (o:=['r','o','t','a','r','e','t','i','_','t','e','s']) (by kernel_rfl) Iy];kernel_rfl
theorem m7 {it:Addr}{f:Value}{i n:Nat}{Q:Value->Shared->Prop}(hi:dG s.heap it a f i n ep)(h:Q (.ref it) s):wpAny (model prog w) A (pyIter (.ref it)) Q E s:=by
 refine wpAny_pyIter_slot hi.type Aq (aaP Aq hi.type G0 ?_ (G1 _))
 show wpAny _ _ (ret (.ref it)) _ _ s
 exact ZF ⟨_,rfl,"set_iterator",_,hi.type,ff.lookup,h⟩
theorem yE (hh:A.handled=none)(I:Addr)(lQ:a≠I)(hT:rJ w=false)(hD:Fx es t=false)(g:Good true t) :
  Walks prog w A I [I,a] [I] es.size (fun i v=>∃ e,es[i]?=some e/\v=e.2) (fun i h=>dG h I a (.int (slotAt t i) 0) i es.size ep/\fg h a es ep t) where
 sub:=fun b hb=>by simp at hb;simp[hb]
 frame:=fun _ _ _ st hk=>⟨st.1.keeps fun o e=>hk I (by simp) o e,st.2.keeps fun o e=>hk a (by simp) o e⟩
 item:=fun i s Q E hi st hQ=>by
  refine wC st.1 st.2 lQ (fun A' Q' E' q=>yD st.2 hT hD g hi q) fun h' Og sb=>?_
  exact hQ _ h' s.toks ⟨es[i],Z8 hi,rfl⟩ ⟨Og,st.2.keeps fun o e=>(sb.2 a lQ).trans e⟩ fun b o hb e=>(sb.2 b fun z=>hb (by simp[z])).trans e
 done:=fun s Q E st hQ=>sU hh st.1 st.2 (fun A' Q' E' q=>wF st.2 hT hD g q) fun h' x=>hQ h' s.toks fun b o hb e=>x b o (fun z=>hb (by simp[z])) e
 self:=fun _ _ _ _ st hQ=>m7 st.1 hQ
theorem BQ (hh:A.handled=none)(I:Addr)(lQ:a≠I)(hT:rJ w=true) :
  Walks prog w A I [I,a] [I] es.size (fun i v=>∃ e,(picked w a ep es)[i]?=some e/\v=e.2) (fun i h=>dG h I a (.int (0:Nat) 0) i es.size ep/\fg h a es ep t) where
 sub:=fun b hb=>by simp at hb;simp[hb]
 frame:=fun _ _ _ st hk=>⟨st.1.keeps fun o e=>hk I (by simp) o e,st.2.keeps fun o e=>hk a (by simp) o e⟩
 item:=fun i s Q E hi st hQ=>by
  have hz:(picked w a ep es).size=es.size:=by rw[<- aac,(kD _ es).length_eq,aac]
  have hp:i<(picked w a ep es).size:=by omega
  refine wC (x:=(picked w a ep es)[i].2) (nx:=0) st.1 st.2 lQ (fun A' Q' E' q=>sW st.2 hT (by rw[Z8 hp];exact q)) fun h' Og sb=>?_
  exact hQ _ h' s.toks ⟨_,Z8 hp,rfl⟩ ⟨Og,st.2.keeps fun o e=>(sb.2 a lQ).trans e⟩ fun b o hb e=>(sb.2 b fun z=>hb (by simp[z])).trans e
 done:=fun s Q E st hQ=>by
  have hz:(picked w a ep es).size=es.size:=by rw[<- aac,(kD _ es).length_eq,aac]
  exact sU hh st.1 st.2 (fun A' Q' E' q=>sW st.2 hT (by rw[Array.getElem?_eq_none (by omega)];exact q)) fun h' x=>hQ h' s.toks fun b o hb e=>x b o (fun z=>hb (by simp[z])) e
 self:=fun _ _ _ _ st hQ=>m7 st.1 hQ
theorem yF {f:Addr}{ps:List Nat}(hh:A.handled=none)(I:Addr)(lQ:a≠I)(WY:f≠I)(hp:ps.Perm (List.range es.size)) :
  Walks prog w A I [I,a,f] [I] es.size (fun i v=>∃ p e,ps[i]?=some p/\es[p]?=some e/\v=e.2) (fun i h=>dG h I a (.ref f) i es.size ep/\fg h a es ep t/\h.IsTuple f (ps.map fun (i:Nat)=>rawInt i).toArray) where
 sub:=fun b hb=>by simp at hb;simp[hb]
 frame:=fun _ _ _ st hk=>⟨st.1.keeps fun o e=>hk I (by simp) o e,st.2.1.keeps fun o e=>hk a (by simp) o e,let ⟨o,p,r⟩:=st.2.2;⟨o,hk f (by simp) o p,r⟩⟩
 item:=fun i s Q E hi st hQ=>by
  have hl:ps.length=es.size:=by rw[hp.length_eq,acr]
  have h1:i<ps.length:=by omega
  have h2:ps[i]<es.size:=abN.mp (hp.mem_iff.mp (abl h1))
  refine yC st.1 st.2.1 st.2.2 (ZK h1) (Z8 h2) fun h' Og sb=>?_
  exact hQ _ h' s.toks ⟨_,_,ZK h1,Z8 h2,rfl⟩ ⟨Og,st.2.1.keeps fun o e=>(sb.2 a lQ).trans e,let ⟨o,p,r⟩:=st.2.2;⟨o,(sb.2 f WY).trans p,r⟩⟩ fun b o hb e=>(sb.2 b fun z=>hb (by simp[z])).trans e
 done:=fun s Q E st hQ=>by
  have hl:ps.length=es.size:=by rw[hp.length_eq,acr]
  exact wD hh st.1 st.2.1 st.2.2 (List.getElem?_eq_none (by omega)) fun h' x=>hQ h' s.toks fun b o hb e=>x b o (fun z=>hb (by simp[z])) e
 self:=fun _ _ _ _ st hQ=>m7 st.1 hQ
def PZ (es:Array (Int × Value))(p:Nat):Value:=(es.getD p (0,.none)).2
theorem Ej {es:Array (Int × Value)}{p:Nat}(h:p<es.size):PZ es p=es[p].2:=by
 unfold PZ
 rw[abW,Z8 h]
 rfl
theorem yG (es:Array (Int × Value)):es.toList.map (·.2)=(List.range es.size).map (PZ es):=by
 refine adi (by simp) fun i h1 h2=>?_
 have h:i<es.size:=by simpa using h1
 rw[adh,adh,List.getElem_range,Ej h]
 simp
theorem oN {es:Array (Int × Value)}{acc:Array Value}{n:Nat}(hn:es.size=n)(h:ItemsOf (fun i v=>∃ e,es[i]?=some e/\v=e.2) acc n):acc.toList=es.toList.map (·.2):=by
 refine adi (by simp[h.1,hn]) fun i h1 h2=>?_
 have h3:i<acc.size:=by simpa using h1
 obtain⟨e,he,hv⟩:=h.2 i acc[i] (Z8 h3)
 have h4:i<es.size:=by simpa using h2
 rw[Z8 h4] at he
 cases he
 simpa using hv
theorem wG {es:Array (Int × Value)}{acc:Array Value}{ps:List Nat}(hp:ps.Perm (List.range es.size))(h:ItemsOf (fun i v=>∃ p e,ps[i]?=some p/\es[p]?=some e/\v=e.2) acc es.size):acc.toList.Perm (es.toList.map (·.2)):=by
 have hl:ps.length=es.size:=by rw[hp.length_eq,acr]
 have e:acc.toList=ps.map (PZ es):=by
  refine adi (by simp[h.1,hl]) fun i h1 h2=>?_
  have h3:i<acc.size:=by simpa using h1
  obtain⟨p,e,F2,he,hv⟩:=h.2 i acc[i] (Z8 h3)
  have h4:i<ps.length:=by simpa using h2
  rw[ZK h4] at F2
  cases F2
  obtain⟨h5,h6⟩:=abu.mp he
  rw[adh,Ej h5,h6,<- hv]
  simp
 rw[e,yG]
 exact hp.map _
structure Pk (prog:Program)(w:World)(A:Around)(s s1:Shared)(a I:Addr)(es:Array (Int × Value))(fp:List Addr)(P:Nat->Value->Prop)(St:Nat->Heap->Prop):Prop where
 walk:Walks prog w A I fp [I] es.size P St
 BR:St 0 s1.heap
 old:∀ b o,s.heap.get? b=some o->s1.heap.get? b=some o
 new:s.heap.get? I=none
 WZ:∀ b∈fp,b=a\/s.heap.get? b=none
 same:s1={ s with heap:=s1.heap,drawn:=s1.drawn }
 perm:∀ acc,ItemsOf P acc es.size->acc.toList.Perm (es.toList.map (·.2))
theorem Oh {Q:Value->Shared->Prop}(hh:A.handled=none)(hs:fg s.heap a es ep t)(hz:es.size<=sizeLine)(g:Good (!rJ w) t)
  (h:∀ I s1 fp P St,Pk prog w A s s1 a I es fp P St->Q (.ref I) s1):wpAny (model prog w) A (pyIter (.ref a)) Q E s:=by
 have la:a<s.heap.objs.size:=let ⟨o,p,_⟩:=hs;ZH p
 refine Ei (t:=t) hs hz (fun c=>?_) (fun c ps d hp=>?_)
 ·have lQ:a≠s.heap.objs.size:=ZP la
  have st:dG (s.heap.push { cls:=.type "set_iterator",data:=.fields #[.int 0 0,.int 0 0,.ref a,.int es.size 0,.int ep 0] }) s.heap.objs.size a (.int (0:Nat) 0) 0 es.size ep:=⟨_,ZN _ rfl,rfl,rfl⟩
  have UM:fg (s.heap.push { cls:=.type "set_iterator",data:=.fields #[.int 0 0,.int 0 0,.ref a,.int es.size 0,.int ep 0] }) a es ep t:=hs.keeps fun o e=>ZE _ e
  have nn:s.heap.get? s.heap.objs.size=none:=aci (ZL _)
  have fp:∀ b∈[s.heap.objs.size,a],b=a\/s.heap.get? b=none:=fun b hb=>by
   rcases ZI.mp hb with rfl|hb
   ·exact .inr nn
   ·exact .inl (aar.mp hb)
  cases hT:rJ w with
  | true=>
   exact h _ _ _ _ _ ⟨BQ (t:=t) (ep:=ep) hh _ lQ hT,⟨st,UM⟩,fun b o e=>ZE _ e,nn,fp,rfl,fun acc x=>by
    have hz:(picked w a ep es).size=es.size:=by rw[<- aac,(kD _ es).length_eq,aac]
    rw[oN hz x]
    exact (kD _ es).map _⟩
  | false=>
   rw[hT] at g c
   have hD:Fx es t=false:=by simpa using c
   exact h _ _ _ _ _ ⟨yE (t:=t) (ep:=ep) hh _ lQ hT hD g,⟨st,UM⟩,fun b o e=>ZE _ e,nn,fp,rfl,fun acc x=>by rw[oN rfl x]⟩
 ·have sz:(s.heap.push { cls:=.type "tuple",data:=.seq (ps.map fun (i:Nat)=>rawInt i).toArray }).objs.size=s.heap.objs.size+1:=aal ..
  have n1:s.heap.get? (s.heap.objs.size+1)=none:=aci (aa3 _)
  have n0:s.heap.get? s.heap.objs.size=none:=aci (ZL _)
  have st:dG ((s.heap.push { cls:=.type "tuple",data:=.seq (ps.map fun (i:Nat)=>rawInt i).toArray }).push { cls:=.type "set_iterator",data:=.fields #[.ref s.heap.objs.size,.int 0 0,.ref a,.int es.size 0,.int ep 0] }) (s.heap.objs.size+1) a (.ref s.heap.objs.size) 0 es.size ep:=
   ⟨{ cls:=.type "set_iterator",data:=.fields #[.ref s.heap.objs.size,.int 0 0,.ref a,.int es.size 0,.int ep 0] },by rw[<- sz];exact ZN _ rfl,rfl,rfl⟩
  refine h _ _ _ _ _ ⟨yF (t:=t) (ep:=ep) (f:=s.heap.objs.size) hh (s.heap.objs.size+1) (ZP (aaL la)) (ZP (acB _)) hp,⟨st,hs.keeps fun o e=>ZE _ (ZE _ e),_,ZE _ (ZN _ rfl),rfl,_,rfl⟩,fun b o e=>ZE _ (ZE _ e),n1,fun b hb=>?_,rfl,fun acc x=>wG hp x⟩
  rcases ZI.mp hb with rfl|hb
  ·exact .inr n1
  ·rcases ZI.mp hb with rfl|hb
   ·exact .inl rfl
   ·rw[aar.mp hb]
    exact .inr n0
end
section
variable {prog:Program}{w:World}{A:Around}{E:Value->Shared->Prop}{s:Shared}{a:Addr}{es:Array (Int × Value)}{ep:Nat}{t:SetTable}
theorem Ek {Q:Bool->Shared->Prop}(hT:s.TypeIs (.ref a) "set")(h:Q false s):wpAny (model prog w) A (Builtin.List.listLengthHint (.ref a)) Q E s:=by
 unfold Builtin.List.listLengthHint
 refine ZD (ad8 hT PySem.F.slot_set_len.lookup ?_)
 generalize UN:("set.__len__":String)=W2
 wp_delta
 rw[show splitId W2=some ("set","__len__") from by subst UN;decide +kernel]
 subst UN
 refine ZD (acm (T:="set") (b:=true) hT (by rw[isSubtype_type];kernel_rfl) ?_)
 refine ad9 (fun Su=>absurd Su (by decide)) (fun _=>?_)
 refine ad9 (fun _=>?_) (fun Su=>absurd (by decide +kernel) Su)
 refine ZD (wpAny_typeOf hT ?_)
 exact ZF h
theorem G2 {R:Result->Shared->Prop}(hh:A.handled=none)(hs:fg s.heap a es ep t)(hz:es.size<=sizeLine)(g:Good (!rJ w) t)(S:Addr)(UO:S≠a)(res:Value)(c₀:Nat)(hS:s.heap.get? S=some { cls:=.type "list",data:=.seq #[] c₀ })
  (hR:∀ h' tk d m8 c',(∀ b o,b≠S->s.heap.get? b=some o->h'.get? b=some o)->h'.get? S=some { cls:=.type "list",dict:=none,data:=.seq m8 c',slots:=#[] }->m8.toList.Perm (es.toList.map (·.2))->R (.ok (.ret res)) { s with heap:=h',toks:=tk,drawn:=d }) :
  wpAny (model prog w) A.in1 (Builtin.List.listExtendWith (.ref S) (.ref a) res)
   (fun fin s'=>match fin with|.done f=>R (.ok f) s'|.again c'=>c'.quiet=true/\codeAny (model prog w) A c' R s') (fun e s'=>R (.error e) s') s:=by
 obtain⟨o,ho,hex,hd,hf⟩:=id hs
 have hT:s.TypeIs (.ref a) "set":=⟨o,ho,hex.1⟩
 unfold Builtin.List.listExtendWith
 refine ZD (wpAny_typeOf (T:="set") hT ?_)
 have h1:Builtin.List.listSameRef (.ref S) (.ref a)=false:=by simp[Builtin.List.listSameRef,UO]
 have h2:(Value.type "set"==Value.type "list")=false:=by decide
 have h3:(Value.type "set"==Value.type "tuple")=false:=by decide
 simp only[h1,h2,h3,Bool.or_false,aaO,abX]
 refine ZD (Oh (A:=A.in1) hh hs hz g fun I s1 fp P St pk=>?_)
 have e1:=pk.same
 have GX:S∉fp:=fun z=>by
  rcases pk.WZ S z with y|y
  ·exact UO y
  ·rw[hS] at y;cases y
 have Zi:S≠I:=fun z=>by
  have:=pk.new
  rw[<- z,hS] at this
  cases this
 have Oc:=pk.old _ _ hS
 have key:∀ (h:Heap) (c₁ tk:Nat),St 0 h->(∀ b o,b≠S->s.heap.get? b=some o->h.get? b=some o)->h.get? S=some { cls:=.type "list",data:=.seq #[] c₁ } ->
   codeAny (model prog w) A (.builtin "list.extend.loop" ⟨[.ref S,.ref I,res],[]⟩) R { s1 with heap:=h,toks:=tk }:=by
  intro h c₁ tk mE hk El
  refine codeAny_extend_loopS pk.walk.toS hz S GX res es.size 0 _ #[] c₁ rfl (aaH _) mE El (ItemsOf.nil _) fun s' m8 c' hm BM bR=>?_
  rw[Moved.eq_with hm,e1]
  refine hR s'.heap s'.toks s1.drawn m8 c' (fun b o hb e=>hm.heap b o (fun o8=>?_) (hk b o hb e)) BM (pk.perm _ bR)
  rcases ZI.mp o8 with z|z
  ·exact hb z
  ·have:=pk.new
   rw[<- aar.mp z,e] at this
   cases this
 have W3:s1.TypeIs (.ref a) "set":=⟨o,pk.old _ _ ho,hex.1⟩
 refine ZD (aaj (Ek W3 ?_))
 refine ad9 (fun _=>?_) (fun _=>ZF ⟨adq PySem.F.plain_extend_loop _,key _ c₀ _ pk.BR (fun b o _ e=>pk.old _ _ e) Oc⟩)
 refine ZD (abK ?_)
 refine ZD ?_
 show wpAny _ _ (updateSeq S (·.push .none) >>= fun _=>updateSeq S (·.pop)) _ _ _
 refine ZD (wpAny_updateSeq Oc rfl ?_)
 have IA:=aaq (Obj.mapSeq (·.push Value.none)) Oc rfl
 refine wpAny_updateSeq (hz:=by seq_fits) IA rfl ?_
 have Oi:=aaq (Obj.mapSeq (·.pop)) IA rfl
 refine ZF ⟨adq PySem.F.plain_extend_loop _,key _ _ _ ?_ (fun b o hb e=>?_) Oi⟩
 ·refine pk.walk.frame 0 _ _ pk.BR fun b hb o e=>?_
  have UP:b≠S:=fun h=>GX (h▸hb)
  exact (aaC _ _ (Ne.symm UP)).trans ((aaC _ _ (Ne.symm UP)).trans e)
 ·exact (aaC _ _ (Ne.symm hb)).trans ((aaC _ _ (Ne.symm hb)).trans (pk.old _ _ e))
theorem Em {R:List Value->Shared->Prop}(hh:A.handled=none)(hs:fg s.heap a es ep t)(hz:es.size<=sizeLine)(g:Good (!rJ w) t)
  (h:∀ (h':Heap) (tk:Nat) d (acc:Array Value),(∀ b o,s.heap.get? b=some o->h'.get? b=some o)->acc.toList.Perm (es.toList.map (·.2))->R acc.toList { s with heap:=h',toks:=tk,drawn:=d }) :
  wpAny (model prog w) A (collect (.ref a)) R E s:=by
 have la:a<s.heap.objs.size:=let ⟨o,p,_⟩:=hs;ZH p
 unfold collect
 refine ZD (wpAny_runValue (abM entry_proto_collect' ?_))
 rw[abI PySem.F.plain_proto_collect _]
 show wpAny _ A.in1 (newList [] >>= fun l=>again (.builtin "list.__iadd__" ⟨[l,.ref a],[]⟩)) _ _ s
 refine ZD (aa0 ?_)
 refine ZF ⟨adq PySem.F.plain_list_iadd _,abM entry_list_iadd' ?_⟩
 rw[abI PySem.F.plain_list_iadd _]
 have El:(s.heap.push { cls:=.type "list",data:=.seq ([]:List Value).toArray }).get? s.heap.objs.size=some { cls:=.type "list",data:=.seq #[] }:=ZN _ rfl
 show wpAny _ A.in1 (Builtin.List.listExtendWith (.ref s.heap.objs.size) (.ref a) (.ref s.heap.objs.size)) _ _ _
 have key:=G2 (A:=A) (prog:=prog) (w:=w) (s:={ s with heap:=s.heap.push { cls:=.type "list",data:=.seq ([]:List Value).toArray } })
  (R:=fun (q:Result) (s':Shared)=>∃ (h':Heap) (tk:Nat) (d:Drawn) (m8:Array Value) (c':Nat),q=.ok (.ret (.ref s.heap.objs.size))/\s'={ s with heap:=h',toks:=tk,drawn:=d } /\
   (∀ b o,s.heap.get? b=some o->h'.get? b=some o)/\h'.get? s.heap.objs.size=some { cls:=.type "list",dict:=none,data:=.seq m8 c',slots:=#[] }/\m8.toList.Perm (es.toList.map (·.2)))
  hh (hs.keeps fun o e=>ZE _ e) hz g s.heap.objs.size (ace la) (.ref s.heap.objs.size) 0 El
  (fun h' tk d m8 c' hk BM bR=>⟨h',tk,d,m8,c',rfl,rfl,fun b o e=>hk b o (ZP (ZH e)) (ZE _ e),BM,bR⟩)
 refine Z2 key (fun fin s' x=>?_) fun e s' x=>?_
 ·cases fin with
  | done f=>
   obtain⟨h',tk,d,m8,c',e,rfl,hk,BM,bR⟩:=x
   cases e
   show wpAny _ A (load s.heap.objs.size >>= _) _ _ _
   exact ZD (wpAny_load BM (ZF (h h' tk d m8 hk bR)))
  | again c₁=>
   refine⟨x.1,abO x.2 fun q s₂ y=>?_⟩
   obtain⟨h',tk,d,m8,c',rfl,rfl,hk,BM,bR⟩:=y
   show wpAny _ A (load s.heap.objs.size >>= _) _ _ _
   exact ZD (wpAny_load BM (ZF (h h' tk d m8 hk bR)))
 ·obtain⟨_,_,_,_,_,e',_⟩:=x
  cases e'
end
end wu
namespace L2
open PySem PySem.Spec PyProof.Rows PySem.W wu
theorem sX:∀ (L D:List Int),D.Nodup->(∀ x∈D,x∈L)->L.length<=D.length->L.Nodup
 | [],D,_,_,_=>ad1
 | x::L,D,hd,hs,hl=>by
  have no:¬ (∀ y∈D,y∈L):=fun h=>by
   have:=abC hd h
   simp only[aaz] at hl
   omega
  have hx:x∈D:=by
   by_cases c:x∈D
   ·exact c
   ·exact absurd (fun y hy=>(ZI.mp (hs y hy)).elim (fun e=>absurd (e▸hy) c) id) no
  have ih:=sX L (D.erase x) (hd.erase x) (fun y hy=>by
   have:=(hd.mem_erase_iff).mp hy
   exact (ZI.mp (hs y this.2)).elim (fun e=>absurd e this.1) id) (by
   rw[List.length_erase_of_mem hx]
   simp only[aaz] at hl
   omega)
  refine abz.mpr ⟨fun c=>no fun y hy=>?_,ih⟩
  exact (ZI.mp (hs y hy)).elim (fun e=>e▸c) id
theorem gq (val:Nat->Int):∀ i,(firstMet val i).Nodup
 | 0=>ad1
 | i+1=>by
  rw[firstMet_succ]
  unfold step_dedup
  split
  ·exact gq val i
  ·rename_i h
   refine List.nodup_append.mpr ⟨gq val i,abz.mpr ⟨by simp,ad1⟩,fun a ha b hb e=>h ?_⟩
   rw[aar.mp hb] at e
   exact abv.mpr ⟨a,ha,by rw[e];exact ade _⟩
theorem wH (ns:List Int):(List.range ns.length).map (fun i=>ns.getD i 0)=ns:=by
 refine adi (by simp) fun i h1 h2=>?_
 rw[adh,List.getElem_range,aad,ZK h2]
 rfl
theorem qG {l:List Int}{k:Int}:l.any (·==k)=true↔k∈l:=by
 rw[abv]
 exact⟨fun ⟨x,h,e⟩=>(aa4.mp e)▸h,fun h=>⟨k,h,ade _⟩⟩
def En (P:Program)(w:World)(p:Addr)(ns:List Int)(h:Heap):Prop:=∃ D:List Int,D.Nodup/\(∀ k,k∈D↔k∈ns)/\kK P w (!rJ w) h p (fun k=>D.any (·==k)) D.length
theorem kN:∀ {ns:List Int}{us:List Value},Vals (ns.map V.int) us->IntsAre us ns
 | [],_,r=>by cases r;exact .nil
 | n::ns,_,r=>by
  cases r with
  | cons r1 r2=>
   obtain⟨t,rfl⟩:=r1
   exact .cons n t (kN r2)
theorem sY {X:Cx}(hc:X.calm=true):gI X (.type "set") (fun xs H Q=>∃ (l:Addr) (ns:List Int),xs=[.ref l]/\aR X.K H l (ns.map V.int)/\ns.length<4000/\∀ p,H p=none->Q (.ref p) (upd H p (.ext (En X.prog X.w p ns)))):=by
 intro pins s σ H xs us Q I rv h
 obtain⟨l,ns,rfl,hl,hz,q⟩:=h
 obtain⟨u,rfl,ru⟩:=rv.one
 cases ru
 obtain⟨aH,r',pl,_⟩:=I.list hl
 have hI:=kN r'
 have hlen:aH.length=ns.length:=by rw[<- r'.length,ZR]
 refine BN (items:=aH.toArray) (ns:=ns) (show X.A.handled=none from I.ok.hd hc) pl.isList (by simpa using hI) (by rw[ZQ,hlen];unfold scanBound;omega) fun h' tk g kp=>?_
 have sz:aH.toArray.size=ns.length:=by rw[ZQ,hlen]
 rw[sz] at g
 have e:En X.prog X.w s.heap.objs.size ns h':=⟨_,gq _ _,fun k=>by rw[<- qG,firstMet_any,wH,qG],g⟩
 have I2:=I.laid (a:=s.heap.objs.size) (o:=.ext (En X.prog X.w s.heap.objs.size ns)) (h':=h') (t':=tk) (fun b o z=>kp b o (ZH z) z) (ZL _) ⟨e,let ⟨_,_,_,o,_,_,_,p,_⟩:=e;⟨o,p⟩,fun _ _ ⟨D,d1,d2,d3⟩ k=>⟨D,d1,d2,d3.keeps fun o z=>k _ z⟩⟩
 exact⟨.ref s.heap.objs.size,_,I2,rfl,q _ (I.bh.fresh (ZL _))⟩
theorem jP {P:Program}{w:World}{k:Int}{v:Value}(h:(intKind P w).is k v=true):∃ t,v=.int k t:=by
 have h':Value.isInt k v=true:=h
 cases v with
 | int i t=>
  have e:i=k:=by simpa [Value.isInt] using h'
  exact⟨t,by rw[e]⟩
 | _=>simp[Value.isInt] at h'
theorem sZ:∀ (vs:List Value),(∀ v∈vs,∃ k t,v=Value.int k t)->∃ ks,IntsAre vs ks
 | [],_=>⟨[],.nil⟩
 | v::vs,h=>by
  obtain⟨k,t,rfl⟩:=h v (.head _)
  obtain⟨ks,r⟩:=sZ vs fun v hv=>h v (.tail _ hv)
  exact⟨k::ks,.cons k t r⟩
theorem tf:∀ {vs:List Value}{ks:List Int},IntsAre vs ks->∀ k,k∈ks↔∃ t,Value.int k t∈vs
 | _,_,.nil,k=>by simp
 | _,_,.cons n t r,k=>by
  rw[ZI,tf r k]
  constructor
  ·rintro (rfl|⟨t',h⟩)
   ·exact⟨t,.head _⟩
   ·exact⟨t',.tail _ h⟩
  ·rintro⟨t',h⟩
   rcases ZI.mp h with h|h
   ·cases h;exact .inl rfl
   ·exact .inr ⟨t',h⟩
theorem jx:∀ {l:List Int},l.Pairwise (·<=·)->l.Nodup->l.Pairwise (·<·)
 | [],_,_=>.nil
 | x::l,h,d=>by
  rw[aaY] at h ⊢
  rw[abz] at d
  refine⟨fun y hy=>?_,jx h.2 d.2⟩
  have:=h.1 y hy
  have:x≠y:=fun e=>d.1 (e▸hy)
  omega
theorem md {X:Cx}(hc:X.calm=true):gI X (.builtin "sorted") (fun xs H Q=>∃ (p:Addr) (ns:List Int),xs=[.ref p]/\H p=some (.ext (En X.prog X.w p ns))/\ns.length<64 /\
  ∀ (q:Addr) (ks:List Int),H q=none->ks.Pairwise (·<·)->(∀ k,k∈ks↔k∈ns)->Q (.ref q) (upd H q (.lst (ks.map V.int)))):=by
 intro pins s σ H xs us Q I rv h
 obtain⟨p,ns,rfl,hH,zY,q⟩:=h
 obtain⟨u,rfl,ru⟩:=rv.one
 cases ru
 obtain⟨⟨D,dn,dm,o,es,ep,t,ho,hex,hd,xu,o8,hb,hf,hn,g⟩,_,_⟩:=(show bI X.prog X.w H s.heap p (.ext (En X.prog X.w p ns)) from I.bh p _ hH)
 have dl:D.length<=ns.length:=abC dn fun k hk=>(dm k).mp hk
 have sz:es.size<=sizeLine:=adX hb
 refine Calls.call_function_entry kind_sorted plain_sorted entry_sorted (args_sorted1 _) ?_
 unfold Builtin.«sorted»
 refine ZD (m:=checkCount "sorted" 1 1 _) (ZF ?_)
 refine ZD (Em (A:=X.A.in1) (show X.A.in1.handled=none from I.ok.hd hc) (⟨o,ho,hex,hd,hf⟩:fg s.heap p es ep t) sz g fun h' tk d acc hk bR=>?_)
 have Oj:acc.toList.length=D.length:=by rw[bR.length_eq,ZR,aac,hn]
 refine ZD (wpAny_newList ?_ (by rw[Oj,<- hn];exact sz))
 obtain⟨ks,hI⟩:=sZ acc.toList fun v hv=>by
  obtain⟨e,he,rfl⟩:=abm.mp (bR.mem_iff.mp hv)
  obtain⟨⟨k,hk,_⟩,_⟩:=xu e he
  obtain⟨t,ht⟩:=jP hk
  exact⟨k,t,ht⟩
 have Ol:∀ k,k∈ks↔k∈D:=fun k=>by
  rw[tf hI k,<- qG (l:=D),o8 k]
  constructor
  ·rintro⟨t,ht⟩
   obtain⟨e,he,e2⟩:=abm.mp (bR.mem_iff.mp ht)
   exact⟨e,he,by rw[e2];exact intKind_is _ _ _ _⟩
  ·rintro⟨e,he,hk⟩
   obtain⟨t,ht⟩:=jP hk
   exact⟨t,bR.mem_iff.mpr (abm.mpr ⟨e,he,ht⟩)⟩
 have kl:ks.length=D.length:=by rw[<- hI.length,Oj]
 have knd:ks.Nodup:=sX ks D dn (fun x hx=>(Ol x).mpr hx) (by omega)
 have AM:(h'.push (seqObj "list" acc.toList.toArray 0)).get? h'.objs.size=some (seqObj "list" acc.toList.toArray 0):=ZN _ rfl
 refine ZD (aaj (aaP slot_list_sort ⟨_,AM,rfl⟩ entry_list_sort (list_sort_tree AM hI (by omega) fun out zU a1 a2 a3=>⟨_,rfl,?_⟩) (args_list_sort _)))
 have I2:Inv X pins σ H { s with heap:=h',toks:=tk,drawn:=d }:=I.og (s':={ s with heap:=h',toks:=tk,drawn:=d }) (ch:=[]) rfl (Un.kept hk) (I.bh.kept hk) I.bare fun b z=>absurd z (by simp)
 refine ZF ⟨_,rfl,.ref h'.objs.size,upd H h'.objs.size (.lst (zU.map V.int)),?_,rfl,?_⟩
 ·obtain⟨e,he⟩:=sortedHeap_at (out:=out) AM
  refine I2.laid (t':=tk) (fun b o e=>?_) (ZL _) ⟨?_,out.toList,e,oA a1,?_⟩
  ·have fZ:b<h'.objs.size:=ZH e
   rw[sortedHeap_old (ZP fZ) (by rw[size_push'];exact aaL fZ)]
   exact ZE _ e
  ·rw[ZR,a2.length_eq,kl,<- hn];exact sz
  ·rw[Array.toArray_toList];exact he
 ·exact q _ zU (I2.bh.fresh (ZL _)) (jx a3 (a2.nodup_iff.mpr knd)) fun k=>by rw[a2.mem_iff,Ol k,dm k]
end L2
namespace L2
open PySem PySem.Spec PyProof.Rows PySem.SeqAt
end L2
namespace L2
open PySem PySem.Spec PyProof.Rows
section
variable {X:Cx}{N:List Str}{fr:List Nat}{x x2 x3:Str}{scope:Scope}{cl:List (Str × Addr)}{elt iter:Expr}{px Cc W4 tp pos:Pos}{kt:Nat}{wi:TI}{te:TE}
end
section
variable {X:Cx}{N:List Str}{fr:List Nat}{x x2 x3:Str}{scope:Scope}{cl:List (Str × Addr)}{elt iter:Expr}{px Cc W4 tp pos:Pos}{kt:Nat}{wi:TI}{te:TE}
end
section
variable {P:Program}{w:World}{A:Around}{E:Value->Shared->Prop}{s:Shared}
end
end L2
namespace P0
open PySem L2
def top (i:Nat):Stmt:=PySem.Challenge.pw_conicplaces_k44_small_points.main.body.getD i (.Pass ⟨0,0,0,0⟩)
abbrev iG:Stmt:=top 10
abbrev gu:Stmt:=top 11
abbrev jQ:Stmt:=top 12
abbrev ng:Stmt:=top 13
abbrev dH:Stmt:=top 14
abbrev lu:Stmt:=top 16
abbrev nt:Stmt:=top 17
abbrev iH:Stmt:=top 18
abbrev hJ:Stmt:=top 19
abbrev jR:Stmt:=top 21
abbrev lA:Stmt:=top 22
abbrev lB:Stmt:=top 24
abbrev jr:Stmt:=top 25
abbrev cZ:Stmt:=top 26
abbrev dI:Stmt:=top 27
abbrev nv:Stmt:=top 28
abbrev iI:Stmt:=top 29
abbrev iJ:Stmt:=top 30
abbrev nA:Stmt:=top 32
abbrev hX:Stmt:=top 33
abbrev gv:Stmt:=top 35
abbrev lC:Stmt:=top 36
abbrev gw:Stmt:=top 37
abbrev eh:Stmt:=top 38
abbrev dJ:Stmt:=top 39
abbrev lD:Stmt:=top 41
abbrev ia:Stmt:=top 42
abbrev jS:Stmt:=top 43
abbrev jT:Stmt:=top 44
abbrev uk:Stmt:=top 45
abbrev jU:Stmt:=top 46
abbrev iK:Stmt:=top 47
abbrev iL:Stmt:=top 49
abbrev fD:Stmt:=top 50
abbrev lE:Stmt:=top 51
abbrev fE:Stmt:=top 52
abbrev fh:Stmt:=top 53
abbrev qH:Stmt:=top 54
abbrev jV:Stmt:=top 55
abbrev lF:Stmt:=top 56
abbrev nB:Stmt:=top 57
abbrev KN:Stmt:=top 59
abbrev um:Stmt:=top 60
abbrev uo:Stmt:=top 61
abbrev qI:Stmt:=top 62
abbrev qJ:Stmt:=top 63
abbrev jW:Stmt:=top 64
abbrev bD:Stmt:=top 65
abbrev jX:Stmt:=top 66
abbrev jY:Stmt:=top 67
abbrev Eo:Stmt:=top 68
abbrev qK:Stmt:=top 69
abbrev iM:Stmt:=top 70
abbrev gO:Stmt:=top 71
abbrev qL:Stmt:=top 72
abbrev nE:Stmt:=top 73
abbrev fF:Stmt:=top 74
abbrev uq:Stmt:=top 75
abbrev Ep:Stmt:=top 76
abbrev cm:Stmt:=inClass (top 8) 0
structure KO where
 (ce c0 c1 c2 c3 c4 c5 c6 i5 lc lP:Addr)
structure Txt (K:W.Frag)(mg:Str->Option Value)(t:KO):Prop where
 mh:mg "CurveError"=some (.ref t.ce)
 KP:mg "NoNumber"=some (.ref t.c0)
 Om:mg "NoBack"=some (.ref t.c1)
 Oo:mg "NoJoin"=some (.ref t.c2)
 Oq:mg "NoSign"=some (.ref t.c3)
 lG:mg "NotPlain"=some (.ref t.c4)
 BS:mg "NoPlace"=some (.ref t.c5)
 lH:mg "BadPlace"=some (.ref t.c6)
 W5:W.kitOne K (.ref t.c6) (.ref t.ce)=some true
 Zj:W.kitOne K (.ref t.c6) (.ref t.c0)=some false
 Zk:W.kitOne K (.ref t.c6) (.ref t.c1)=some false
 Zl:W.kitOne K (.ref t.c6) (.ref t.c2)=some false
 Zm:W.kitOne K (.ref t.c6) (.ref t.c3)=some false
 W6:W.kitOne K (.ref t.c6) (.ref t.c4)=some false
 W7:W.kitOne K (.ref t.c6) (.ref t.c5)=some false
 Zn:W.kitOne K (.ref t.c6) (.ref t.c6)=some true
 Sv:W.kitOne K (.ref t.c6) (.type "ValueError")=some true
 e0:(W.clsIn K t.c6).isSome=true
 e1:W.findIn K (.ref t.c6) "__getattribute__"=some (some (.builtin "BaseException.__getattribute__"))
 e2:W.findIn K (.ref t.c6) "__getattr__"=some none
 e3:W.findIn K (.ref t.c6) "__class__"=some (some (.builtin "object.__class__"))
 e4:W.specialIn K (.builtin "object.__class__") "__get__"=some (some (.builtin "getset_descriptor.__get__"))
 e5:W.takesIn K (.builtin "object.__class__")=some true
 e6:W.mroIn K t.c6 (.type "object")=some true
 e7:W.mroIn K t.c6 (.type "BaseException")=some true
 js:fB K t.c6 t.i5=true
 wI:W.isFn K (.ref t.i5)=true
 wJ:W.findIn K (.ref t.c6) "place"=some none
 wK:(W.clsIn K t.c6).map (·.hasDict)=some true
 wL:W.findIn K (.ref t.c6) "__setattr__"=some (some (.builtin "object.__setattr__"))
 wM:(W.clsIn K t.c6).any (fun cd=>qe cd.mro)=true
 Sw:W.kitOne K (.ref t.c4) (.ref t.ce)=some true
 UQ:W.kitOne K (.ref t.c4) (.ref t.c0)=some false
 UR:W.kitOne K (.ref t.c4) (.ref t.c1)=some false
 US:W.kitOne K (.ref t.c4) (.ref t.c2)=some false
 UT:W.kitOne K (.ref t.c4) (.ref t.c3)=some false
 UU:W.kitOne K (.ref t.c4) (.ref t.c4)=some true
 UW:W.kitOne K (.ref t.c4) (.ref t.c5)=some false
 Ot:W.kitOne K (.ref t.c4) (.ref t.c6)=some false
 KQ:W.kitOne K (.ref t.c4) (.type "ValueError")=some true
 Sx:(W.clsIn K t.c4).isSome=true
 Sy:W.findIn K (.ref t.c4) "__getattribute__"=some (some (.builtin "BaseException.__getattribute__"))
 SA:W.findIn K (.ref t.c4) "__getattr__"=some none
 SD:W.findIn K (.ref t.c4) "__class__"=some (some (.builtin "object.__class__"))
 SE:W.specialIn K (.builtin "object.__class__") "__get__"=some (some (.builtin "getset_descriptor.__get__"))
 SG:W.takesIn K (.builtin "object.__class__")=some true
 SH:W.mroIn K t.c4 (.type "object")=some true
 SI:W.mroIn K t.c4 (.type "BaseException")=some true
 lI:W.excIn K t.c4 eG "ValueError.__new__"=true
 y1:W.specialIn K (.ref t.ce) "__getattribute__"=some (some (.builtin "type.__getattribute__"))
 y2:W.readsIn K t.ce (.type "type")=true
 y3:W.findCls K (.ref t.ce) (.type "type") "__init__"=some (.val (.builtin "ValueError.__init__"))
 ur:W.excIn K t.ce eG "ValueError.__new__"=true
 yH:W.mroIn K t.c6 (.ref t.ce)=some true
 yI:W.mroIn K t.c4 (.ref t.ce)=some true
 Ou:W.mroIn K t.c4 (.ref t.c6)=some false
 lam:z7 K t.lc t.lP=true
 SJ:W.kitOne K (.type "int") (.type "bool")=some false
 cD:mg "isinstance"=none
 wN:mg "int"=none
 KR:mg "bool"=none
 IB:mg "len"=none
 iD:mg "range"=none
 Au:mg "tuple"=none
 Av:mg "all"=none
 fW:mg "abs"=none
 IC:mg "sum"=none
 Ov:mg "zip"=none
 Ow:mg "max"=none
 ID:mg "min"=none
 Er:mg "list"=none
 qM:mg "sorted"=none
 IE:mg "set"=none
 mi:mg "ValueError"=none
theorem Txt.exc {K:W.Frag}{mg:Str->Option Value}{t:KO}(T:Txt K mg t):jn K t.c6:=⟨T.e0,T.e1,T.e2,T.e3,T.e4,T.e5,T.e6,T.e7⟩
theorem Txt.IF {K:W.Frag}{mg:Str->Option Value}{t:KO}(T:Txt K mg t):jn K t.c4:=⟨T.Sx,T.Sy,T.SA,T.SD,T.SE,T.SG,T.SH,T.SI⟩
theorem Txt.wO {K:W.Frag}{mg:Str->Option Value}{t:KO}(T:Txt K mg t):Rg K t.c6 t.i5:=⟨T.js,T.wI⟩
theorem Txt.mj {K:W.Frag}{mg:Str->Option Value}{t:KO}(T:Txt K mg t):mV K t.c6 "place":=⟨T.exc,T.wJ,T.wK⟩
theorem Txt.uw {K:W.Frag}{mg:Str->Option Value}{t:KO}(T:Txt K mg t):tU K t.c6 "place":=⟨T.mj,T.wL,T.wM⟩
theorem oO:bootBuiltins "isinstance"=some (.builtin "isinstance"):=by decide +kernel
theorem wQ:bootBuiltins "int"=some (.type "int"):=by decide +kernel
theorem KS:bootBuiltins "bool"=some (.type "bool"):=by decide +kernel
theorem Aw:bootBuiltins "tuple"=some (.type "tuple"):=by decide +kernel
theorem Ax:bootBuiltins "all"=some (.builtin "all"):=by decide +kernel
theorem fX:bootBuiltins "abs"=some (.builtin "abs"):=by decide +kernel
theorem IG:bootBuiltins "sum"=some (.builtin "sum"):=by decide +kernel
theorem Ox:bootBuiltins "max"=some (.builtin "max"):=by decide +kernel
theorem IH:bootBuiltins "min"=some (.builtin "min"):=by decide +kernel
theorem Es:bootBuiltins "list"=some (.type "list"):=by decide +kernel
theorem wR:bootBuiltins "sorted"=some (.builtin "sorted"):=by decide +kernel
theorem II:bootBuiltins "set"=some (.type "set"):=by decide +kernel
theorem mm:bootBuiltins "ValueError"=some (.type "ValueError"):=by decide +kernel
theorem oP {c A B:Prop} [Decidable c] (hc:¬ c)(h:B):if decide c=true then A else B:=by
 rw[aao hc]
 exact ik h
theorem neT {c:Prop} [Decidable c] (h:(!decide c)=true):¬ c:=by
 intro z
 rw[aay z] at h
 cases h
theorem Oy {c:Prop} [Decidable c] (h:¬ (!decide c)=true):c:=by
 by_cases z:c
 ·exact z
 ·exact absurd (by rw[aao z];rfl) h
theorem cK {a b:Int}(h1:-(2^64)<b)(h2:b<2^64):IntMulOk a b:=acD (acy h1 h2)
theorem kO {a b:Int}(h1:-(2^64)<a)(h2:a<2^64):IntMulOk a b:=IntMulOk.of_left (acy h1 h2)
@[irreducible] def Lm:Nat:=2^1000
theorem tj:Lm=2^1000:=by unfold Lm;rfl
theorem KU:1<=Lm:=by rw[tj];decide +kernel
theorem Ay {x:Int}(h:x.natAbs<=8*Lm):Builtin.Int.intBits x<=1004:=intBits_le_iff.mpr (abh h (by rw[tj];decide +kernel))
theorem nF {x:Int}(h:x.natAbs<=8*Lm):x.natAbs.log2<9000:=ZM (log2_lt_of (k:=1004) (abh h (by rw[tj];decide +kernel)) (by decide)) (by decide)
theorem mulL {a b:Int}(ha:a.natAbs<=8*Lm)(hb:b.natAbs<=8*Lm):IntMulOk a b:=IntMulOk.of_le (Ay ha) (Ay hb) (by decide)
theorem nG (a b:Int):a-a.fdiv b*b=a.fmod b:=by rw[aee,ZX]
inductive Et (vs:List V)(H:Hp)(Q:VK)(bK:XK):Prop
 | mk:∀ (pa pb:Addr) (x s t y u v k:Int),(vs=[.ref pa,.ref pb,.int k])->(H pa=some (.tup [.int x,.int s,.int t]))->(H pb=some (.tup [.int y,.int u,.int v]))->(IntMulOk k y)->(IntMulOk k u)->(IntMulOk k v)->(∀ (p:Addr) (H':Hp),aw H H'->H' p=some (.tup [.int (x-k*y),.int (s-k*u),.int (t-k*v)])->Q (.ref p) H')->Et  vs H Q bK
inductive i6 (vs:List V)(H:Hp)(Q:VK)(bK:XK):Prop
 | mk:∀ (x y:Int),(vs=[.int x,.int y])->(x.natAbs<=Lm)->(y.natAbs<=Lm)->(∀ (p:Addr) (H':Hp) (g s t:Int),aw H H'->H' p=some (.tup [.int g,.int s,.int t])->0<=g->g=s*x+t*y->(∃ k,x=k*g)->(∃ k,y=k*g)->s.natAbs<=8*Lm->t.natAbs<=8*Lm->Q (.ref p) H')->i6  vs H Q bK
theorem ux {A:Around}{k:Nat}(hr:dt k A):A.units+64<cLine:=by
 have:=hr.un
 omega
theorem IJ {b:Bool}{A B:Prop}(h:b=true)(hB:B):if (!b)=true then A else B:=by
 subst h
 exact ik hB
open Sm Lw Pn
theorem M7 {x y:Int}(hx:Bd 4000 x)(hy:Bd 4000 y):IntMulOk x y:=
 IntMulOk.of_le (m:=4001) (n:=4001) (intBits_le_iff.mpr (abh hx (Nat.pow_lt_pow_right (by decide) (by decide)))) (intBits_le_iff.mpr (abh hy (Nat.pow_lt_pow_right (by decide) (by decide)))) (by decide)
theorem Az {j k:Nat}{x y:Int}(hx:Bd j x)(hy:Bd k y)(h1:j<=4000:=by omega)(h2:k<=4000:=by omega):IntMulOk x y:=M7 (hx.mono h1) (hy.mono h2)
theorem L5 {y:Int}:IntMulOk 2 y:=IntMulOk.of_left (acy (by decide) (by decide))
abbrev v3 (P:P3):List V:=[.int P.x,.int P.y,.int P.z]
abbrev t3 (P:P3):HO:=.tup (v3 P)
def S3 (H:Hp)(p:Addr)(P:P3):Prop:=H p=some (t3 P)
def S6 (H:Hp)(p:Addr)(Q:F6):Prop:=H p=some (.tup [.int Q.a,.int Q.b,.int Q.c,.int Q.d,.int Q.e,.int Q.f])
def ST (H:Hp)(p:Addr)(t:T3):Prop:=∃ r0 r1 r2:Addr,H p=some (.tup [.ref r0,.ref r1,.ref r2])/\S3 H r0 t.r0/\S3 H r1 t.r1/\S3 H r2 t.r2
def SK:V->V->V
 | .int a,.int b=>.int (a*b)
 | _,_=>.eB
def P1 (H:Hp)(p:Addr)(x y z:Int):Prop:=H p=some (.tup [.int x,.int y,.int z])
def P2 (M:Int)(x y z:Int):Prop:=(-M<=x/\x<=M)/\(-M<=y/\y<=M)/\(-M<=z/\z<=M)
def NZ (x y z:Int):Prop:=x≠0\/y≠0\/z≠0
@[irreducible] def Top:Int:=2^900
theorem Eu:Top=2^900:=by unfold Top;rfl
theorem KW:Top<=Lm:=by rw[Eu,tj];decide +kernel
theorem yJ {x:Int}(h:Bd 900 x):-Top<=x/\x<=Top:=by
 have e:Top=((2^900:Nat):Int):=by rw[Eu];decide +kernel
 unfold Bd at h
 rw[e]
 generalize (2:Nat)^900=N at h
 omega
theorem KY {P:P3}(h:BP 900 P):P2 Top P.x P.y P.z:=⟨yJ h.x,yJ h.y,yJ h.z⟩
theorem G3 {x y z:Int}(h:P2 Top x y z):x.natAbs<=Lm/\y.natAbs<=Lm/\z.natAbs<=Lm:=by
 have:=KW
 unfold P2 at h
 omega
theorem KZ {k:Nat}{x:Int}(h:Bd k x):Bd k (-x):=by
 unfold Bd at *
 rw[ad2]
 exact h
theorem Ew {k:Nat}{P R:P3}(h:BP k P)(h2:BP k R):BP (k+1) (ad P R):=⟨h.x.add h2.x,h.y.add h2.y,h.z.add h2.z⟩
def st (P:P3)(m:Int):P3:=⟨P.x*m,P.y*m,P.z*m⟩
theorem SM {k:Nat}:Bd k 0:=by
 unfold Bd
 exact aaH _
inductive Gen (ns:List Int):Int->Prop where
 | zero:Gen ns 0
 | mem {n:Int}:n∈ns->Gen ns n
 | sub {a b:Int}:Gen ns a->Gen ns b->Gen ns (a-b)
 | mul (k:Int) {a:Int}:Gen ns a->Gen ns (k*a)
theorem Gen.rest {ns:List Int}{f o:Int}(h:Gen ns f)(h2:Gen ns o):Gen ns (f%o):=by
 have h3:=acA f o
 have h4:f%o=f-f / o*o:=by rw[ZX (f / o) o];omega
 rw[h4]
 exact h.sub (h2.mul _)
theorem Gen.neg {ns:List Int}{f:Int}(h:Gen ns f):Gen ns (-f):=by
 have:=h.mul (-1)
 rw[show (-1)*f=-f by omega] at this
 exact this
theorem get3 {x y z:Int}{i:Nat}{v:V}(h:[V.int x,.int y,.int z][i]?=some v):∃ n,v=.int n/\[x,y,z][i]?=some n:=by
 match i,h with
 | 0,h=>exact⟨x,(ZG h).symm,rfl⟩
 | 1,h=>exact⟨y,(ZG h).symm,rfl⟩
 | 2,h=>exact⟨z,(ZG h).symm,rfl⟩
theorem Ey {f o d:Int}(h1:d∣o)(h2:d∣f%o):d∣f/\d∣o:=⟨by
 rw[<- acA f o]
 exact acs h2 (aaf h1 (aaX _ _)),h1⟩
inductive K0 (vs:List V)(H:Hp)(Q:VK)(bK:XK):Prop
 | mk:∀ (p:Addr) (F:F6),(vs=[.ref p])->(S6 H p F)->(∀ (r:Addr) (H':Hp),aw H H'->ST H' r (sl F)->Q (.ref r) H')->K0  vs H Q bK
inductive wU (K:W.Frag)(vs:List V)(H:Hp)(Q:VK)(bK:XK):Prop
 | mk:∀ (p:Addr) (P:P3) (m:Int),(vs=[.ref p,.int m])->(aO K H p (v3 P))->(BP 900 P)->(Bd 900 m)->(∀ (z:Addr) (H':Hp),aw H H'->S3 H' z (st P m)->Q (.ref z) H')->wU K vs H Q bK
inductive qN (vs:List V)(H:Hp)(Q:VK)(bK:XK):Prop
 | mk:∀ (p:Addr) (b:Bool) (ns:List Int),(vs=[.ref p])->(H p=some (Ho b (ns.map V.int)))->(∀ g:Int,0<=g->(∀ n∈ns,g∣n)->Gen ns g->Q (.int g) H)->qN  vs H Q bK
def nz:V->Bool
 | .int n=>!decide (V.int n=V.int 0)
 | _=>false
def o9 (x y z:Int):Int:=if x≠0 then x else if y≠0 then y else z
theorem K1 {n:Int}(h:n≠0):nz (.int n)=true:=by
 show (!decide (V.int n=V.int 0))=true
 rw[aao (fun z=>h (V.int.inj z))]
 rfl
theorem Oz {n:Int}(h:n=0):nz (.int n)=false:=by
 subst h
 show (!decide (V.int 0=V.int 0))=false
 rw[aay rfl]
 rfl
theorem BR {α:Type}{v:α}{l:List α}:pZ (v::l) (0:Int)=some v:=by
 have:pZ (v::l) ((0:Nat):Int)=some v:=zy rfl
 exact this
theorem Ez {x y z:Int}(h:NZ x y z):pZ (([V.int x,.int y,.int z].filter nz).map id) (0:Int)=some (.int (o9 x y z)):=by
 unfold o9
 by_cases h1:x≠0
 ·rw[aag h1,ab8,K1 h1,aag rfl]
  exact BR
 ·rw[Z4 h1,ab8,Oz (Decidable.not_not.mp h1),Z4 ZJ]
  by_cases h2:y≠0
  ·rw[aag h2,ab8,K1 h2,aag rfl]
   exact BR
  ·rw[Z4 h2,ab8,Oz (Decidable.not_not.mp h2),Z4 ZJ,ab8,K1 (show z≠0 by unfold NZ at h;omega),aag rfl]
   exact BR
theorem G4 {x y z:Int}(h:rY x y z):0<o9 x y z:=by
 unfold o9
 unfold rY at h
 split
 ·omega
 ·split
  ·omega
  ·omega
theorem K2 {x y z:Int}(h:rY x y z):NZ x y z:=by
 unfold rY at h
 unfold NZ
 omega
theorem K4 {x y z a b c d:Int}(hd:d≠0)(hx:x=d*a)(hy:y=d*b)(hz:z=d*c)(n:NZ x y z)(h:(0<d/\0<o9 x y z)\/(d<0/\o9 x y z<0)):rY a b c:=by
 have key:∀ {x a:Int},x=d*a->((x=0↔a=0)/\((0<d/\0<x)\/(d<0/\x<0)->0<a)):=by
  intro x a e
  subst e
  refine⟨⟨fun z=>?_,fun z=>by rw[z,aaF]⟩,fun z=>?_⟩
  ·rcases abg.mp z with w|w
   ·exact absurd w hd
   ·exact w
  ·rcases z with ⟨h1,h2⟩|⟨h1,h2⟩
   ·exact Int.pos_of_mul_pos_left (by rw[ZX];exact h2) h1
   ·have h3:0<(-d)*a:=by rw[aaS];omega
    exact Int.pos_of_mul_pos_left (by rw[ZX];exact h3) (show 0 < -d by omega)
 obtain⟨x1,x2⟩:=key hx
 obtain⟨y1,y2⟩:=key hy
 obtain⟨z1,z2⟩:=key hz
 unfold o9 at h
 unfold rY
 unfold NZ at n
 by_cases c1:x=0
 ·rw[Z4 (by omega)] at h
  by_cases c2:y=0
  ·rw[Z4 (by omega)] at h
   exact .inr (.inr ⟨x1.mp c1,y1.mp c2,z2 h⟩)
  ·rw[aag c2] at h
   exact .inr (.inl ⟨x1.mp c1,y2 h⟩)
 ·rw[aag c1] at h
  exact .inl (x2 h)
theorem K5 {x y z:Int}(h:NZ x y z):o9 x y z≠0:=by
 unfold o9
 unfold NZ at h
 split
 ·assumption
 ·split
  ·assumption
  ·omega
theorem EA {g s t x y k1 k2:Int}(hx:x.natAbs<=Lm)(hy:y.natAbs<=Lm)(eg:g=s*x+t*y)(e1:x=k1*g)(e2:y=k2*g):g.natAbs<=Lm:=by
 by_cases h1:x=0
 ·by_cases h2:y=0
  ·subst h1 h2
   rw[aaF,aaF] at eg
   subst eg
   exact aaH _
  ·refine ZV (abw (by omega) (aap.mpr ⟨k2,?_⟩)) hy
   rw[ZX]
   exact e2
 ·refine ZV (abw (by omega) (aap.mpr ⟨k1,?_⟩)) hx
  rw[ZX]
  exact e1
theorem SN {ns:List Int}{i:Nat}{v:V}(h:(ns.map V.int)[i]?=some v):∃ n,v=.int n/\ns[i]?=some n/\n∈ns:=by
 rw[ZU] at h
 cases e:ns[i]? with
 | none=>rw[e] at h;cases h
 | some n=>rw[e] at h;exact⟨n,(ZG h).symm,rfl,aau e⟩
inductive kE (vs:List V)(H:Hp)(Q:VK)(bK:XK):Prop
 | mk:∀ (x p:Int),(vs=[.int x,.int p])->(x≠0)->(2<=p)->(p.natAbs.log2<9000)->(∀ (r:Addr) (H':Hp) (o l:Int),aw H H'->H' r=some (.tup [.int o,.int l])->Pr.Gu x p l o->0<=o->l.fmod p≠0->l≠0->l.natAbs<=x.natAbs->(0<x->0<l)->(x<0->l<0)->Q (.ref r) H')->kE  vs H Q bK
theorem yK {l p:Int}(h2:2<=p)(l0:l≠0)(hz:l.fmod p=0):l.fdiv p≠0/\(l.fdiv p).natAbs<l.natAbs/\(0<l->0<l.fdiv p)/\(l<0->l.fdiv p<0):=by
 have q:=Pr.quot l p
 rw[hz] at q
 have e:l=p*l.fdiv p:=by omega
 generalize l.fdiv p=k at e
 have k0:k≠0:=fun z=>l0 (by rw[e,z,aaF])
 have ea:l.natAbs=p.natAbs*k.natAbs:=by rw[e,Z7]
 have pa:2<=p.natAbs:=by omega
 have ka:1<=k.natAbs:=by omega
 refine⟨k0,?_,fun h=>?_,fun h=>?_⟩
 ·have:=acC k.natAbs pa
  omega
 ·rcases ab1 k 0 with z|z|z
  ·have:=acT (show 0<p by omega) z
   omega
  ·exact absurd z k0
  ·exact z
 ·rcases ab1 k 0 with z|z|z
  ·exact z
  ·exact absurd z k0
  ·have:=aat (show 0<p by omega) z
   omega
theorem SO (z:Int):HG (.int z) [.int 3,.int 5]=decide (z=3\/z=5):=by
 show ((3:Int)==z || ((5:Int)==z || false))=_
 by_cases h3:z=3
 ·subst h3;rfl
 ·by_cases h5:z=5
  ·subst h5;rfl
  ·have e3:((3:Int)==z)=false:=by simpa using fun e=>h3 (Eq.symm e)
   have e5:((5:Int)==z)=false:=by simpa using fun e=>h5 (Eq.symm e)
   rw[e3,e5,aao (by simp[h3,h5])]
   rfl
theorem pN (b:Int):Jc.hG b=1\/Jc.hG b=-1:=by unfold Jc.hG;split<;>simp
theorem qO (a b:Int):Jc.iB a b=1\/Jc.iB a b=-1:=by unfold Jc.iB;split<;>simp
inductive uy (vs:List V)(H:Hp)(Q:VK)(bK:XK):Prop
 | mk:∀ (x:Int),(vs=[.int x])->(∀ H',aw H H'->Q (.int (Jc.hG x)) H')->uy  vs H Q bK
inductive pO (vs:List V)(H:Hp)(Q:VK)(bK:XK):Prop
 | mk:∀ (a b:Int),(vs=[.int a,.int b])->(Q (.int (Jc.iB a b)) H)->pO  vs H Q bK
inductive uz (vs:List V)(H:Hp)(Q:VK)(bK:XK):Prop
 | mk:∀ (x n:Int),(vs=[.int x,.int n])->(0<n)->(n%2=1)->(n<2^64)->(∀ H',aw H H'->Q (.int (Jc.J x n)) H')->uz  vs H Q bK
def WS (x n:Int)(H:Hp)(m:Nat)(σ:St)(H':Hp):Prop:=∃ (sg top bot:Int) (tw od:Option V),σ=[some (.int x),some (.int n),some (.int sg),some (.int top),some (.int bot),tw,od]/\aw H H'/\0<=top/\0<bot/\bot%2=1/\bot<2^64/\top<2^64/\(sg=1\/sg=-1)/\sg*Jc.J top bot=Jc.J x n/\m=top.toNat
abbrev fo (H:Hp)(rs:List Addr)(xs:List (Int × Int)):Prop:=Paired (fun (r:Addr) (x:Int × Int)=>H r=some (.tup [.int x.1,.int x.2])) rs xs
theorem fo.same {H H':Hp}(g:aw H H'):∀ {rs:List Addr}{xs:List (Int × Int)},fo H rs xs->fo H' rs xs
 | _,_,.nil=>.nil
 | _,_,.cons h t=>.cons (g _ _ h) (fo.same g t)
theorem fo.app {H:Hp}{r:Addr}{x:Int × Int}(h:H r=some (.tup [.int x.1,.int x.2])):∀ {rs:List Addr}{xs:List (Int × Int)},fo H rs xs->fo H (rs++[r]) (xs++[x])
 | _,_,.nil=>.cons h .nil
 | _,_,.cons h' t=>.cons h' (fo.app h t)
theorem fo.upd {H:Hp}{a:Addr}{o:HO}:∀ {rs:List Addr}{xs:List (Int × Int)},fo H rs xs->(∀ ys,H a≠some (.tup ys))->fo (upd H a o) rs xs
 | _,_,.nil,_=>.nil
 | _,_,.cons h t,n=>.cons (by rw[aG (fun z=>by subst z;exact n _ h)];exact h) (fo.upd t n)
theorem fo.len {H:Hp}:∀ {rs:List Addr}{xs:List (Int × Int)},fo H rs xs->rs.length=xs.length
 | _,_,.nil=>rfl
 | _,_,.cons _ t=>by rw[aaz,aaz,fo.len t]
theorem fo.get {H:Hp}:∀ {rs:List Addr}{xs:List (Int × Int)}{i:Nat}{r:Addr},fo H rs xs->rs[i]?=some r->∃ x,xs[i]?=some x/\H r=some (.tup [.int x.1,.int x.2])
 | _,_,_,_,.nil,e=>by simp at e
 | _,_,0,_,.cons h _,e=>by simp at e;subst e;exact⟨_,rfl,h⟩
 | _,_,i+1,_,.cons _ t,e=>by
  obtain⟨x,h1,h2⟩:=fo.get (i:=i) t (by simpa using e)
  exact⟨x,by simpa using h1,h2⟩
inductive uA (vs:List V)(H:Hp)(Q:VK)(bK:XK):Prop
 | mk:∀ (d:Int),(vs=[.int d])->(Q (.int (if d=2 then 3 else d+2)) H)->uA  vs H Q bK
def W1 (n:Int)(pl:Addr)(H:Hp)(m:Nat)(σ:St)(H':Hp):Prop:=∃ (left d:Int) (xs:List (Int × Int)) (rs:List Addr) (of:Option V),σ=[some (.int n),some (.ref pl),some (.int left),some (.int d),of]/\aw H H'/\H' pl=some (.lst (rs.map V.ref)) /\
 fo H' rs xs/\Pr.Out n left d xs/\2<=d/\d<=10000000002/\1<=left/\m=(left+1-d).toNat
theorem OA {g:Int}(h:1<=g):g<=g*g:=by
 have:=aak h (show 0<=g by omega)
 omega
theorem short {n:Int}{xs:List (Int × Int)}(h:∀ x∈xs,Pr.Part x)(hn:Pr.aX xs<=n)(n1:n<=10000000000):xs.length<40:=by
 have h1:=Pr.DC h
 rcases adK xs.length 40 with h2|h2
 ·exact h2
 ·have h3:=Pr.qt h2
  have:(2:Int)^40=1099511627776:=by decide
  omega
theorem EB {n left d:Int}{xs:List (Int × Int)}(h:Pr.Out n left d xs)(l1:1<=left):Pr.aX xs<=n:=by
 have e:=h.prod
 have:=Pr.gk l1 (aaV (Pr.aX xs)) (by have:=Pr.iY h.all;omega)
 omega
theorem grown {H H1:Hp}{pl p:Addr}{rs:List Addr}{xs:List (Int × Int)}{x:Int × Int}(g:aw H H1)(hn:H pl=none)(hp:H1 p=none)(h1:H1 pl=some (.lst (rs.map V.ref)))(h2:fo H1 rs xs) :
  aw H (upd (upd H1 p (.tup [.int x.1,.int x.2])) pl (.lst (rs.map V.ref++[.ref p])))/\(upd (upd H1 p (.tup [.int x.1,.int x.2])) pl (.lst (rs.map V.ref++[.ref p]))) pl=some (.lst ((rs++[p]).map V.ref)) /\
  fo (upd (upd H1 p (.tup [.int x.1,.int x.2])) pl (.lst (rs.map V.ref++[.ref p]))) (rs++[p]) (xs++[x]):=by
 have G5:p≠pl:=fun z=>by subst z;rw[h1] at hp;cases hp
 have g2:=au hp (.tup [.int x.1,.int x.2])
 refine⟨fun b o q=>?_,?_,?_⟩
 ·rw[aG (aI q hn)]
  exact g2 b o (g b o q)
 ·rw[ah,aaw]
  rfl
 ·have t:fo (L2.upd H1 p (.tup [.int x.1,.int x.2])) (rs++[p]) (xs++[x]):=fo.app ah (fo.same g2 h2)
  exact t.upd fun ys z=>by
   rw[aG G5.symm,h1] at z
   cases z
inductive jZ (vs:List V)(H:Hp)(Q:VK)(E:XK):Prop
 | mk:∀ (n:Int),(vs=[.int n])->(1<=n)->(n<=10000000000)->(∀ (p:Addr) (rs:List Addr) (xs:List (Int × Int)) (H':Hp),aw H H'->H p=none->H' p=some (.lst (rs.map V.ref))->fo H' rs xs->Pr.Told n xs->Q (.ref p) H')->jZ  vs H Q E
theorem tm {n:Nat}(h:n<1000):n<sizeLine:=ZM h (by decide)
inductive uB (vs:List V)(H:Hp)(Q:VK)(bK:XK):Prop
 | mk:∀ (r1 r2:Addr) (o1 l1 o2 l2:Int),(vs=[.ref r1,.ref r2])->(H r1=some (.tup [.int o1,.int l1]))->(H r2=some (.tup [.int o2,.int l2]))->(∀ H',aw H H'->Q (.int (Jc.Bz o1 l1 o2 l2)) H')->uB  vs H Q bK
inductive uC (vs:List V)(H:Hp)(Q:VK)(bK:XK):Prop
 | mk:∀ (r1 r2:Addr) (o1 l1 o2 l2 p:Int),(vs=[.ref r1,.ref r2,.int p])->(H r1=some (.tup [.int o1,.int l1]))->(H r2=some (.tup [.int o2,.int l2]))->(0<p)->(p%2=1)->(p<2^64)->((Bd 100 l1/\Bd 100 l2))->(∀ H',aw H H'->Q (.int (Jc.By p o1 l1 o2 l2)) H')->uC  vs H Q bK
def At (a b p v:Int):Prop:=(p=0/\v=if a<0/\b<0 then -1 else 1)\/(Pr.bU p/\p<20000000000/\∃ o1 l1 o2 l2,Jc.Dec a p l1 o1/\Jc.Dec b p l2 o2/\v=Jc.hs p o1 l1 o2 l2)
inductive K6 (vs:List V)(H:Hp)(Q:VK)(bK:XK):Prop
 | mk:∀ (a b p v:Int),(vs=[.int a,.int b,.int p])->(a≠0)->(b≠0)->((Bd 100 a/\Bd 100 b))->(At a b p v)->(∀ H',aw H H'->Q (.int v) H')->K6  vs H Q bK
theorem jq {p:Int}(h:Pr.bU p)(n2:p≠2):p%2=1:=by
 rcases (show p%2=0\/p%2=1 by omega) with z|z
 ·have:=h.two
  exact absurd (aaa z) (h.no 2 (by omega) (by omega))
 ·exact z
theorem nJ {xs:List (Int × Int)}{i:Nat}{x:Int × Int}(h:xs[i]?=some x):xs.take (i+1)=xs.take i++[x]:=by
 rw[ab7,h]
 rfl
def aF (n:Int):Int:=if n<0 then -n else n
def sgn (n:Int):Int:=if n<0 then -1 else 1
inductive uD (vs:List V)(H:Hp)(Q:VK)(bK:XK):Prop
 | mk:∀ (n:Int),(vs=[.int n])->(n≠0)->(-10000000000<=n)->(n<=10000000000)->(∀ (p:Addr) (xs:List (Int × Int)) (H':Hp),aw H H'->Pr.Told (aF n) xs->H' p=some (.tup [.int (sgn n*Pr.d7 xs),.int (Pr.df xs)])->Q (.ref p) H')->uD  vs H Q bK
theorem BU {xs:List (Int × Int)}{i:Nat}{p o:Int}(h:xs[i]?=some (p,o)):Pr.d7 (xs.take (i+1))=Pr.d7 (xs.take i)*(if o%2=1 then p else 1):=by
 rw[nJ h,Pr.Bv]
 simp[Pr.d7]
theorem BV {xs:List (Int × Int)}{i:Nat}{p o:Int}(h:xs[i]?=some (p,o)):Pr.df (xs.take (i+1))=Pr.df (xs.take i)*p^(o / 2).toNat:=by
 rw[nJ h,Pr.Bw]
 simp[Pr.df]
open Pl
def mF (n:Int):Prop:=n.natAbs<=10000000000
theorem abs_dvd {p n:Int}:p∣aF n↔p∣n:=by
 unfold aF
 split
 ·exact aa8
 ·exact Iff.rfl
def SQ (n:Int)(os:List Int):Prop:=os.Nodup/\∀ p,p∈os↔Pr.bU p/\p≠2/\p∣n
theorem BW {n:Int}{xs:List (Int × Int)}(h:Pr.Told (aF n) xs):SQ n ((xs.map (·.1)).filter fun p=>decide (2<p)):=by
 refine⟨?_,fun p=>?_⟩
 ·show List.Pairwise (·≠·) _
  exact (abZ.mpr (h.rise.imp (fun hx e=>by omega))).filter _
 ·rw[abA,DS h,abs_dvd]
  constructor
  ·rintro⟨⟨a,b⟩,c⟩
   have:2<p:=acq c
   exact⟨a,by omega,b⟩
  ·rintro⟨a,b,c⟩
   have:=a.two
   exact⟨⟨a,c⟩,aay (by omega)⟩
inductive uE (vs:List V)(H:Hp)(Q:VK)(bK:XK):Prop
 | mk:∀ (a b c:Int),(vs=[.int a,.int b,.int c])->(kC a b c)->(mF a)->(mF b)->(mF c)->(∀ (p:Addr) (ks:List Int) (H':Hp),aw H H'->H p=none->H' p=some (.lst ((0::2::ks).map V.int))->(0::2::ks).Pairwise (·<·)->(0::2::ks).length<100->(∀ x,x∈ks↔Pr.bU x/\x≠2/\(x∣a\/x∣b\/x∣c))->Q (.ref p) H')->uE  vs H Q bK
theorem EC {n:Int}{xs:List (Int × Int)}(h:Pr.Told (aF n) xs)(hn:mF n):xs.length<34:=by
 have h1:=Pr.DC h.all
 rw[h.prod] at h1
 have h2:aF n<=10000000000:=by
  unfold aF mF at *
  split<;>omega
 by_cases c:xs.length<34
 ·exact c
 ·have:=Pr.qt (show 34<=xs.length by omega)
  have:(2:Int)^34=17179869184:=by decide
  omega
theorem SR {xs:List (Int × Int)}(h:∀ x∈xs,Pr.Part x):(3:Int)^((xs.map (·.1)).filter fun p=>decide (2<p)).length<=Pr.aX xs:=by
 induction xs with
 | nil=>simp[Pr.aX]
 | cons x r ih=>
  have h1:=ih fun y hy=>h y (.tail _ hy)
  have hp:=(h x (.head _)).prime.two
  have ho:=(h x (.head _)).often
  obtain⟨k,hk⟩:∃ k,x.2.toNat=k+1:=⟨x.2.toNat-1,by omega⟩
  have ge:x.1<=x.1^x.2.toNat:=by
   rw[hk,ZZ,ZX]
   exact Pr.gk (Pr.cA (by omega) k) (aaV _) (by omega)
  have pz:=Pr.cA (show (1:Int)<=3 by omega) ((r.map (·.1)).filter fun p=>decide (2<p)).length
  simp only[Pr.aX,ab0,ab8]
  split
  ·rename_i c
   have c':2<x.1:=acq c
   rw[aaz,ZZ,ZX]
   exact aaJ (by omega) h1 (by omega) (by omega)
  ·have:=aaJ (show (1:Int)<=x.1^x.2.toNat by omega) h1 (by omega) (by omega)
   omega
theorem G6 {n:Int}{xs:List (Int × Int)}(h:Pr.Told (aF n) xs)(hn:mF n):((xs.map (·.1)).filter fun p=>decide (2<p)).length<=20:=by
 have h1:=SR h.all
 rw[h.prod] at h1
 have h2:aF n<=10000000000:=by
  unfold aF mF at *
  split<;>omega
 by_cases c:((xs.map (·.1)).filter fun p=>decide (2<p)).length<=20
 ·exact c
 ·obtain⟨d,hd⟩:=Nat.exists_eq_add_of_le (show 21<=((xs.map (·.1)).filter fun p=>decide (2<p)).length by omega)
  rw[hd,ac9] at h1
  have:=Pr.cA (show (1:Int)<=3 by omega) d
  have e:(3:Int)^21=10460353203:=by decide
  rw[e] at h1
  omega
inductive K7 (K:W.Frag)(vs:List V)(H:Hp)(Q:VK)(bK:XK):Prop
 | mk:∀ (a:Addr) (ns:List Int) (k:Int),(vs=[.ref a,.int k])->(aR K H a (ns.map V.int))->(0<=k)->(k<1000)->(∀ n:Int,Q (.int n) H)->K7 K vs H Q bK
inductive mr (vs:List V)(H:Hp)(Q:VK)(bK:XK):Prop
 | mk:∀ (c p m:Int),(vs=[.int c,.int p,.int m])->(0<p)->(p<100000)->(0<m)->(∀ n:Int,0<=n->n<m->Q (.int n) H)->mr  vs H Q bK
theorem K8 {g x y z:Int}(o:BE x y z)(g0:0<=g)(hx:g∣x)(hy:g∣y)(hz:g∣z):g=1:=by
 obtain⟨u,v,w,e⟩:=o
 have:g∣1:=by
  rw[<- e]
  exact acs (acs (aaf hx (aab _ _)) (aaf hy (aab _ _))) (aaf hz (aab _ _))
 have h3:=Nat.dvd_one.mp (aap.mpr this)
 omega
theorem _root_.L2.aO.up {K:W.Frag}{H H':Hp}{a:Addr}{xs:List V}(e:aw H H')(h:aO K H a xs):aO K H' a xs:=by
 rcases h with (h|⟨o,h⟩)|h
 ·exact .inl (.inl (e _ _ h))
 ·exact .inl (.inr ⟨o,e _ _ h⟩)
 ·exact .inr h
theorem uF {H H':Hp}{p:Addr}{o:HO}(g:aw H H')(n:H p=none):aw H (upd H' p o):=fun b u z=>by
 rw[aG (aI z n)]
 exact g b u z
theorem _root_.L2.aR.up {K:W.Frag}{H H':Hp}{a:Addr}{xs:List V}(e:aw H H')(h:aR K H a xs):aR K H' a xs:=by
 rcases h with (h|⟨o,h⟩)|h
 ·exact .inl (.inl (e _ _ h))
 ·exact .inl (.inr ⟨o,e _ _ h⟩)
 ·exact .inr h
theorem _root_.L2.Sq.up {K:W.Frag}{H H':Hp}{b:Bool}{a:Addr}{xs:List V}(e:aw H H')(h:Sq K H b a xs):Sq K H' b a xs:=by
 cases b
 ·exact aO.up e h
 ·exact aR.up e h
theorem L6 {K:W.Frag}{H:Hp}{b:Bool}{p:Addr}{xs:List V}{i:Int}{v:V}{Q:VK}(h:Sq K H b p xs)(e:pZ xs i=some v)(q:Q v H):QU K (.ref p) (.int i) H Q:=by
 cases b
 ·exact .inr (.inl ⟨p,xs,i,v,rfl,rfl,h,e,q⟩)
 ·exact .inl ⟨p,xs,i,v,rfl,rfl,h,e,q⟩
theorem jt {K:W.Frag}{a:Addr}{xs:List V}{tc:TT}{te:TE}{σ:V->St}{H:Hp}{Q:VK}(hn:xs.length<sizeLine)(b:Nat->Bool)(hK:∀ H',aw H H'->aR K H' a xs)(R:Nat->List V->Prop)(R0:R 0 [])
  (Rt:∀ i x vs,xs[i]?=some x->b i=true->R i vs->R (i+1) (vs++[x])) (Rf:∀ i x vs,xs[i]?=some x->b i=false->R i vs->R (i+1) vs)
  (ht:∀ (i:Nat) (x:V) (H':Hp) (Q':Bool->Hp->Prop),xs[i]?=some x->aw H H'->(∀ H2,aw H' H2->Q' (b i) H2)->tc (σ x) H' Q')
  (he:∀ (i:Nat) (x:V) (H':Hp) (Q':VK),xs[i]?=some x->aw H H'->(∀ H2,aw H' H2->Q' x H2)->te (σ x) H' Q')
  (q:∀ a H' vs,aw H H'->H a=none->H' a=some (.lst vs)->R xs.length vs->Q (.ref a) H'):gR (Fq K a) Q H tc te σ:=by
 intro acc bR
 refine⟨fun i m H' vs=>i<=xs.length/\m=xs.length-i/\aw H H'/\H' acc=some (.lst vs)/\vs.length<=i/\R i vs,⟨xs.length,aaH _,by simp,au bR _,ah,ZL _,R0⟩,?_⟩
 rintro i m H' vs ⟨hi,rfl,g,ha,hv,r⟩
 refine⟨ha,?_⟩
 by_cases h:i=xs.length
 ·subst h
  exact .inl ⟨⟨xs,hK _ g,ZL _⟩,q acc H' vs g bR ha r⟩
 ·have fZ:i<xs.length:=by omega
  refine .inr ⟨⟨xs,xs[i],hK _ g,by simp[fZ]⟩,by omega,?_⟩
  rintro x H2 ⟨rfl,hx⟩
  have ex:=hx xs (hK _ g)
  refine ht i x _ _ ex g fun H3 g3=>?_
  cases e:b i with
  | true=>exact jK (he i x _ _ ex (g.trans g3) fun H4 g4=>⟨g4 _ _ (g3 _ _ ha),xs.length-(i+1),by omega,by omega,rfl,fU (g.trans (g3.trans g4)) bR,ah,by simp;omega,Rt i x vs ex e r⟩)
  | false=>exact ik ⟨xs.length-(i+1),by omega,by omega,rfl,g.trans g3,g3 _ _ ha,by omega,Rf i x vs ex e r⟩
inductive AA (K:W.Frag)(vs:List V)(H:Hp)(Q:VK)(bK:XK):Prop
 | mk:∀ (p q:Addr) (r s:P3),(vs=[.ref p,.ref q])->(S3 H p r)->(aO K H q (v3 s))->(BP 2000 r)->(BP 2000 s)->(Q (.int (rp r s)) H)->AA K vs H Q bK
inductive ED (K:W.Frag)(vs:List V)(H:Hp)(Q:VK)(bK:XK):Prop
 | mk:∀ (p q:Addr) (t:T3) (P:P3),(vs=[.ref p,.ref q])->(ST H p t)->(aO K H q (v3 P))->(BT 2000 t)->(BP 2000 P)->(∀ (r:Addr) (H':Hp),aw H H'->H r=none->S3 H' r (tb t P)->Q (.ref r) H')->ED K vs H Q bK
inductive tq (K:W.Frag)(vs:List V)(H:Hp)(Q:VK)(bK:XK):Prop
 | mk:∀ (p q:Addr) (F:F6) (P:P3),(vs=[.ref p,.ref q])->(S6 H p F)->(aO K H q (v3 P))->(BF 600 F)->(BP 600 P)->(∀ H',aw H H'->Q (.int (wo F P)) H')->tq K vs H Q bK
inductive qP (K:W.Frag)(vs:List V)(H:Hp)(Q:VK)(bK:XK):Prop
 | mk:∀ (p q:Addr) (P R:P3),(vs=[.ref p,.ref q])->(aO K H p (v3 P))->(aO K H q (v3 R))->(∀ (z:Addr) (H':Hp),aw H H'->S3 H' z (ad P R)->Q (.ref z) H')->qP K vs H Q bK
inductive yL (K:W.Frag)(vs:List V)(H:Hp)(Q:VK)(bK:XK):Prop
 | mk:∀ (b:Bool) (p:Addr) (x y z:Int),(vs=[.ref p])->(Sq K H b p [.int x,.int y,.int z])->(P2 Top x y z)->(NZ x y z)->(∀ (r:Addr) (H':Hp) (a b c d:Int),aw H H'->P1 H' r a b c->BE a b c->rY a b c->d≠0->x=d*a->y=d*b->z=d*c->Q (.ref r) H')->yL K vs H Q bK
theorem UX {i:Nat}(h:i<3):i=0\/i=1\/i=2:=by omega
inductive uG (vs:List V)(H:Hp)(Q:VK)(bK:XK):Prop
 | mk:∀ (p:Addr) (x y z:Int),(vs=[.ref p])->(P1 H p x y z)->(BE x y z)->(rY x y z)->(∀ H',aw H H'->Q (.bl true) H')->uG  vs H Q bK
inductive uH (vs:List V)(H:Hp)(Q:VK)(bK:XK):Prop
 | mk:∀ (p:Addr) (x y z:Int),(vs=[.ref p,.int 3])->(P1 H p x y z)->(∀ H',aw H H'->Q (.bl true) H')->uH  vs H Q bK
theorem OB (i:Int):Builtin.bitAnd i 1=0\/Builtin.bitAnd i 1=1:=by
 rw[show Builtin.bitAnd i 1=i%2 from PyProof.Rows.bitAnd_m1 i]
 omega
theorem yM {n:Int}(h:Jc.Sf n):Jc.Sf (if n<0 then -n else n):=by
 split
 ·exact⟨fun z=>h.n0 (by omega),fun p hp k=>h.sq p hp (aa8.mp k)⟩
 ·exact h
def Qs (a b c:Int)(ks:List Int):Prop:=(∀ x,x∈ks↔Pr.bU x/\x≠2/\(x∣a\/x∣b\/x∣c))/\(0::2::ks).Pairwise (·<·)
noncomputable def EE (a b c:Int) (ks:List Int):List Int:=(0::2::ks).filter fun x=>decide (Jc.Ao (-a*c) (-b*c) x=-1)
inductive yN (vs:List V)(H:Hp)(Q:VK)(bK:XK):Prop
 | mk:∀ (a b c:Int),(vs=[.int a,.int b,.int c])->(kC a b c)->(mF a)->(mF b)->(mF c)->(∀ (p:Addr) (ks:List Int) (H':Hp),aw H H'->H p=none->Qs a b c ks->ks.length<100->H' p=some (.lst ((EE a b c ks).map V.int))->Q (.ref p) H')->yN  vs H Q bK
theorem K9 {x n:Int}(k:Nat)(h:2<=n):1*(x%n)^k%n=Pw.PM x k n:=by
 have:=Pw.start x n k
 rwa[abc (show (0:Int)<=1 by decide) (show (1:Int)<n by omega)] at this
theorem OC (l:Int)(h:0<=l):(l / 2).toNat=l.toNat / 2:=by omega
structure wV (n:Int)(fs:List Int)(r k:Int):Prop where
 pr:∀ f∈fs,Pr.bU f
 eq:(n.natAbs:Int)=fs.prod*r
 r1:1<=r
 k2:2<=k
 no:Pr.oG r k
theorem oQ:∀ {ps:List Int},(∀ p∈ps,2<=p)->((2^ps.length:Nat):Int)<=ps.prod
 | [],_=>by simp
 | p::ps,h=>by
  have ih:=oQ (ps:=ps) fun x m=>h x (aav _ m)
  have hp:=h p (aaZ ..)
  have pos:0<2^ps.length:=adP (by decide)
  rw[ad0,aaz,abf]
  generalize 2^ps.length=u at ih pos ⊢
  generalize ps.prod=v at ih ⊢
  have:=aaJ hp ih (by omega) (by omega)
  omega
section
variable {n r k:Int}{fs:List Int}
theorem wV.le (h:wV n fs r k)(hn:n.natAbs<=8000000):r<=8000000/\fs.length<23:=by
 have a:=oQ fun p m=>(h.pr p m).two
 have e:=h.eq
 have r1:=h.r1
 have pos:0<2^fs.length:=adP (by decide)
 generalize hv:fs.prod=v at a e
 have v1:1<=v:=by omega
 have h1:=aak v1 (show 0<=r by omega)
 have h2:=ZS r1 (show 0<=v by omega)
 refine⟨by omega,?_⟩
 by_cases c:fs.length<23
 ·exact c
 ·have:=Nat.pow_le_pow_right (show 0<2 by decide) (show 23<=fs.length by omega)
  have k:(2:Nat)^23=8388608:=by decide
  omega
theorem wV.kb (h:wV n fs r k)(hn:n.natAbs<=8000000)(c:k*k<=r):k<=2828:=by
 have:=(h.le hn).1
 by_cases z:k<=2828
 ·exact z
 ·have:=aaJ (show (2829:Int)<=k by omega) (show (2829:Int)<=k by omega) (by decide) (by omega)
  omega
theorem wV.take (h:wV n fs (k*r) k)(r1:1<=r):wV n (fs++[k]) r k:=by
 refine⟨fun f m=>?_,?_,r1,h.k2,fun d d2 dk dd=>h.no d d2 dk (aaf dd (aab k r))⟩
 ·rcases abo.mp m with m|m
  ·exact h.pr f m
  ·rw[aar.mp m]
   exact Pr.Du h.k2 h.no (aaX k r)
 ·rw[List.prod_append,List.prod_singleton,Z3]
  exact h.eq
theorem wV.next (h:wV n fs r k)(nd:¬ k∣r):wV n fs r (k+1):=⟨h.pr,h.eq,h.r1,by have:=h.k2;omega,fun d d2 dk dd=>by
 by_cases z:d=k
 ·exact nd (z▸dd)
 ·exact h.no d d2 (by omega) dd⟩
theorem wV.last (h:wV n fs r k)(c:¬ k*k<=r)(hr:1<r):wV n (fs++[r]) 1 2:=by
 have pr:Pr.bU r:=⟨by omega,fun j j2 jj d=>by
  by_cases z:j<k
  ·exact h.no j j2 z d
  ·have:=aaJ (show k<=j by omega) (show k<=j by omega) (by have:=h.k2;omega) (by omega)
   omega⟩
 refine⟨fun f m=>?_,?_,by decide,by decide,fun d d2 dk=>by omega⟩
 ·rcases abo.mp m with m|m
  ·exact h.pr f m
  ·rw[aar.mp m]
   exact pr
 ·rw[List.prod_append,List.prod_singleton,aaM]
  exact h.eq
theorem wV.mem (h:wV n fs 1 k){x:Int}:x∈fs↔Pr.bU x/\x∣n:=by
 have e:(n.natAbs:Int)=fs.prod:=by rw[h.eq,aaM]
 constructor
 ·intro m
  refine⟨h.pr x m,Int.dvd_natAbs.mp ?_⟩
  rw[e]
  exact Pl.Ah m
 ·rintro⟨hp,hd⟩
  refine Pl.Ai hp h.pr ?_
  rw[<- e]
  exact Int.dvd_natAbs.mpr hd
end
theorem EF {a b c:Int}{ks:List Int}(P:kC a b c)(hq:Qs a b c ks)(x:Int):x∈EE a b c ks↔Jc.fV a b c x:=by
 have at_:x∈(0::2::ks)↔(x=0\/x=2\/(Pr.bU x/\x≠2/\(x∣a\/x∣b\/x∣c))):=by
  rw[ZI,ZI,hq.1]
 unfold EE
 rw[abA,at_,acj]
 constructor
 ·rintro⟨h,e⟩
  exact (Jc.Ap P h).mp e
 ·intro h
  have h2:x=0\/x=2\/(Pr.bU x/\x≠2/\(x∣a\/x∣b\/x∣c)):=by
   rcases h with ⟨e,_⟩|⟨e,_⟩|⟨hp,n2,h⟩
   ·exact .inl e
   ·exact .inr (.inl e)
   ·exact .inr (.inr ⟨hp,n2,h.imp (·.1) (Or.imp (·.1) (·.1))⟩)
  exact⟨h2,(Jc.Ap P h2).mpr h⟩
theorem G7 {a b c:Int}{ks:List Int}(hq:Qs a b c ks):(EE a b c ks).Pairwise (·<·):=hq.2.filter _
theorem OD {k:Nat}{x:Int}(h:Bd k x):Bd k (-x):=by
 unfold Bd at *
 rwa[ad2]
theorem IK {a c:Int}(ha:a.natAbs<=10000000000)(hc:c.natAbs<=10000000000):Bd 100 (-a*c):=by
 unfold Bd
 rw[Z7,ad2]
 exact ZV (abd ha hc) (by decide)
inductive EG (vs:List V)(H:Hp)(Q:VK)(bK:XK):Prop
 | mk:∀ (x p:Int),(vs=[.int x,.int p])->(Pr.bU p)->(p≠2)->(p<20000000000)->(¬ p∣x)->(∀ b:Bool,(b=true↔Jc.J x p=-1)->Q (.bl b) H)->EG  vs H Q bK
theorem IL {p x:Int}(hp:Pr.bU p)(n2:p≠2)(nd:¬ p∣x):Pw.PM x (p / 2).toNat p=p-1↔Jc.J x p=-1:=by
 have p3:2<p:=by have:=hp.two;omega
 rw[Jc.Ag hp (jq hp n2) x]
 have u:=Jc.ue hp nd
 have e2:(-1:Int)%p=p-1:=by
  rw[show (-1:Int)=(p-1)+p*(-1) by omega,abt]
  exact abc (by omega) (by omega)
 rcases Jc.Ko x p with e|e|e<;>rw[e] at u ⊢
 ·have e1:(1:Int)%p=1:=abc (by decide) (by omega)
  constructor<;>intro h<;>omega
 ·cases u
 ·exact⟨fun _=>rfl,fun _=>e2⟩
def q3 (x:Int):Prop:=x=0\/x=1\/x=4
def L7 (a b c x y z:Int):Prop:=(x=1\/y=1\/z=1)/\(a*x+b*y+c*z)%8=0
theorem tD (x:Int):q3 (x*x%8)/\(x%2=1->x*x%8=1):=by
 unfold q3
 rcases Pl.NX x with h|h<;>omega
theorem EH {u:Int}(h:q3 u):∃ x:Int,u=x*x/\(u=1->x%2=1):=by
 rcases h with rfl|rfl|rfl
 ·exact⟨0,rfl,fun z=>by cases z⟩
 ·exact⟨1,rfl,fun _=>rfl⟩
 ·exact⟨2,rfl,fun z=>by cases z⟩
theorem qQ (a x:Int):(a*(x%8))%8=(a*x)%8:=by
 rw[abx,ad6,<- abx]
theorem AD {a b c:Int}:Pl.yq a b c↔∃ x y z:Int,q3 x/\q3 y/\q3 z/\L7 a b c x y z:=by
 constructor
 ·rintro⟨x,y,z,ho,e⟩
  refine⟨x*x%8,y*y%8,z*z%8,(tD x).1,(tD y).1,(tD z).1,ho.imp (tD x).2 (Or.imp (tD y).2 (tD z).2),?_⟩
  have h1:=qQ a (x*x)
  have h2:=qQ b (y*y)
  have h3:=qQ c (z*z)
  rw[Z3,Z3,Z3] at e
  omega
 ·rintro⟨u,v,w,hu,hv,hw,ho,e⟩
  obtain⟨x,rfl,ox⟩:=EH hu
  obtain⟨y,rfl,oy⟩:=EH hv
  obtain⟨z,rfl,oz⟩:=EH hw
  refine⟨x,y,z,ho.imp ox (Or.imp oy oz),?_⟩
  rw[Z3,Z3,Z3]
  exact e
def La (i:Nat)(x:Int):Prop:=∃ j:Nat,j<i/\([0,1,4]:List Int)[j]?=some x
theorem EI {x:Int}(h:q3 x):La 3 x:=by
 rcases h with rfl|rfl|rfl
 ·exact⟨0,by decide,rfl⟩
 ·exact⟨1,by decide,rfl⟩
 ·exact⟨2,by decide,rfl⟩
theorem qR {i:Nat}{x y:Int}(hy:([0,1,4]:List Int)[i]?=some y)(h:La (i+1) x):La i x\/x=y:=by
 obtain⟨j,hj,e⟩:=h
 by_cases c:j=i
 ·subst c
  rw[hy] at e
  exact .inr (ZG e).symm
 ·exact .inl ⟨j,by omega,e⟩
theorem yO {i:Nat}{v:V}(h:([.int 0,.int 1,.int 4]:List V)[i]?=some v):∃ x:Int,v=.int x/\q3 x/\([0,1,4]:List Int)[i]?=some x:=by
 match i,h with
 | 0,h=>exact⟨0,(ZG h).symm,.inl rfl,rfl⟩
 | 1,h=>exact⟨1,(ZG h).symm,.inr (.inl rfl),rfl⟩
 | 2,h=>exact⟨4,(ZG h).symm,.inr (.inr rfl),rfl⟩
 | n+3,h=>cases h
theorem Lb {a b c:Int}:Jc.fV a b c 0↔(a<0/\b<0/\c<0)\/(0<a/\0<b/\0<c):=by
 constructor
 ·rintro (h|h|h)
  ·exact h.2
  ·cases h.1
  ·have:=h.1.two
   omega
 ·exact fun h=>.inl ⟨rfl,h⟩
theorem SS {a b c:Int}:Jc.fV a b c 2↔¬ Pl.yq a b c:=by
 constructor
 ·rintro (h|h|h)
  ·cases h.1
  ·exact h.2
  ·exact absurd rfl h.2.1
 ·exact fun h=>.inr (.inl ⟨rfl,h⟩)
theorem yP {a b c x:Int}(hp:Pr.bU x)(n2:x≠2):Jc.fV a b c x↔((x∣a/\Jc.J (-(b*c)) x=-1)\/(x∣b/\Jc.J (-(c*a)) x=-1)\/(x∣c/\Jc.J (-(a*b)) x=-1)):=by
 constructor
 ·rintro (h|h|h)
  ·have:=hp.two
   have:=h.1
   omega
  ·exact absurd h.1 n2
  ·exact h.2.2
 ·exact fun h=>.inr (.inr ⟨hp,n2,h⟩)
inductive EJ (vs:List V)(H:Hp)(Q:VK)(bK:XK):Prop
 | mk:∀ (n:Int),(vs=[.int n])->(n≠0)->(n.natAbs<=8000000)->(∀ (p:Addr) (ks:List Int) (H':Hp),aw H H'->H p=none->H' p=some (.lst (ks.map V.int))->ks.length<40->(∀ x,x∈ks↔Pr.bU x/\x∣n)->Q (.ref p) H')->EJ  vs H Q bK
theorem wW {x y z:Int}:HG (.int 1) [.int x,.int y,.int z]=true↔(x=1\/y=1\/z=1):=by
 simp[HG,FY]
theorem SU {x y z:Int}(h:HG (.int 1) [.int x,.int y,.int z]=true):x=1\/y=1\/z=1:=wW.mp h
theorem OE {x y z:Int}(h:¬ HG (.int 1) [.int x,.int y,.int z]=true):¬ (x=1\/y=1\/z=1):=fun k=>h (wW.mpr k)
inductive uI (vs:List V)(H:Hp)(Q:VK)(bK:XK):Prop
 | mk:∀ (x k n:Int),(vs=[.int x,.int k,.int n])->(0<=k)->(0<n)->(n.natAbs<=Lm)->(Q (.int (Pw.PM x k.toNat n)) H)->uI  vs H Q bK
theorem yQ (l:Int)(h:0<=l):(l / 2).toNat=l.toNat / 2:=by omega
theorem fdiv_one (x:Int):x.fdiv 1=x:=by rw[abr x (by decide),Int.ediv_one]
theorem qS:2^64<=Lm:=by rw[tj];decide +kernel
def Q6 (p:Int):Prop:=Pr.bU p/\p<=1000000
theorem q6 {p:Int}(h:Q6 p):Pr.bU p/\p<=1000000/\(p≠2->∃ z:Int,2<=z/\z<p/\Jc.J z p=-1):=⟨h.1,h.2,fun n2=>Jc.Kt h.1 n2⟩
inductive AE (vs:List V)(H:Hp)(Q:VK)(bK:XK):Prop
 | mk:∀ (x p:Int),(vs=[.int x,.int p])->(Pr.bU p)->(p<=1000000)->(∀ (b:Bool) (H':Hp),aw H H'->(b=true↔p=2\/Jc.J x p≠-1)->Q (.bl b) H')->AE  vs H Q bK
inductive uJ (vs:List V)(H:Hp)(Q:VK)(bK:XK):Prop
 | mk:∀ (p:Int),(vs=[.int p])->(Q6 p)->(p≠2)->(∀ (z:Int) (H':Hp),aw H H'->Jc.J z p=-1->Q (.int z) H')->uJ  vs H Q bK
inductive uK (vs:List V)(H:Hp)(Q:VK)(bK:XK):Prop
 | mk:∀ (x p:Int),(vs=[.int x,.int p])->(Q6 p)->(p≠2)->(Jc.J x p=1)->(∀ (w:Int) (H':Hp),aw H H'->0<=w->w<p->(w*w-x)%p=0->Q (.int w) H')->uK  vs H Q bK
inductive uL (vs:List V)(H:Hp)(Q:VK)(bK:XK):Prop
 | mk:∀ (x p:Int),(vs=[.int x,.int p])->(Q6 p)->((p=2\/Jc.J x p≠-1))->(∀ (w:Int) (H':Hp),aw H H'->0<=w->w<p->(w*w-x)%p=0->Q (.int w) H')->uL  vs H Q bK
inductive yR (vs:List V)(H:Hp)(Q:VK)(bK:XK):Prop
 | mk:∀ (x n:Int),(vs=[.int x,.int n])->(1<=n)->(n<=1000000)->(Jc.Sf n)->((∀ p,Pr.bU p->p∣n->p=2\/Jc.J x p≠-1))->(∀ (t:Addr) (w:Int) (H':Hp),aw H H' ->
 H' t=some (.tup [.str ("root":Str),.int w])->0<=w->2*w<=n->(w*w-x)%n=0->Q (.ref t) H')->yR  vs H Q bK
theorem OF {n:Int}{xs:List (Int × Int)}(h:Jc.Sf n)(nb:n<=1000000)(n1:1<=n)(t:Pr.Told n xs){x:Int × Int}(hx:x∈xs):x.2=1/\Q6 x.1/\x.1∣n:=by
 have pt:=t.all x hx
 have dv:x.1^x.2.toNat∣n:=by
  obtain⟨a,b,e⟩:=List.append_of_mem hx
  have:=t.prod
  rw[e,Pr.iX] at this
  exact⟨Pr.aX a*Pr.aX b,by rw[<- this];simp only[Pr.aX];grind⟩
 have o1:=pt.often
 have d1:x.1∣n:=by
  obtain⟨k,hk⟩:∃ k,x.2.toNat=k+1:=⟨x.2.toNat-1,by omega⟩
  rw[hk,ZZ] at dv
  exact aaf (aab _ _) dv
 refine⟨?_,⟨pt.prime,by have:=adD (by omega) d1;omega⟩,d1⟩
 rcases (show x.2=1\/2<=x.2 by omega) with z|z
 ·exact z
 ·obtain⟨k,hk⟩:∃ k,x.2.toNat=k+2:=⟨x.2.toNat-2,by omega⟩
  rw[hk,ZZ,ZZ,Z3] at dv
  exact absurd (aaf (aab _ _) dv) (h.sq _ pt.prime)
open Lw
theorem IM {b:Bool}{A B:Prop}(h:b=false)(hA:A):if (!b)=true then A else B:=by
 subst h
 exact jK hA
def Fy (n:Int):Prop:=n≠0/\∀ p,Pr.bU p->¬ p*p∣n
def Lc (x y:Int):Prop:=∀ p,Pr.bU p->p∣x->¬ p∣y
noncomputable def bS (n:Int):Bool:=@decide (Fy n) (Classical.propDecidable _)
noncomputable def bC (x y:Int):Bool:=@decide (Lc x y) (Classical.propDecidable _)
theorem lJ {n:Int}:bS n=true↔Fy n:=@decide_eq_true_iff _ (Classical.propDecidable _)
theorem uM {x y:Int}:bC x y=true↔Lc x y:=@decide_eq_true_iff _ (Classical.propDecidable _)
theorem OG {n:Int}{b:Bool}(h:b=true↔Fy n):bS n=b:=by rw[abV,lJ,h]
theorem OH {x y:Int}{b:Bool}(h:b=true↔Lc x y):bC x y=b:=by rw[abV,uM,h]
noncomputable def UY:V->V
 | .int n=>.bl (bS n)
 | v=>v
theorem AF {a b c:Int}:kC a b c↔(Fy a/\Fy b/\Fy c)/\(Lc a b/\Lc b c/\Lc c a):=
 ⟨fun h=>⟨⟨⟨h.a0,h.sa⟩,⟨h.b0,h.sb⟩,⟨h.c0,h.sc⟩⟩,h.ab,h.bc,h.ca⟩,fun ⟨⟨x,y,z⟩,u,v,w⟩=>⟨x.1,y.1,z.1,x.2,y.2,z.2,u,v,w⟩⟩
theorem Ld {x y z:Bool}:([x,y,z].all id)=true↔x=true/\y=true/\z=true:=by
 cases x<;>cases y<;>cases z<;>simp
theorem Le {x y g s t:Int}(e:g=s*x+t*y)(h:g=1):Lc x y:=fun p hp h1 h2=>by
 have:p∣g:=by
  rw[e]
  exact acs (aaf h1 (aab _ _)) (aaf h2 (aab _ _))
 rw[h] at this
 exact Pr.bj hp this
theorem IP {x y z:Int}{i:Nat}{v:V}(h:[V.int x,.int y,.int z][i]?=some v):∃ n,v=.int n/\(n=x\/n=y\/n=z):=by
 match i,h with
 | 0,h=>exact⟨x,(ZG h).symm,.inl rfl⟩
 | 1,h=>exact⟨y,(ZG h).symm,.inr (.inl rfl)⟩
 | 2,h=>exact⟨z,(ZG h).symm,.inr (.inr rfl)⟩
 | i+3,h=>cases h
inductive uN (vs:List V)(H:Hp)(Q:VK)(bK:XK):Prop
 | mk:∀ (n:Int),(vs=[.int n])->(mF n)->(∀ (b:Bool) (H':Hp),aw H H'->(b=true↔Fy n)->Q (.bl b) H')->uN  vs H Q bK
inductive qT (vs:List V)(H:Hp)(Q:VK)(bK:XK):Prop
 | mk:∀ (a b c:Int),(vs=[.int a,.int b,.int c])->(mF a)->(mF b)->(mF c)->(∀ (t:Bool) (H':Hp),aw H H'->(t=true↔kC a b c)->Q (.bl t) H')->qT  vs H Q bK
inductive uO (vs:List V)(H:Hp)(Q:VK)(E:XK):Prop
 | mk:∀ (x n:Int),(vs=[.int x,.int n])->(x.natAbs<=Lm)->(n.natAbs<=Lm)->(0<n)->((∀ g:Int,0<=g->g∣x->g∣n->g=1))->(∀ (r:Int) (H':Hp),aw H H'->0<=r->r<n->n∣x*r-1->Q (.int r) H')->uO  vs H Q E
theorem EK {x n:Int}(h:0<n):0<=x%n/\x%n<n:=⟨Z6 _ (by omega),Z9 _ h⟩
inductive qU (C:Addr)(vs:List V)(H:Hp)(Q:VK)(E:XK):Prop
 | mk:∀ (a b c:Int),(vs=[.int a,.int b,.int c])->(mF a)->(mF b)->(mF c)->((kC a b c->∀ (p:Addr) (bs:List Int) (H':Hp),aw H H'->H' p=some (.lst (bs.map V.int))->bs.length<200->bs.Pairwise (·<·)->(∀ x,x∈bs↔Jc.fV a b c x)->Q (.ref p) H'))->((¬ kC a b c->∀ H',aw H H'->E (.ref C) none H'))->qU C vs H Q E
def xA (n m:Int):Prop:=∀ g:Int,0<=g->g∣n->g∣m->g=1
theorem EL {n m g:Int}(g0:0<=g)(hn:∃ k,n=k*g)(hm:∃ k,m=k*g)(co:xA n m):g=1:=by
 obtain⟨i,hi⟩:=hn
 obtain⟨j,hj⟩:=hm
 exact co g g0 ⟨i,by rw[hi,ZX]⟩ ⟨j,by rw[hj,ZX]⟩
theorem G8 {n p:Int}(hp:Pr.bU p)(nd:¬ p∣n):xA n p:=fun g g0 gn gp=>by
 have p2:=hp.two
 have g1:g≠0:=fun z=>by rw[z] at gp;have:=Int.zero_dvd.mp gp;omega
 rcases Pr.lg hp (by omega) gp with z|z
 ·exact z
 ·exact absurd (z▸gn) nd
inductive pP (vs:List V)(H:Hp)(Q:VK)(bK:XK):Prop
 | mk:∀ (r n s p:Int),(vs=[.int r,.int n,.int s,.int p])->(1<=n)->(n<=1000000)->(1<=p)->(p<=1000000)->(xA n p)->(r.natAbs<=1000000000000)->(s.natAbs<=1000000000000)->(∀ (t:Addr) (H':Hp) (x:Int),aw H H'->H' t=some (.tup [.int x,.int (n*p)])->0<=x->x<n*p->x%n=r%n->x%p=s%p->Q (.ref t) H')->pP  vs H Q bK
inductive EM (vs:List V)(H:Hp)(Q:VK)(bK:XK):Prop
 | mk:∀ (x y n:Int),(vs=[.int x,.int y,.int n])->(x.natAbs<=1000)->(y.natAbs<=1000)->(1<=n)->(n<=1000)->(Jc.Sf n)->((∀ p,Pr.bU p->p∣n->p=2\/Jc.J (-x*y) p≠-1))->(xA x n)->(∀ (s:Int) (H':Hp),aw H H'->0<=s->s<=1000000->n∣x*(s*s)+y->Q (.int s) H')->EM  vs H Q bK
theorem BX {n x y w r:Int}(h1:(w*w - -x*y)%n=0)(h2:n∣x*r-1):n∣x*((w*r)*(w*r))+y:=by
 obtain⟨i,hi⟩:=aaa h1
 obtain⟨j,hj⟩:=h2
 have e1:w*w=-x*y+n*i:=by omega
 have e2:x*r=1+n*j:=by omega
 have e3:x*((w*r)*(w*r))=(w*w)*(x*r)*r:=by grind
 rw[e3,e1,e2]
 have e4:(-x*y+n*i)*(1+n*j)*r+y=-(x*r)*y*(1+n*j)+n*i*(1+n*j)*r+y:=by grind
 rw[e4,e2]
 exact⟨-(j*y)-j*y*(1+n*j)+i*(1+n*j)*r,by grind⟩
theorem AG {a b x:Int}(co:xA a b)(h1:a∣x)(h2:b∣x):a*b∣x:=by
 have g:=co (Int.gcd a b) (Int.natCast_nonneg _) (Int.gcd_dvd_left ..) (Int.gcd_dvd_right ..)
 have g':Nat.gcd a.natAbs b.natAbs=1:=by
  have:(Int.gcd a b:Int)=1:=g
  have e:Int.gcd a b=1:=by omega
  exact e
 have:=Nat.Coprime.mul_dvd_of_dvd_of_dvd (show Nat.Coprime a.natAbs b.natAbs from g') (aap.mpr h1) (aap.mpr h2)
 rw[<- Z7] at this
 exact aap.mp this
theorem wX {a b c:Int}(P:kC a b c):xA a b:=fun g g0 ga gb=>Pl.gcd_one P.ab P.a0 g0 ga gb
theorem xA.sym {a b:Int}(h:xA a b):xA b a:=fun g g0 x y=>h g g0 y x
theorem xA.OI {a b:Int}(h:xA a b):xA (aF a) b:=fun g g0 x y=>h g g0 (by unfold aF at x;split at x;exact aa8.mp x;exact x) y
theorem xA.G9 {a b:Int}(h:xA a b):xA a (aF b):=h.sym.OI.sym
theorem lK {a x:Int}(h:aF a∣x):a∣x:=by
 unfold aF at h
 split at h
 ·exact adz.mp h
 ·exact h
theorem EN {a b c:Int}(P:kC a b c):∀ x:Int,a∣x->b∣x->c∣x->a*b*c∣x:=fun x h1 h2 h3=>
 AG (fun g g0 x y=>Pl.gcd_one (fun p hp u v=>(Pr.euclid hp u).elim (fun w=>P.ca p hp v w) (fun w=>P.bc p hp w v)) (abU P.a0 P.b0) g0 x y) (AG (wX P) h1 h2) h3
def K3 (n:Int):Prop:=n.natAbs<=1000
def nK (M:Int)(p:P3):Prop:=(-M<=p.x/\p.x<=M)/\(-M<=p.y/\p.y<=M)/\(-M<=p.z/\p.z<=M)
inductive eV (H:Hp):List V->List P3->Prop
 | nil:eV H [] []
 | cons {r:Addr}{P:P3}{vs:List V}{Ps:List P3}:H r=some (t3 P)->eV H vs Ps->eV H (.ref r::vs) (P::Ps)
theorem eV.kx {H H':Hp}{vs:List V}{Ps:List P3}(h:eV H vs Ps)(g:Kx H H'):eV H' vs Ps:=by
 induction h with
 | nil=>exact .nil
 | cons h _ ih=>exact .cons (g _ _ rfl h) ih
theorem eV.up {H H':Hp}{vs:List V}{Ps:List P3}(h:eV H vs Ps)(g:aw H H'):eV H' vs Ps:=h.kx (aw.kx g)
theorem eV.put {H:Hp}{vs:List V}{Ps:List P3}{l:Addr}{zs:List V}{o:HO}(h:eV H vs Ps)(hl:H l=some (.lst zs)):eV (upd H l o) vs Ps:=by
 induction h with
 | nil=>exact .nil
 | cons h _ ih=>exact .cons (by rw[aG (fun z=>by subst z;rw[h] at hl;cases hl)];exact h) ih
theorem eV.app {H:Hp}{vs ws:List V}{Ps Rs:List P3}(h:eV H vs Ps)(k:eV H ws Rs):eV H (vs++ws) (Ps++Rs):=by
 induction h with
 | nil=>exact k
 | cons h _ ih=>exact .cons h ih
theorem eV.len {H:Hp}{vs:List V}{Ps:List P3}(h:eV H vs Ps):vs.length=Ps.length:=by
 induction h with
 | nil=>rfl
 | cons _ _ ih=>rw[aaz,aaz,ih]
theorem eV.get {H:Hp}{vs:List V}{Ps:List P3}(h:eV H vs Ps):∀ {i:Nat}{v:V},vs[i]?=some v->∃ r P,v=.ref r/\Ps[i]?=some P/\H r=some (t3 P):=by
 induction h with
 | nil=>intro i v e;cases e
 | @cons r P vs Ps h _ ih=>
  intro i v e
  match i,e with
  | 0,e=>exact⟨r,P,(ZG e).symm,rfl,h⟩
  | i+1,e=>exact ih (i:=i) (by simpa using e)
def ct (H:Hp):V->P3
 | .ref r=>match H r with
  | some (.tup [.int x,.int y,.int z])=>⟨x,y,z⟩
  | _=>⟨0,0,0⟩
 | _=>⟨0,0,0⟩
theorem EO {H:Hp}{r:Addr}{P:P3}(h:H r=some (t3 P)):ct H (.ref r)=P:=by
 show (match H r with
  | some (.tup [.int x,.int y,.int z])=>(⟨x,y,z⟩:P3)
  | _=>⟨0,0,0⟩)=P
 rw[h]
theorem eV.ct {H:Hp}{vs:List V}{Ps:List P3}(h:eV H vs Ps):vs.map (ct H)=Ps:=by
 induction h with
 | nil=>rfl
 | cons h _ ih=>rw[ab0,ih,EO h]
theorem eV.mem {H:Hp}{vs:List V}{Ps:List P3}(h:eV H vs Ps){v:V}(hv:v∈vs):∃ r P,v=.ref r/\P∈Ps/\H r=some (t3 P):=by
 obtain⟨i,hi,e⟩:=aaU hv
 obtain⟨r,P,e1,e2,e3⟩:=h.get (i:=i) (v:=v) (by rw[ZK hi,e])
 exact⟨r,P,e1,aau e2,e3⟩
theorem eV.sub {H:Hp}{vs:List V}{Ps:List P3}(h:eV H vs Ps):∀ {ys:List V},(∀ y∈ys,y∈vs)->eV H ys (ys.map (P0.ct H))
 | [],_=>.nil
 | y::ys,k=>by
  obtain⟨r,P,rfl,_,e⟩:=h.mem (k y (.head _))
  rw[ab0,EO e]
  exact .cons e (eV.sub h fun z hz=>k z (.tail _ hz))
theorem Lf {H:Hp}{L:F6}{vs ys:List V}{Ps:List P3}(h:eV H vs Ps)(k:k8 vs (fun v=>wo L (ct H v)) ys):eV H ys (ys.map (ct H))/\L4 L Ps (ys.map (ct H)):=by
 refine⟨h.sub fun y hy=>k.perm.mem_iff.mp hy,?_,?_,?_⟩
 ·have:=k.perm.map (ct H)
  rwa[h.ct] at this
 ·rw[abZ]
  exact k.rise
 ·intro p e hm
  rw[<- h.ct,ZU] at e
  cases e0:vs[0]? with
  | none=>rw[e0] at e;cases e
  | some v=>
   rw[e0] at e
   have ev:ct H v=p:=ZG e
   have:=k.first v e0 fun y hy=>by
    show wo L (ct H v)<=wo L (ct H y)
    rw[ev]
    exact hm _ (by rw[<- h.ct];exact List.mem_map_of_mem hy)
   rw[ZU,this,<- ev]
   rfl
def RL (T:Addr)(H:Hp):Prop:=eI T ⟨245,31,245,70⟩ ((("rising":Str)++".<locals>.")++"<lambda>") H
inductive yS (vs:List V)(H:Hp)(Q:VK)(bK:XK):Prop
 | mk:∀ (a b c:Int),(vs=[.int a,.int b,.int c])->(K3 a)->(K3 b)->(K3 c)->(kC a b c)->((∀ x,¬ Jc.fV a b c x))->(∀ (l:Addr) (ws:List V) (v1 v2 v3:P3) (s t u:Int) (H':Hp),aw H H'->H' l=some (.lst ws)->eV H' ws [v1,v2,v3]->m5 a b c s t u->jc a b c s t u v1->jc a b c s t u v2->jc a b c s t u v3->me ⟨v1,v2,v3⟩=a*b*c ->
  nK 1000000 v1->nK 1000000 v2->nK 1000000 v3->Q (.ref l) H')->yS  vs H Q bK
theorem AH {x y n:Int}(h:x%n=y%n):n∣x-y:=aaa (ZY.mp h)
theorem yT {a p:Int}(h:p∣aF a):p∣a:=by
 unfold aF at h
 split at h
 ·exact aa8.mp h
 ·exact h
theorem kF {a:Int}(a0:a≠0):1<=aF a:=by unfold aF;split<;>omega
theorem oR {a:Int}(h:K3 a):aF a<=1000:=by unfold K3 at h;unfold aF;split<;>omega
theorem yU {a b c:Int}(nb:∀ x,¬ Jc.fV a b c x){p:Int}(hp:Pr.bU p):(p∣aF a->p=2\/Jc.J (-b*c) p≠-1)/\(p∣aF b->p=2\/Jc.J (-a*c) p≠-1)/\(p∣aF c->p=2\/Jc.J (-a*b) p≠-1):=by
 by_cases n2:p=2
 ·exact⟨fun _=>.inl n2,fun _=>.inl n2,fun _=>.inl n2⟩
 ·refine⟨fun d=>.inr fun e=>?_,fun d=>.inr fun e=>?_,fun d=>.inr fun e=>?_⟩
  ·exact nb p ((yP hp n2).mpr (.inl ⟨yT d,by rw[<- aaS];exact e⟩))
  ·exact nb p ((yP hp n2).mpr (.inr (.inl ⟨yT d,by rw[ZX c a,<- aaS];exact e⟩)))
  ·exact nb p ((yP hp n2).mpr (.inr (.inr ⟨yT d,by rw[<- aaS];exact e⟩)))
theorem Ha {a b c s t u x1 x2:Int}(h1:b∣x1)(h2:c∣x1-u*a)(h3:b∣x2-t)(h4:c∣x2-u*s) :
  jc a b c s t u ⟨b*c,0,0⟩/\jc a b c s t u ⟨x1,a,0⟩/\jc a b c s t u ⟨x2,s,1⟩/\me ⟨⟨b*c,0,0⟩,⟨x1,a,0⟩,⟨x2,s,1⟩⟩=a*b*c:=by
 refine⟨⟨?_,?_,?_⟩,⟨?_,?_,?_⟩,⟨?_,?_,?_⟩,?_⟩
 ·show a∣0-s*0
  rw[aaF];exact aef _
 ·show b∣b*c-t*0
  rw[aaF,ado];exact aaX _ _
 ·show c∣b*c-u*0
  rw[aaF,ado];exact aab _ _
 ·show a∣a-s*0
  rw[aaF,ado];exact ach _
 ·show b∣x1-t*0
  rw[aaF,ado];exact h1
 ·exact h2
 ·show a∣s-s*1
  rw[aaM,Int.sub_self];exact aef _
 ·show b∣x2-t*1
  rw[aaM];exact h3
 ·exact h4
 ·rw[cg]
  show b*c*(a*1-0*s)+0*(0*x2-x1*1)+0*(x1*s-a*x2)=a*b*c
  grind
theorem ER {b c:Int}(hb:K3 b)(hc:K3 c):-1000000<=b*c/\b*c<=1000000:=by
 have:(b*c).natAbs<=1000000:=by
  rw[Z7]
  exact ZV (abd hb hc) (by decide)
 omega
theorem kG {b c:Int}(hb:K3 b)(hc:K3 c):aF b*aF c<=1000000:=by
 have h1:=oR hb
 have h2:=oR hc
 have h3:0<=aF c:=by unfold aF;split<;>omega
 exact abD (aaJ h1 h2 h3 (by decide)) (by decide)
theorem SV:-1000000<=(0:Int)/\(0:Int)<=1000000:=by decide
theorem in1:-1000000<=(1:Int)/\(1:Int)<=1000000:=by decide
theorem qV {M:Int}{p:P3}(h:nK M p)(hM:M<=18446744073709551616):BP 64 p:=by
 obtain⟨h1,h2,h3⟩:=h
 refine⟨?_,?_,?_⟩<;>(unfold Bd;omega)
theorem ES {a b c:Int}(ha:K3 a)(hb:K3 b)(hc:K3 c):BF 64 (dg a b c):=by
 unfold K3 at ha hb hc
 refine⟨?_,?_,?_,SM,SM,SM⟩<;>(unfold Bd;simp only[dg];omega)
inductive ET (vs:List V)(H:Hp)(Q:VK)(bK:XK):Prop
 | mk:∀ (q l:Addr) (ws:List V) (v1 v2 v3:P3) (a b c s t u:Int),(vs=[.ref q,.ref l])->(S6 H q (dg a b c))->(H l=some (.lst ws))->(eV H ws [v1,v2,v3])->(K3 a)->(K3 b)->(K3 c)->(a*b*c≠0)->(m5 a b c s t u)->(jc a b c s t u v1)->(jc a b c s t u v2)->(jc a b c s t u v3)->(me ⟨v1,v2,v3⟩=a*b*c)->(nK 1000000 v1)->(nK 1000000 v2)->(nK 1000000 v3)->(∀ (r:Addr) (ys:List V) (Ps:List P3) (H':Hp),aw H H'->H' r=some (.lst ys)->eV H' ys Ps->Ps.length=3->(∀ p∈Ps,iZ a b c s t u p/\nK 2000000 p)->mq Ps=2*(a*b*c)*(2*(a*b*c))->Q (.ref r) H')->ET  vs H Q bK
def Fz (a b c:Int)(v:P3):Bool:=decide (V.int (Int.fdiv (wo (dg a b c) v) (a*b*c)%2)=V.int 0)
theorem Hc {a b c s t u:Int}(F:m5 a b c s t u)(n0:a*b*c≠0){v:P3}(h:jc a b c s t u v):Fz a b c v=true↔2*(a*b*c)∣wo (dg a b c) v:=by
 obtain⟨k,hk⟩:=h.wo F
 unfold Fz
 rw[hk,abB k n0,acj]
 constructor
 ·intro e
  have e0:k%2=0:=aL e
  have e2:k=2*(k / 2):=by omega
  exact⟨k / 2,by rw[show 2*(a*b*c)*(k / 2)=a*b*c*(2*(k / 2)) by grind,<- e2]⟩
 ·rintro⟨j,hj⟩
  have:a*b*c*k=a*b*c*(2*j):=by rw[hj];grind
  have:=aaR n0 this
  rw[this,Int.mul_emod_right]
theorem Hd {a b c:Int}(v:P3):decide (V.int (Int.fdiv (wo (dg a b c) v) (a*b*c)%2)=V.int 1)=!Fz a b c v:=by
 unfold Fz
 rcases Int.emod_two_eq (Int.fdiv (wo (dg a b c) v) (a*b*c)) with e|e<;>rw[e]<;>rfl
def Lg (e:P3->Bool)(Ps:List P3)(i:Nat):Bool:=(Ps[i]?).elim false e
theorem qW {e:P3->Bool}{Ps:List P3}{i:Nat}{P:P3}(h:Ps[i]?=some P):Lg e Ps i=e P:=by
 unfold Lg
 rw[h]
 rfl
theorem EU {H:Hp}{e:P3->Bool}{Ps:List P3}{vs:List V}{i:Nat}{r:Addr}{P:P3}(h:Ps[i]?=some P)(hr:H r=some (t3 P))(b:Lg e Ps i=true)(k:eV H vs ((Ps.take i).filter e)):eV H (vs++[.ref r]) ((Ps.take (i+1)).filter e):=by
 rw[qW h] at b
 rw[abY,h,abP]
 show eV H _ (_++[P].filter e)
 rw[List.filter_cons_of_pos b]
 exact k.app (.cons hr .nil)
theorem EV {H:Hp}{e:P3->Bool}{Ps:List P3}{vs:List V}{i:Nat}{P:P3}(h:Ps[i]?=some P)(b:Lg e Ps i=false)(k:eV H vs ((Ps.take i).filter e)):eV H vs ((Ps.take (i+1)).filter e):=by
 rw[qW h] at b
 rw[abY,h,abP]
 show eV H _ (_++[P].filter e)
 rw[List.filter_cons_of_neg (by rw[b];decide)]
 simpa using k
def i7 (p f g:P3)(i:Nat):List P3:=(([0,1,-1]:List Int).take i).flatMap fun x=>([0,1,-1]:List Int).map fun y=>ad (ad p (mt f x)) (mt g y)
inductive yV (vs:List V)(H:Hp)(Q:VK)(bK:XK):Prop
 | mk:∀ (v f g:Addr) (p r s:P3),(vs=[.ref v,.ref f,.ref g])->(S3 H v p)->(S3 H f r)->(S3 H g s)->(BP 64 p)->(BP 64 r)->(BP 64 s)->(∀ (l:Addr) (ws:List V) (H':Hp),aw H H'->H' l=some (.lst ws)->eV H' ws (i7 p r s 3)->Q (.ref l) H')->yV  vs H Q bK
theorem IQ {i:Nat}{v:V}(h:([.int 0,.int 1,.int (-1)]:List V)[i]?=some v):∃ x:Int,v=.int x/\([0,1,-1]:List Int)[i]?=some x/\Bd 1 x:=by
 match i,h with
 | 0,h=>exact⟨0,(ZG h).symm,rfl,by unfold Bd;decide⟩
 | 1,h=>exact⟨1,(ZG h).symm,rfl,by unfold Bd;decide⟩
 | 2,h=>exact⟨-1,(ZG h).symm,rfl,by unfold Bd;decide⟩
 | n+3,h=>cases h
inductive wY (K:W.Frag)(T:Addr)(vs:List V)(H:Hp)(Q:VK)(bK:XK):Prop
 | mk:∀ (l m:Addr) (ws:List V) (Ps:List P3) (L:F6),(vs=[.ref l,.ref m])->(H l=some (.lst ws))->(eV H ws Ps)->(S6 H m L)->(2<=Ps.length)->(Ps.length<64)->(BF 600 L)->((∀ P∈Ps,BP 600 P))->(RL T H)->(∀ (D:Addr) (ys:List V) (Qs:List P3) (H':Hp),Kx H H'->RL T H'->H' D=some (.lst ys)->eV H' ys Qs->L4 L Ps Qs->Q (.ref D) H')->wY K T vs H Q bK
structure Len (A B C:Int):Prop where
 a0:0<A
 b0:0<B
 c0:0<C
 a1:A<=1000
 b1:B<=1000
 c1:C<=1000
theorem Len.bf {A B C:Int}(h:Len A B C):BF 64 (dg A B C):=ES (by have:=h.a0;have:=h.a1;unfold K3;omega) (by have:=h.b0;have:=h.b1;unfold K3;omega) (by have:=h.c0;have:=h.c1;unfold K3;omega)
def MM:Int:=12000000000000000
theorem Len.bp {A B C:Int}(h:Len A B C){p:P3}(hp:wo (dg A B C) p<=MM):BP 64 p:=qV (M:=MM) (KI h.a0 h.b0 h.c0 hp) (by decide)
inductive yW (K:W.Frag)(T:Addr)(vs:List V)(H:Hp)(Q:VK)(bK:XK):Prop
 | mk:∀ (v o m:Addr) (p w:P3) (A B C:Int),(vs=[.ref v,.ref o,.ref m])->(S3 H v p)->(S3 H o w)->(S6 H m (dg A B C))->(Len A B C)->(wo (dg A B C) p<=MM)->(wo (dg A B C) w<=MM)->(0<wo (dg A B C) w)->(RL T H)->(∀ (r:Addr) (p':P3) (H':Hp),Kx H H'->RL T H'->S3 H' r p'->Iq (dg A B C) p w p'->Q (.ref r) H')->yW K T vs H Q bK
inductive uP (K:W.Frag)(T:Addr)(vs:List V)(H:Hp)(Q:VK)(bK:XK):Prop
 | mk:∀ (l m:Addr) (ws:List V) (p q r:P3) (A B C:Int),(vs=[.ref l,.ref m])->(H l=some (.lst ws))->(eV H ws [p,q,r])->(S6 H m (dg A B C))->(Len A B C)->(wo (dg A B C) p<=MM)->(wo (dg A B C) q<=MM)->(wo (dg A B C) r<=MM)->(me ⟨p,q,r⟩≠0)->(RL T H)->(∀ (D:Addr) (ys:List V) (q' r':P3) (H':Hp),Kx H H'->RL T H'->H' D=some (.lst ys)->eV H' ys [p,q',r']->Eb (dg A B C) p q r q' r'->Q (.ref D) H')->uP K T vs H Q bK
inductive qX (K:W.Frag)(T:Addr)(vs:List V)(H:Hp)(Q:VK)(bK:XK):Prop
 | mk:∀ (l m:Addr) (ws:List V) (Ps:List P3) (A B C a b c s t u N:Int),(vs=[.ref l,.ref m])->(H l=some (.lst ws))->(eV H ws Ps)->(S6 H m (dg A B C))->(Len A B C)->(m5 a b c s t u)->(xx a b c s t u (dg A B C) MM N Ps)->(0<N)->(RL T H)->(∀ (D:Addr) (ys:List V) (p q r:P3) (H':Hp),Kx H H'->RL T H'->H' D=some (.lst ys)->eV H' ys [p,q,r]->xx a b c s t u (dg A B C) MM N [p,q,r]->Io (dg A B C) p q r->Q (.ref D) H')->qX K T vs H Q bK
theorem Lh {L:F6}{p f g x:P3}(h:(x=p/\∀ y∈(i7 p f g 3).tail,wo L p<=wo L y)\/(x∈(i7 p f g 3).tail/\wo L x<wo L p)):L0 L p f g x:=by
 have e:(i7 p f g 3).tail=[ad (ad p (mt f 0)) (mt g 1),ad (ad p (mt f 0)) (mt g (-1)),ad (ad p (mt f 1)) (mt g 0),ad (ad p (mt f 1)) (mt g 1),ad (ad p (mt f 1)) (mt g (-1)),ad (ad p (mt f (-1))) (mt g 0),ad (ad p (mt f (-1))) (mt g 1),ad (ad p (mt f (-1))) (mt g (-1))]:=rfl
 rw[e] at h
 rcases h with ⟨rfl,h⟩|⟨h,lt⟩
 ·refine .inl ⟨rfl,fun i j hi hj=>h _ ?_⟩
  rcases hi with rfl|rfl<;>rcases hj with rfl|rfl<;>simp
 ·refine .inr ⟨lt,?_⟩
  simp only[ZI,aas,abE] at h
  rcases h with h|h|h|h|h|h|h|h<;>exact⟨_,_,h⟩
theorem yX (p f g:P3):i7 p f g 3=p::(i7 p f g 3).tail:=by
 have:ad (ad p (mt f 0)) (mt g 0)=p:=by simp[ad,Pn.mt]
 show ad (ad p (mt f 0)) (mt g 0)::_=_
 rw[this]
 rfl
theorem EW {j k:Nat}{P:P3}{m:Int}(h:Bd j m)(hP:BP k P):BP (k+j) (mt P m):=⟨hP.x.mul h,hP.y.mul h,hP.z.mul h⟩
theorem EY {p f g y:P3}(hp:BP 64 p)(hf:BP 64 f)(hg:BP 64 g)(h:y∈i7 p f g 3):BP 600 y:=by
 unfold i7 at h
 obtain⟨x,hx,h⟩:=List.mem_flatMap.mp h
 obtain⟨z,hz,rfl⟩:=abm.mp h
 have b1:∀ w∈([0,1,-1]:List Int),Bd 1 w:=fun w hw=>by
  simp only[ZI,aas,abE] at hw
  rcases hw with rfl|rfl|rfl<;>(unfold Bd;decide)
 have Of:=EW (b1 x (adt hx)) hf
 have W8:=EW (b1 z hz) hg
 exact (Ew (k:=66) (Ew (k:=65) hp.eJ Of).eJ W8.eJ).eJ
def dP (p:P3):PyData:=.tuple [.int p.x,.int p.y,.int p.z]
theorem IS {H:Hp}{vs:List V}{Ps:List P3}(h:eV H vs Ps):C7 H vs (Ps.map dP):=by
 induction h with
 | nil=>exact .nil
 | cons h _ ih=>exact .cons (.tup h (.cons .int (.cons .int (.cons .int .nil)))) ih
theorem OJ {p q:P3}:PyData.eqv (dP p) (dP q)=true↔p=q:=by
 obtain⟨x,y,z⟩:=p
 obtain⟨x',y',z'⟩:=q
 simp[dP,PyData.eqv,PyData.eqvAll]
theorem wZ {p q r q' r':P3}:(!PyData.eqv (.list ([p,q',r'].map dP)) (.list ([p,q,r].map dP)))=true↔¬(q'=q/\r'=r):=by
 have e:PyData.eqv (.list ([p,q',r'].map dP)) (.list ([p,q,r].map dP))=true↔(q'=q/\r'=r):=by
  rw[PyData.eqv]
  simp only[ab0,List.map_nil,PyData.eqvAll,aaW,OJ,true_and,and_true]
 cases h:PyData.eqv (.list ([p,q',r'].map dP)) (.list ([p,q,r].map dP)) with
 | true=>exact⟨fun z=>(by cases z),fun z=>absurd (e.mp h) z⟩
 | false=>exact⟨fun _ z=>(by rw[e.mpr z] at h;cases h),fun _=>rfl⟩
theorem SW (x:V)(xs:List V):AV (x::xs) (some 1) none=xs:=by
 have e1:HT.vo (x::xs).length 0 (some 1)=1:=(HT.FQ _ 0 1).trans (by rw[aaz];omega)
 unfold AV
 rw[e1]
 have e2:HT.vo (x::xs).length (x::xs).length none=(x::xs).length:=rfl
 rw[e2]
 simp
theorem He {k:Nat}{x d:Int}(h:Bd k x):Bd k (x / d):=by
 unfold Bd at *
 exact ZV (Int.natAbs_ediv_le_natAbs x d) h
theorem Hf {A B C:Int}(h:Len A B C){p w:P3}(hp:BP 64 p)(hw:BP 64 w):Bd 198 (-((bl (dg A B C) w p+wo (dg A B C) w) / (2*wo (dg A B C) w))):=by
 have b1:Bd 197 (bl (dg A B C) w p):=(Ak (Ik (DX h.bf) hw) hp).mono (by decide)
 have b2:Bd 197 (wo (dg A B C) w):=(N4 h.bf hw).mono (by decide)
 exact KZ (He (b1.add b2))
theorem EZ {A B C:Int}(h:Len A B C)(p:P3):0<=wo (dg A B C) p:=by
 rw[iC]
 have x0:=ZO (Z1 h.a0) (eT p.x)
 have y0:=ZO (Z1 h.b0) (eT p.y)
 have z0:=ZO (Z1 h.c0) (eT p.z)
 omega
def wsum (L:F6):List P3->Int
 | []=>0
 | p::l=>wo L p+wsum L l
theorem Hg {L:F6}{l l':List P3}(h:l.Perm l'):wsum L l=wsum L l':=by
 induction h with
 | nil=>rfl
 | cons x _ ih=>simp only[wsum,ih]
 | swap x y l=>simp only[wsum];omega
 | trans _ _ a b=>exact a.trans b
structure E2 (a b c x y z:Int):Prop where
 one:BE x y z
 pos:rY x y z
 on:a*(x*x)+b*(y*y)+c*(z*z)=0
 sx:x*x<=aF b*aF c
 sy:y*y<=aF a*aF c
 sz:z*z<=aF a*aF b
inductive mv (K:W.Frag)(T C6 C4:Addr)(vs:List V)(H:Hp)(Q:VK)(E:XK):Prop
 | mk:∀ (a b c:Int),(vs=[.int a,.int b,.int c])->(K3 a)->(K3 b)->(K3 c)->(RL T H)->((kC a b c->(∀ x,¬ Jc.fV a b c x)->∀ (r:Addr) (x y z:Int) (H':Hp),Kx H H'->RL T H'->H' r=some (.tup [.int x,.int y,.int z])->E2 a b c x y z->Q (.ref r) H'))->((kC a b c->∀ x,Jc.fV a b c x->(∀ y,Jc.fV a b c y->x<=y)->∀ (dx:Addr) (H':Hp),aw H H'->H' dx=some (.xd [("place",.int x)])->E (.ref C6) (some dx) H'))->((¬ kC a b c->∀ H',aw H H'->E (.ref C4) none H'))->mv K T C6 C4 vs H Q E
theorem iN (a:Int):aF a=a\/aF a=-a:=by unfold aF;split<;>omega
theorem yY (a:Int):aF a*aF a=a*a:=by
 rcases iN a with h|h<;>rw[h]
 exact abp a a
theorem Li {a b c:Int}(a3:K3 a)(b3:K3 b)(c3:K3 c)(a0:a≠0)(b0:b≠0)(c0:c≠0):Len (aF a) (aF b) (aF c):=by
 have h1:=kF a0
 have h2:=kF b0
 have h3:=kF c0
 exact⟨by omega,by omega,by omega,oR a3,oR b3,oR c3⟩
theorem Lj (a b c:Int):2*(a*b*c)*(2*(a*b*c))=2*(aF a*aF b*aF c)*(2*(aF a*aF b*aF c)):=by
 have h1:=yY a
 have h2:=yY b
 have h3:=yY c
 rw[show 2*(aF a*aF b*aF c)*(2*(aF a*aF b*aF c))=4*((aF a*aF a)*(aF b*aF b)*(aF c*aF c)) by grind,h1,h2,h3]
 grind
theorem Lk {a b c x:Int}(h:2*(a*b*c)∣x):2*(aF a*aF b*aF c)∣x:=by
 have:aF a*aF b*aF c=a*b*c\/aF a*aF b*aF c=-(a*b*c):=by
  rcases iN a with h1|h1<;>rcases iN b with h2|h2<;>rcases iN c with h3|h3<;>rw[h1,h2,h3]
  all_goals first|(left;grind)|(right;grind)
 rcases this with e|e<;>rw[e]
 ·exact h
 ·rw[show 2*-(a*b*c)=-(2*(a*b*c)) by grind]
  exact adz.mpr h
def Hh (a b c:Int)(v:P3):Bool:=decide (V.int (wo (dg a b c) v)=V.int 0)
theorem uQ {a b c:Int}{v:P3}:Hh a b c v=true↔wo (dg a b c) v=0:=by
 unfold Hh
 rw[acj]
 exact⟨aL,aai V.int⟩
theorem pick {a b c s t u:Int}{p q r:P3}{M:Int}(pl:kC a b c)(nb:∀ x,¬ Jc.fV a b c x)(le:Len (aF a) (aF b) (aF c))(S:xx a b c s t u (dg (aF a) (aF b) (aF c)) M (2*(aF a*aF b*aF c)) [p,q,r])(St:Io (dg (aF a) (aF b) (aF c)) p q r) :
  ∃ x rest,[p,q,r].filter (Hh a b c)=x::rest/\wo (dg a b c) x=0/\wo (dg (aF a) (aF b) (aF c)) x<=2*(aF a*aF b*aF c)/\x∈[p,q,r]:=by
 have n0:¬ ((a<0/\b<0/\c<0)\/(0<a/\0<b/\0<c)):=fun z=>nb 0 (Lb.mpr z)
 have dv:∀ v∈[p,q,r],2*(aF a*aF b*aF c)∣wo (dg a b c) v:=fun v hv=>Lk (S.mem v hv).1.ev
 have H:=Sb (iN a) (iN b) (iN c) (fun z=>n0 (.inr z)) (fun z=>n0 (.inl z)) le.a0 le.b0 le.c0 St rfl S.mq (dv p (by simp)) (dv q (by simp)) (dv r (by simp))
 rcases H with ⟨h1,h2⟩|⟨h1,h2,h3,h4⟩
 ·exact⟨p,[q,r].filter (Hh a b c),List.filter_cons_of_pos (uQ.mpr h1),h1,h2,by simp⟩
 ·have all:∀ v∈[p,q,r],wo (dg (aF a) (aF b) (aF c)) v<=2*(aF a*aF b*aF c):=fun v hv=>by
   simp only[ZI,aas,abE] at hv
   rcases hv with rfl|rfl|rfl<;>omega
  cases e:[p,q,r].filter (Hh a b c) with
  | nil=>
   exfalso
   have no:∀ v∈[p,q,r],wo (dg a b c) v≠0:=fun v hv z=>by
    have:v∈[p,q,r].filter (Hh a b c):=abA.mpr ⟨hv,uQ.mpr z⟩
    rw[e] at this
    cases this
   rcases h4 with z|z|z
   ·exact no p (by simp) z
   ·exact no q (by simp) z
   ·exact no r (by simp) z
  | cons x rest=>
   have hx:x∈[p,q,r].filter (Hh a b c):=by rw[e];exact .head _
   obtain⟨m,z⟩:=abA.mp hx
   exact⟨x,rest,rfl,uQ.mp z,all x m,m⟩
theorem yZ {d x y M:Int}(d0:d≠0)(e:y=d*x)(h:y*y<=M):x*x<=M:=by
 have h1:1<=d*d:=by
  have:=eT d
  have:d*d≠0:=abU d0 d0
  omega
 have h2:=aak h1 (eT x)
 have e2:y*y=d*d*(x*x):=by rw[e];grind
 omega
theorem Hi {a b c x y z d:Int}{v:P3}(le:Len (aF a) (aF b) (aF c))(h0:wo (dg a b c) v=0)(hN:wo (dg (aF a) (aF b) (aF c)) v<=2*(aF a*aF b*aF c))(o:BE x y z)(p:rY x y z)(d0:d≠0)(ex:v.x=d*x)(ey:v.y=d*y)(ez:v.z=d*z):E2 a b c x y z:=by
 obtain⟨s1,s2,s3⟩:=Ed (iN a) (iN b) (iN c) le.a0 le.b0 le.c0 h0 hN
 refine⟨o,p,?_,yZ d0 ex s1,yZ d0 ey s2,yZ d0 ez s3⟩
 rw[iC,ex,ey,ez] at h0
 have:d*d*(a*(x*x)+b*(y*y)+c*(z*z))=0:=by rw[<- h0];grind
 rcases abg.mp this with w|w
 ·rcases abg.mp w with w|w<;>exact absurd w d0
 ·exact w
inductive Ll (vs:List V)(H:Hp)(Q:VK)(bK:XK):Prop
 | mk:∀ (p:Addr) (a b c:Int),(vs=[.ref p])->(H p=some (.lst [.int a,.int b,.int c]))->(a.natAbs<=10000000000)->(b.natAbs<=10000000000)->(c.natAbs<=10000000000)->(∀ (r:Bool) (H':Hp),aw H H'->(r=true↔¬ Pl.yq a b c)->Q (.bl r) H')->Ll  vs H Q bK
inductive y4 (vs:List V)(H:Hp)(Q:VK)(bK:XK):Prop
 | mk:∀ (p:Addr) (a b c x:Int),(vs=[.ref p,.int x])->(H p=some (.lst [.int a,.int b,.int c]))->(Pl.kC a b c)->(a.natAbs<=10000000000)->(b.natAbs<=10000000000)->(c.natAbs<=10000000000)->((x=0\/x=2\/(Pr.bU x/\x≠2/\x<20000000000)))->(∀ (r:Bool) (H':Hp),aw H H'->(r=true↔Jc.fV a b c x)->Q (.bl r) H')->y4  vs H Q bK
inductive E3 (vs:List V)(H:Hp)(Q:VK)(bK:XK):Prop
 | mk:∀ (p:Addr) (a b c n:Int),(vs=[.ref p,.int n])->(H p=some (.lst [.int a,.int b,.int c]))->(Pl.kC a b c)->(a.natAbs<=10000000000)->(b.natAbs<=10000000000)->(c.natAbs<=10000000000)->(n≠0)->(n.natAbs<=8000000)->(∀ (r:Addr) (ks:List Int) (H':Hp),aw H H'->H r=none->H' r=some (.lst (ks.map V.int))->ks.Pairwise (·<·)->(∀ x,x∈ks↔(x=0\/x=2\/(Pr.bU x/\x∣n))/\Jc.fV a b c x)->Q (.ref r) H')->E3  vs H Q bK
def Cl (b x:Int):Prop:=∀ p,Pr.bU p->b<=p->¬ p∣x
structure GD (b x y z:Int):Prop where
 pl:kC x y z
 cx:Cl b x
 cy:Cl b y
 cz:Cl b z
theorem GD.fO {b x y z:Int}(g:GD b x y z):GD b y z x:=⟨g.pl.fO,g.cy,g.cz,g.cx⟩
theorem GD.mono {b b' x y z:Int}(g:GD b x y z)(h:b<=b'):GD b' x y z:=⟨g.pl,fun p hp l=>g.cx p hp (by omega),fun p hp l=>g.cy p hp (by omega),fun p hp l=>g.cz p hp (by omega)⟩
theorem GD.mul {b b' x y z:Int}(g:GD b x y z)(hb:Pr.bU b)(lt:b<b'):GD b' (x*b) y z:=by
 have b2:=hb.two
 have nx:=g.cx b hb (aaV _)
 have ny:=g.cy b hb (aaV _)
 have nz:=g.cz b hb (aaV _)
 have sp:∀ p,Pr.bU p->p∣x*b->p∣x\/p=b:=fun p hp d=>(Pr.euclid hp d).imp id fun d=>Pr.eS hp hb d
 refine⟨⟨abU g.pl.a0 (by omega),g.pl.b0,g.pl.c0,fun p hp d=>?_,g.pl.sb,g.pl.sc,fun p hp d=>?_,g.pl.bc,fun p hp d d2=>?_⟩,fun p hp l d=>?_,fun p hp l=>g.cy p hp (by omega),fun p hp l=>g.cz p hp (by omega)⟩
 ·have p0:p≠0:=by have:=hp.two;omega
  by_cases e:p=b
  ·subst e
   obtain⟨k,hk⟩:=d
   exact nx ⟨k,aaR p0 (by rw[ZX p x,hk,Z3])⟩
  ·have nb:¬ p∣b:=fun z=>e (Pr.eS hp hb z)
   obtain⟨j,rfl⟩:p∣x:=(sp p hp (aaf (aaX p p) d)).resolve_right e
   obtain⟨k,hk⟩:=d
   have:j*b=p*k:=aaR p0 (by rw[<- Z3,hk,Z3])
   have dj:p∣j:=(Pr.euclid hp (⟨k,this⟩:p∣j*b)).resolve_right nb
   exact g.pl.sa p hp (adU (ach p) dj)
 ·rcases sp p hp d with z|rfl
  ·exact g.pl.ab p hp z
  ·exact ny
 ·rcases sp p hp d2 with z|rfl
  ·exact g.pl.ca p hp d z
  ·exact nz d
 ·rcases sp p hp d with z|rfl
  ·exact g.cx p hp (by omega) z
  ·omega
theorem GD.neg {b x y z:Int}(g:GD b x y z):GD b (-x) y z:=⟨⟨by have:=g.pl.a0;omega,g.pl.b0,g.pl.c0,fun p hp d=>g.pl.sa p hp (aa8.mp d),g.pl.sb,g.pl.sc,fun p hp d=>g.pl.ab p hp (aa8.mp d),g.pl.bc,fun p hp d e=>g.pl.ca p hp d (aa8.mp e)⟩,fun p hp l d=>g.cx p hp l (aa8.mp d),g.cy,g.cz⟩
theorem GD.P4 {b x y z x':Int}(g:GD b x y z)(h:x'=x\/x'=-x):GD b x' y z:=by
 rcases h with rfl|rfl
 ·exact g
 ·exact g.neg
theorem GD.sg {b x y z x' y' z':Int}(g:GD b x y z)(hx:x'=x\/x'=-x)(hy:y'=y\/y'=-y)(hz:z'=z\/z'=-z):GD b x' y' z':=(((g.P4 hx).fO.P4 hy).fO.P4 hz).fO
def qs:Nat->Int
 | 0=>2
 | 1=>3
 | 2=>5
 | 3=>7
 | _=>8
def Ms:Nat->Int
 | 0=>1
 | 1=>2
 | 2=>6
 | 3=>30
 | _=>210
theorem AI {i:Nat}(h:i<4):Pr.bU (qs i)/\qs i<qs (i+1)/\Ms (i+1)=Ms i*qs i/\0<Ms i/\2<=qs i/\qs i<=7:=by
 match i,h with
 | 0,_=>exact⟨Jc.cH (p:=2) (m:=2) (by decide) (by decide) (by decide),by decide,by decide,by decide,by decide,by decide⟩
 | 1,_=>exact⟨Jc.cH (p:=3) (m:=2) (by decide) (by decide) (by decide),by decide,by decide,by decide,by decide,by decide⟩
 | 2,_=>exact⟨Jc.cH (p:=5) (m:=3) (by decide) (by decide) (by decide),by decide,by decide,by decide,by decide,by decide⟩
 | 3,_=>exact⟨Jc.cH (p:=7) (m:=3) (by decide) (by decide) (by decide),by decide,by decide,by decide,by decide,by decide⟩
structure PD (i:Nat)(m x y z:Int):Prop where
 gd:GD (qs i) x y z
 ix:1<=x/\x<=m
 iy:1<=y/\y<=m
 iz:1<=z/\z<=m
 pr:x*y*z<=Ms i
theorem PD.fO {i:Nat}{m x y z:Int}(h:PD i m x y z):PD i m y z x:=⟨h.gd.fO,h.iy,h.iz,h.ix,by have:=h.pr;rw[show y*z*x=x*y*z by grind];exact this⟩
theorem PD.skip {i:Nat}{m x y z:Int}(h:PD i m x y z)(hi:i<4):PD (i+1) m x y z:=by
 obtain⟨_,h2,h3,h4,h5,_⟩:=AI hi
 refine⟨h.gd.mono (by omega),h.ix,h.iy,h.iz,?_⟩
 have:=h.pr
 have:=ZS (show 1<=qs i by omega) (show 0<=Ms i by omega)
 rw[h3]
 omega
theorem PD.put {i:Nat}{m x y z:Int}(h:PD i m x y z)(hi:i<4)(le:x*qs i<=m):PD (i+1) m (x*qs i) y z:=by
 obtain⟨h1,h2,h3,h4,h5,_⟩:=AI hi
 refine⟨h.gd.mul h1 h2,⟨?_,le⟩,h.iy,h.iz,?_⟩
 ·have:=ZS (show 1<=qs i by omega) (show 0<=x by have:=h.ix;omega)
  have:=h.ix
  omega
 ·rw[h3,show x*qs i*y*z=x*y*z*qs i by grind]
  exact aak h.pr (by omega)
theorem Hj {m:Int}(m1:1<=m):PD 0 m 1 1 1:=by
 have c1:Cl 2 1:=fun p hp _=>Pr.bj hp
 have s1:∀ p,Pr.bU p->¬ p*p∣1:=fun p hp d=>Pr.bj hp (aaf (aaX p p) d)
 exact⟨⟨⟨by decide,by decide,by decide,s1,s1,s1,fun p hp d=>(Pr.bj hp d).elim,fun p hp d=>(Pr.bj hp d).elim,fun p hp d=>(Pr.bj hp d).elim⟩,c1,c1,c1⟩,⟨by decide,m1⟩,⟨by decide,m1⟩,⟨by decide,m1⟩,by decide⟩
inductive uR (vs:List V)(H:Hp)(Q:VK)(bK:XK):Prop
 | mk:∀ (c m:Int),(vs=[.int c,.int m])->(1<=m)->(m<=210)->(∀ (r:Addr) (H':Hp) (a b d:Int),aw H H'->H' r=some (.tup [.int a,.int b,.int d])->GD 8 a b d->a.natAbs<=m.natAbs->b.natAbs<=m.natAbs->d.natAbs<=m.natAbs->(a*b*d).natAbs<=210->Q (.ref r) H')->uR  vs H Q bK
theorem OK {x w s:Int}(h:s=0\/s=1)(e:w=x*(1-2*s)):w=x\/w=-x:=by
 rcases h with rfl|rfl
 ·left;rw[e];omega
 ·right;rw[e];omega
theorem Ln {m x y z a b d:Int}(h:PD 4 m x y z)(ha:a=x\/a=-x)(hb:b=y\/b=-y)(hd:d=z\/d=-z):GD 8 a b d/\a.natAbs<=m.natAbs/\b.natAbs<=m.natAbs/\d.natAbs<=m.natAbs/\(a*b*d).natAbs<=210:=by
 have h1:=h.ix
 have h2:=h.iy
 have h3:=h.iz
 refine⟨h.gd.sg ha hb hd,by omega,by omega,by omega,?_⟩
 have e:(a*b*d).natAbs=(x*y*z).natAbs:=by
  rw[Z7,Z7,Z7,Z7,show a.natAbs=x.natAbs by omega,show b.natAbs=y.natAbs by omega,show d.natAbs=z.natAbs by omega]
 have p0:=aat (aat (show 0<x by omega) (show 0<y by omega)) (show 0<z by omega)
 have:=h.pr
 have e4:Ms 4=210:=rfl
 rw[e]
 omega
def OL:List Int:=[5,7,11,13,17,19,23,29,31,101,401,997]
def Hk (i:Nat):Int:=OL.getD i 998
theorem SX:∀ i:Nat,i<12->pZ (OL.map V.int) (0+(i:Int))=some (V.int (Hk i)):=by decide
theorem SY:∀ i:Nat,i<12->5<=Hk i/\Hk i<Hk (i+1)/\Hk i<=997:=by decide
theorem OM {i:Nat}(h:i<12):Pr.bU (Hk i):=by
 match i,h with
 | 0,_=>exact Jc.cH (p:=5) (m:=3) (by decide) (by decide) (by decide)
 | 1,_=>exact Jc.cH (p:=7) (m:=3) (by decide) (by decide) (by decide)
 | 2,_=>exact Jc.cH (p:=11) (m:=4) (by decide) (by decide) (by decide)
 | 3,_=>exact Jc.cH (p:=13) (m:=4) (by decide) (by decide) (by decide)
 | 4,_=>exact Jc.cH (p:=17) (m:=5) (by decide) (by decide) (by decide)
 | 5,_=>exact Jc.cH (p:=19) (m:=5) (by decide) (by decide) (by decide)
 | 6,_=>exact Jc.cH (p:=23) (m:=5) (by decide) (by decide) (by decide)
 | 7,_=>exact Jc.cH (p:=29) (m:=6) (by decide) (by decide) (by decide)
 | 8,_=>exact Jc.cH (p:=31) (m:=6) (by decide) (by decide) (by decide)
 | 9,_=>exact Jc.cH (p:=101) (m:=11) (by decide) (by decide) (by decide)
 | 10,_=>exact Jc.cH (p:=401) (m:=21) (by decide) (by decide) (by decide)
 | 11,_=>exact Jc.cH (p:=997) (m:=32) (by decide) (by decide) (by decide)
inductive Lo (vs:List V)(H:Hp)(Q:VK)(bK:XK):Prop
 | mk:∀ (c o:Int),(vs=[.int c,.int o])->(∀ (l:Addr) (H':Hp) (a b d:Int),aw H H'->H l=none->H' l=some (.lst [.int a,.int b,.int d])->GD 998 a b d->a.natAbs<=6->b.natAbs<=1000->d.natAbs<=1000->Q (.ref l) H')->Lo  vs H Q bK
theorem qY {x:Int}(x0:x≠0)(h:x.natAbs<=2):Cl 3 x:=fun p hp l d=>by
 have:=abw (by omega) (aap.mpr d)
 omega
theorem mul_k {x p:Int}(h:(if x<0 then -x else x)*p<=1000)(p0:0<=p):(x*p).natAbs<=1000:=by
 rw[Z7]
 have e:((x.natAbs*p.natAbs:Nat):Int)=(if x<0 then -x else x)*p:=by
  rw[aa7]
  congr 1
  ·split<;>omega
  ·omega
 omega
inductive E4 (K:W.Frag)(vs:List V)(H:Hp)(Q:VK)(bK:XK):Prop
 | mk:∀ (s:Addr) (ns:List Int),(vs=[.ref s])->(aR K H s (ns.map V.int))->(∀ (r l:Addr) (t:Bool) (a b c:Int) (H':Hp),aw H H'->H' r=some (.tup [.ref l,.bl t])->H' l=some (.lst [.int a,.int b,.int c])->K3 a->K3 b->K3 c->(t=true->kC a b c/\(a*b*c).natAbs<=8000000)->(t=false->¬ kC a b c)->Q (.ref r) H')->E4 K vs H Q bK
theorem UZ {x y z k:Int}(g:GD 3 x y z)(h:k=1\/k=3):GD 5 (x*k) y z:=by
 rcases h with rfl|rfl
 ·rw[aaM];exact g.mono (by decide)
 ·exact g.mul (Jc.cH (p:=3) (m:=2) (by decide) (by decide) (by decide)) (by decide)
def Hl (k kd x y z:Int):Prop:=K3 x/\K3 y/\K3 z/\(kd<k->¬ kC x y z)/\(k<=kd->GD 998 x y z/\(x*y*z).natAbs<=8000000/\(kd<=2->x.natAbs<=90/\y.natAbs<=90/\z.natAbs<=90))
theorem Hl.up {k kd x y z:Int}(h:Hl k kd x y z)(n:kd≠k):Hl (k+1) kd x y z:=⟨h.1,h.2.1,h.2.2.1,fun l=>h.2.2.2.1 (by omega),fun l=>h.2.2.2.2 (by omega)⟩
theorem E5 {x y z k p:Int}(hp:Pr.bU p)(e:k=p*p):¬ kC (x*k) y z/\¬ kC x (y*k) z/\¬ kC x y (z*k):=by
 subst e
 exact⟨fun P=>P.sa p hp (aab _ _),fun P=>P.sb p hp (aab _ _),fun P=>P.sc p hp (aab _ _)⟩
theorem GN:Pr.bU 2:=Jc.cH (p:=2) (m:=2) (by decide) (by decide) (by decide)
theorem S5:Pr.bU 3:=Jc.cH (p:=3) (m:=2) (by decide) (by decide) (by decide)
theorem E6:Pr.bU 11:=Jc.cH (p:=11) (m:=4) (by decide) (by decide) (by decide)
theorem nM {x k:Int}(h:x.natAbs<=90)(hk:k.natAbs<=11):K3 (x*k):=by
 unfold K3
 rw[Z7]
 exact ZV (abd h hk) (by decide)
theorem S7 {z s:Int}(h:s=0\/s=1):aF z*(1-2*s)=z\/aF z*(1-2*s)=-z:=by
 rcases h with rfl|rfl<;>(unfold aF;split<;>omega)
inductive uS (T:Addr)(vs:List V)(H:Hp)(Q:VK)(bK:XK):Prop
 | mk:∀ (l:Addr) (a b c:Int),(vs=[.ref l])->(H l=some (.lst [.int a,.int b,.int c]))->(K3 a)->(K3 b)->(K3 c)->(RL T H)->((kC a b c->∃ x,Jc.fV a b c x))->((¬ kC a b c->∀ (r:Addr) (H':Hp),aw H H'->H' r=some (.lst [.bl true,.bl false,.eB])->Q (.ref r) H'))->((kC a b c->∀ x,Jc.fV a b c x->(∀ y,Jc.fV a b c y->x<=y)->∀ (r:Addr) (H':Hp),aw H H'->H' r=some (.lst [.bl false,.bl false,.int x])->Q (.ref r) H'))->uS T vs H Q bK
inductive uT (T:Addr)(vs:List V)(H:Hp)(Q:VK)(bK:XK):Prop
 | mk:∀ (l:Addr) (a b c:Int),(vs=[.ref l])->(H l=some (.lst [.int a,.int b,.int c]))->(K3 a)->(K3 b)->(K3 c)->(RL T H)->((kC a b c->∃ x,Jc.fV a b c x))->(∀ H',aw H H'->Q (.bl true) H')->uT T vs H Q bK
inductive y6 (vs:List V)(H:Hp)(Q:VK)(bK:XK):Prop
 | mk:∀ (l r:Addr) (a b c x y z:Int),(vs=[.ref l,.ref r])->(H l=some (.lst [.int a,.int b,.int c]))->(H r=some (.tup [.int x,.int y,.int z]))->(K3 a)->(K3 b)->(K3 c)->(E2 a b c x y z)->(∀ H',aw H H'->Q (.bl true) H')->y6  vs H Q bK
theorem qZ {x M:Int}(h:x*x<=M):-M<=x/\x<=M:=by
 have n:=eT x
 rcases ab1 x 0 with z|z|z
 ·have:=ZS (show 1<=-x by omega) (show 0<=-x by omega)
  have e:-x*-x=x*x:=abp x x
  omega
 ·subst z;omega
 ·have:=ZS (show 1<=x by omega) (show 0<=x by omega)
  omega
def W9:V->V
 | .int n=>.int (n*n)
 | v=>v
theorem q5 (a b:Int):aF (a*b)=aF a*aF b:=by
 have e:∀ x:Int,aF x=(x.natAbs:Int):=fun x=>by unfold aF;split<;>omega
 rw[e,e,e,Z7,aa7]
inductive w9 (K:W.Frag)(T:Addr)(vs:List V)(H:Hp)(Q:VK)(bK:XK):Prop
 | mk:∀ (a:Addr) (ns:List Int),(vs=[.ref a])->(aR K H a (ns.map V.int))->(ns.length<=63)->((∀ m∈ns,Builtin.Int.intBits m<=1048576))->(H T=some (.ext (TabAt T #[])))->(∀ (ps:Array Value) (H':Hp),H' T=some (.ext (TabAt T ps))->Q (.bl true) H')->w9 K T vs H Q bK
theorem Lp {T:Addr}{H:Hp}(h:RL T H):∃ ps,H T=some (.ext (TabAt T ps)):=by
 rcases h with h|⟨c,h,_⟩
 ·exact⟨_,h⟩
 ·exact⟨_,h⟩
section
variable {P:Program}{w:World}{K:W.Frag}{mg:Str->Option Value}{base:Heap}{t:KO}
theorem bY:ay ["number","parts","left","divisor","taken"] ["number"] (ar iG):=.of
theorem nN:ay ["divisor"] ["divisor"] (ar gu):=.of
theorem fi:ay ["number","prime","often","left"] ["number","prime"] (ar jQ):=.of
theorem dM:ay ["number","core","root","prime","often","turn"] ["number"] (ar ng):=.of
theorem jB:ay ["number"] ["number"] (ar dH):=.of
theorem dO:ay ["number","k","n","power","factor","left"] ["number","k","n"] (ar lu):=.of
theorem cI:ay ["number","n","sign","top","bottom","twos","odd"] ["number","n"] (ar nt):=.of
theorem q8:ay ["odd"] ["odd"] (ar iH):=.of
theorem pf:ay ["one","other"] ["one","other"] (ar hJ):=.of
theorem dY:ay ["one","other","upper","lower","below"] ["one","other"] (ar jR):=.of
theorem xa:ay ["row","taken","times"] ["row","taken","times"] (ar lA):=.of
theorem xc:ay ["a","b","c"] ["a","b","c"] (ar lB):=.of
theorem r9:ay ["a","b","c"] ["a","b","c"] (ar jr):=.of
theorem i8:ay ["a","b","c"] ["a","b","c"] (ar cZ):=.of
theorem dw:ay ["a","b","c","odd_primes","number"] ["a","b","c"] (ar dI):=.of
theorem lL:ay ["a","b","place","one","other"] ["a","b","place"] (ar nv):=.of
theorem ib:ay ["one","other","prime","one_is_odd","other_is_odd"] ["one","other","prime"] (ar iI):=.of
theorem fj:ay ["one","other","sign"] ["one","other"] (ar iJ):=.of
theorem q9:ay ["number","n","shares"] ["number","n"] (ar nA):=.of
theorem dh:ay ["r","n","s","m","shares","greatest","least","steps"] ["r","n","s","m"] (ar hX):=.of
theorem cN:ay ["number","n","joined","prime","often"] ["number","n"] (ar gv):=.of
theorem xf:ay ["number","prime"] ["number","prime"] (ar lC):=.of
theorem nO:ay ["number","prime"] ["number","prime"] (ar gw):=.of
theorem aN:ay ["number","prime","odd","root","over","turner","half"] ["number","prime"] (ar eh):=.of
theorem dA:ay ["prime","number"] ["prime"] (ar dJ):=.of
theorem oS:ay ["Q","P","products"] ["Q","P"] (ar lD):=.of
theorem gx:ay ["P","divisor"] ["P"] (ar ia):=.of
theorem uU:ay ["Q"] ["Q"] (ar jS):=.of
theorem uV:ay ["table","P"] ["table","P"] (ar jT):=.of
theorem E7:ay ["one","other"] ["one","other"] (ar uk):=.of
theorem uW:ay ["P","times"] ["P","times"] (ar jU):=.of
theorem rf:ay ["row","P"] ["row","P"] (ar iK):=.of
theorem dQ:ay ["a","b","c","bad","Q","length","settled"] ["a","b","c"] (ar iL):=.of
theorem dB:ay ["a","b","c","s","t","u"] ["a","b","c"] (ar fD):=.of
theorem xg:ay ["one","other","n"] ["one","other","n"] (ar lE):=.of
theorem dC:ay ["Q","vectors","product","even","odd"] ["Q","vectors"] (ar fE):=.of
theorem bZ:ay ["vectors","length","settled","shorter"] ["vectors","length"] (ar fh):=.of
theorem BY:ay ["vectors","length"] ["vectors","length"] (ar qH):=.of
theorem gQ:ay ["vectors","length","first","second","third"] ["vectors","length"] (ar jV):=.of
theorem j4:ay ["vector","other","length","whole","times"] ["vector","other","length"] (ar lF):=.of
theorem ju:ay ["vector","first","second","near","times","beside"] ["vector","first","second"] (ar nB):=.of
theorem ON:ay ["_law_script","_law_k"] ["_law_script","_law_k"] (ar KN):=.of
theorem xh:ay ["_law_cell","_law_prime","_law_many","_law_part"] ["_law_cell","_law_prime","_law_many"] (ar um):=.of
theorem E8:ay ["_law_found"] ["_law_found"] (ar uo):=.of
theorem BZ:ay ["_law_found","_law_many"] ["_law_found","_law_many"] (ar qI):=.of
theorem i9:ay ["_law_numbers","_law_found","_law_number","_law_other"] ["_law_numbers"] (ar qJ):=.of
theorem uX:ay ["_law_point"] ["_law_point"] (ar jW):=.of
theorem cO:ay ["_law_cell","_law_most","_law_found","_law_signs","_law_prime","_law_by","_law_at"] ["_law_cell","_law_most"] (ar bD):=.of
theorem c7:ay ["_law_number","_law_prime","_law_found","_law_factor","_law_rest"] ["_law_number","_law_prime"] (ar jX):=.of
theorem c8:ay ["_law_triple_here","_law_x","_law_a","_law_b","_law_c","_law_y","_law_z"] ["_law_triple_here"] (ar jY):=.of
theorem E9:ay ["_law_triple_here","_law_place","_law_k"] ["_law_triple_here","_law_place"] (ar Eo):=.of
theorem gT:ay ["_law_number","_law_found","_law_rest","_law_d"] ["_law_number"] (ar qK):=.of
theorem j6:ay ["_law_triple_here","_law_number","_law_places"] ["_law_triple_here","_law_number"] (ar iM):=.of
theorem ja:ay ["_law_cell","_law_other","_law_found","_law_at","_law_primes_here","_law_k"] ["_law_cell","_law_other"] (ar gO):=.of
theorem gU:ay ["_law_script","_law_kind","_law_triple_here","_law_at"] ["_law_script"] (ar qL):=.of
theorem ic:ay ["_law_triple_here","_law_told","e"] ["_law_triple_here"] (ar nE):=.of
theorem cE:ay ["_law_triple_here","_law_base","e"] ["_law_triple_here"] (ar fF):=.of
theorem rg:ay ["_law_triple_here","_law_point","_law_squares","_law_products"] ["_law_triple_here","_law_point"] (ar uq):=.of
theorem uY:ay ["_law_script","_law_bad_here","_law_triple_here","_law_plain"] ["_law_script"] (ar Ep):=.of
theorem nQ:ay ["self","place"] ["self","place"] (ar cm):=.of
theorem Fb (F:Fn K mg "_law_whole" uo)(T:Txt K mg t) :qh P w K mg base 1 "_law_whole" ["_law_found"] (tT):=by
 refine F.LJ E8 (fun f aZ A outer s H fz vs Q E hr h=>?_)
 obtain⟨n,rfl,q⟩:=h
 refine⟨_,aq (aE (tK (aJ lV rfl T.cD oO (ae (pv 0) (ae (lR (v:=.ty "int") rfl T.wN wQ rfl) ag))) (mM (Ji (aJ lV rfl T.cD oO (ae (pv 0) (ae (lR (v:=.ty "bool") rfl T.KR KS rfl) ag))))))),?_⟩
 refine⟨_,rfl,_,_,_,_,rfl,.inr ⟨_,rfl⟩,.of (.int _),rfl,_,rfl,?_⟩
 refine jK ?_
 exact⟨_,rfl,_,_,_,_,rfl,.inr ⟨_,rfl⟩,.of (.int _),T.SJ,_,rfl,q⟩
theorem uZ (F:Fn K mg "taken_out" jQ)(T:Txt K mg t) :aV P w K mg base aU 1 "taken_out" ["number","prime"] (kE):=by
 refine F.ok fi (fun f aZ A outer s H vs Q E hr h=>?_)
 obtain⟨x,p,rfl,x0,p2,pl,q⟩:=h
 refine⟨_,ai (bH (i:=2) fi.nd af)
  (ai (bH (i:=3) fi.nd (pv 0))
  (ai (dE aah (aB bE (av zo (pv 3) (pv 1)) af (aA _)) (ai (bH (i:=3) fi.nd (av de (pv 3) (pv 1)))
  (aq (bH (i:=2) fi.nd (av cW (pv 2) af)))))
  (aq (aE (aS (ae (pv 2) (ae (pv 3) ag))))))),?_⟩
 refine⟨_,rfl,?_⟩
 refine⟨fun m σ H'=>∃ (o l:Int),σ=[some (.int x),some (.int p),some (.int o),some (.int l)]/\H=H'/\Pr.Gu x p l o/\0<=o/\l≠0/\l.natAbs<=x.natAbs/\(0<x->0<l)/\(x<0->l<0)/\m=l.natAbs,
  ⟨_,0,x,rfl,rfl,Pr.sP x p,by omega,x0,ZL _,id,id,rfl⟩,?_⟩
 rintro m σ H' ⟨o,l,rfl,rfl,Fc,o0,l0,lx,s1,s2,rfl⟩
 refine⟨_,rfl,_,rfl,_,_,rfl,rfl,(by show p≠0;omega),rfl,_,rfl,?_⟩
 refine bJ (fun c=>?_) (fun c=>?_)
 ·have z:l.fmod p=0:=aL (bX c)
  obtain⟨t1,t2,t3,t4⟩:=yK p2 l0 z
  refine⟨fun σ' H2=>σ'=[some (.int x),some (.int p),some (.int (o+1)),some (.int (l.fdiv p))]/\H=H2,?_,?_⟩
  ·rintro σ' H2 ⟨rfl,rfl⟩
   exact⟨_,t2,o+1,l.fdiv p,rfl,rfl,Pr.Dy Fc o0 z,by omega,t1,by omega,fun h=>t3 (s1 h),fun h=>t4 (s2 h),rfl⟩
  ·exact⟨_,rfl,_,rfl,_,_,rfl,rfl,⟨by omega,pl⟩,_,rfl,_,_,rfl,rfl,rfl,rfl⟩
 ·have z:l.fmod p≠0:=fun z=>du c (aai V.int z)
  exact⟨_,rfl,_,rfl,(d6 2),fun r kJ=>q r _ o l (au kJ _) ah Fc o0 z l0 lx s1 s2⟩
theorem nR (F:Fn K mg "divisor_after" gu)(T:Txt K mg t) :aV P w K mg base aU 1 "divisor_after" ["divisor"] (uA):=by
 refine F.ok nN (fun f aZ A outer s H vs Q E hr h=>?_)
 obtain⟨d,rfl,q⟩:=h
 refine⟨_,ai (aY (aB bE (pv 0) af (aA _)) (aq (aE af)) aK)
  (aq (aE (av cW (pv 0) af))),?_⟩
 refine⟨_,rfl,rfl,_,rfl,?_⟩
 refine bJ (fun c=>?_) (fun c=>?_)
 ·rw[aag (aL (bX c))] at q
  exact q
 ·rw[Z4 (fun z=>du c (aai V.int z))] at q
  exact⟨_,rfl,_,_,rfl,rfl,q⟩
theorem rh (F:Fn K mg "prime_parts" iG)(T:Txt K mg t)(gy:aV P w K mg base aU 1 "divisor_after" ["divisor"] (uA))(bu:aV P w K mg base aU 1 "taken_out" ["number","prime"] (kE)):aV P w K mg base aU 2 "prime_parts" ["number"] (jZ):=by
 refine F.ok bY (fun f aZ A outer s H vs Q E hr h=>?_)
 obtain⟨n,rfl,n0,n1,q⟩:=h
 refine⟨_,ai (aY (aB jJ (pv 0) af (aA _)) iR aK)
  (ai (bH (i:=1) bY.nd (bG ag))
  (ai (bH (i:=2) bY.nd (pv 0))
  (ai (bH (i:=3) bY.nd af)
  (ai (dE aah (aB vA (av az (pv 3) (pv 3)) (pv 2) (aA _)) (cu (aY (aB bE (av zo (pv 2) (pv 3)) af (aA _)) (ai (bH (i:=4) bY.nd (aj bu hr aD (ae (pv 2) (ae (pv 3) ag))))
  (ai (km (vD abF acY acX iT (pv 1) (ae (aS (ae (pv 3) (ae (aW (cw K) (pv 4) af) ag))) ag)))
  (aq (bH (i:=2) bY.nd (aW (cw K) (pv 4) af))))) aK)
  (aq (bH (i:=3) bY.nd (aj gy hr aD (ae (pv 3) ag))))))
  (cu (aY (aB iq (pv 2) af (aA _)) (aq (km (vD abF acY acX iT (pv 1) (ae (aS (ae (pv 2) (ae af ag))) ag)))) aK)
  (aq (aE (pv 1)))))))),?_⟩
 refine⟨_,rfl,_,_,rfl,rfl,_,rfl,oP (show ¬ n<1 by omega) ?_⟩
 refine⟨(d6 0),fun pl ir=>?_⟩
 refine⟨_,rfl,?_⟩
 refine⟨W1 n pl H,⟨_,n,2,[],[],none,rfl,au ir _,ah,.nil,Pr.Bs n,by omega,by omega,n0,rfl⟩,?_⟩
 rintro m σ H1 ⟨left,d,xs,rs,of,rfl,g1,xy,t1,out,d2,dm,l1,rfl⟩
 have bd:Builtin.Int.intBits d<=1048576:=CJ (k:=64) (by omega) (by decide)
 have ln:=Pr.Dx out l1
 have S8:=short out.all (EB out l1) n1
 have Xa:=t1.len
 refine⟨_,rfl,_,rfl,_,_,rfl,rfl,MT bd bd,_,rfl,_,_,rfl,rfl,_,rfl,?_⟩
 refine bJ (fun c=>?_) (fun c=>?_)
 ·have dd:d*d<=left:=bX c
  have dl:=OA (show 1<=d by omega)
  refine⟨fun σ' H2=>∃ m',m'<(left+1-d).toNat/\W1 n pl H m' σ' H2,fun _ _ h=>h,?_⟩
  refine⟨fun σ' H3=>∃ (ys:List (Int × Int)) (qs:List Addr) (l2:Int) (ta:Option V),σ'=[some (.int n),some (.ref pl),some (.int l2),some (.int d),ta]/\aw H H3/\H3 pl=some (.lst (qs.map V.ref))/\fo H3 qs ys/\Pr.Out n l2 (if d=2 then 3 else d+2) ys/\1<=l2/\l2<=left,?_,?_⟩
  ·refine⟨_,rfl,_,rfl,_,_,rfl,rfl,(by show d≠0;omega),rfl,_,rfl,?_⟩
   refine bJ (fun c2=>?_) (fun c2=>?_)
   ·have z2:left.fmod d=0:=aL (bX c2)
    refine⟨_,rfl,_,rfl,left,d,rfl,(by omega),d2,ZM (log2_lt_of (k:=64) (by omega) (by decide)) (by decide),fun r H2 o l2 g2 ym Fc o0 zl l0 lx sp sn=>?_⟩
    have lp:=sp (by omega)
    have o3:0<o:=by
     rcases (show o=0\/0<o by omega) with h|h
     ·have e:=Fc.eq
      rw[h,show (0:Int).toNat=0 from rfl,aaB,aaI] at e
      rw[<- e] at zl
      exact absurd z2 zl
     ·exact h
    refine⟨_,rfl,.inl ⟨rfl,_,aR.of (g2 _ _ xy)⟩,_,rfl,_,rfl,r,_,_,_,rfl,rfl,aO.of ym,rfl,(d6 2),fun p hp=>?_⟩
    have tR:=g2 _ _ xy
    have G5:pl≠p:=fun z=>by subst z;rw[tR] at hp;cases hp
    have nr:r≠pl:=fun z=>by subst z;rw[tR] at ym;cases ym
    have Xb:r≠p:=fun z=>by subst z;rw[ym] at hp;cases hp
    refine⟨pl,_,_,rfl,rfl,(by rw[aG G5];exact tR),(by rw[ZR];exact tm (by omega)),?_⟩
    obtain⟨k1,k2,k3⟩:=grown (x:=(d,o)) (g1.trans g2) ir hp tR (fo.same g2 t1)
    refine⟨_,rfl,r,_,_,_,rfl,rfl,aO.of (by rw[aG nr,aG Xb];exact ym),rfl,?_⟩
    exact⟨xs++[(d,o)],rs++[p],l2,_,rfl,k1,k2,k3,Pr.DB out Fc d2 o3 zl rfl,by omega,by omega⟩
   ·have z2:left.fmod d≠0:=fun z=>du c2 (aai V.int z)
    exact⟨xs,rs,left,_,rfl,g1,xy,t1,Pr.Dz out (Pr.sP left d) d2 rfl z2 rfl,l1,by omega⟩
  ·rintro σ3 H3 ⟨ys,qs,l2,ta,rfl,g3,oU,t3,S9,Xc,Zo⟩
   refine⟨_,rfl,d,rfl,(l2+1-(if d=2 then 3 else d+2)).toNat,?_,l2,_,ys,qs,_,rfl,g3,oU,t3,S9,?_,?_,Xc,rfl⟩
   all_goals split<;>omega
 ·have dd:¬ d*d<=left:=du c
  refine⟨fun σ' H2=>∃ (ys:List (Int × Int)) (qs:List Addr) (l2:Option V) (d2 o2:Option V),σ'=[some (.int n),some (.ref pl),l2,d2,o2]/\aw H H2/\H2 pl=some (.lst (qs.map V.ref))/\fo H2 qs ys/\Pr.Told n ys,?_,?_⟩
  ·refine⟨_,rfl,_,_,rfl,rfl,_,rfl,?_⟩
   refine bJ (fun c3=>?_) (fun c3=>?_)
   ·have o3:1<left:=bX c3
    refine⟨_,rfl,.inl ⟨rfl,_,aR.of xy⟩,_,rfl,(d6 2),fun p hp=>?_⟩
    have G5:pl≠p:=fun z=>by subst z;rw[xy] at hp;cases hp
    refine⟨pl,_,_,rfl,rfl,(by rw[aG G5];exact xy),(by rw[ZR];exact tm (by omega)),?_⟩
    obtain⟨k1,k2,k3⟩:=grown (x:=(left,1)) g1 ir hp xy t1
    exact⟨xs++[(left,1)],rs++[p],_,_,_,rfl,k1,k2,k3,Pr.Bt out d2 (by omega) o3⟩
   ·have o3:¬ 1<left:=du c3
    exact⟨xs,rs,_,_,_,rfl,g1,xy,t1,Pr.Bu out (by omega)⟩
  ·rintro σ3 H3 ⟨ys,qs,l3,d3,o3,rfl,g3,oU,t3,told⟩
   exact⟨_,rfl,q pl qs ys H3 g3 ir oU t3 told⟩
theorem y7 (F:Fn K mg "core_of" ng)(T:Txt K mg t)(bN:aV P w K mg base aU 2 "prime_parts" ["number"] (jZ)):aV P w K mg base aU 3 "core_of" ["number"] (uD):=by
 refine F.ok dM (fun f aZ A outer s H vs Q E hr h=>?_)
 obtain⟨n,rfl,c',n0,n1,q⟩:=h
 refine⟨_,ai (aY (aB bE (pv 0) af (aA _)) iR aK)
  (cu (bH (i:=1) dM.nd (jH (aB jJ (pv 0) af (aA _)) (fR dF af) af))
  (ai (bH (i:=2) dM.nd af)
  (ai (gh aah rfl (Bh K (aj bN hr aD (ae (aJ bQ rfl T.fW fX (ae (pv 0) ag)) ag))) (Px K (cM (sM (i:=3) dM.nd) (cM (sM (i:=4) dM.nd) kq))) (cu (aY (aB bE (av aQ (pv 4) af) af (aA _)) (aq (bH (i:=1) dM.nd (av az (pv 1) (pv 3)))) aK)
  (aq (gh aah rfl (eQ rfl T.iD (ae (av jh (pv 4) af) ag)) (sM (i:=5) dM.nd) (aq (bH (i:=2) dM.nd (av az (pv 2) (pv 3))))))))
  (aq (aE (aS (ae (pv 1) (ae (pv 2) ag)))))))),?_⟩
 refine⟨_,rfl,rfl,_,rfl,oP (fun z=>c' (aL z)) ?_⟩
 refine⟨fun σ' H'=>σ'=[some (.int n),some (.int (sgn n)),none,none,none,none]/\H=H',?_,?_⟩
 ·refine⟨_,rfl,_,_,rfl,rfl,_,rfl,?_⟩
  unfold sgn
  refine bJ (fun c2=>?_) (fun c2=>?_)
  ·refine⟨_,rfl,?_⟩
   rw[aag (bX c2)]
   exact⟨rfl,rfl⟩
  ·rw[Z4 (du c2)]
   exact⟨rfl,rfl⟩
 rintro _ _ ⟨rfl,rfl⟩
 have a1:1<=aF n/\aF n<=10000000000:=by
  unfold aF
  split<;>omega
 refine⟨_,rfl,_,rfl,aF n,rfl,a1.1,a1.2,fun pl rs xs H1 g1 np hl tl told=>?_⟩
 refine⟨pl,rfl,⟨_,aR.of hl⟩,gY (K:=K) (a:=pl) (xs:=rs.map V.ref) (fun i σ H'=>∃ (pr of tu:Option V),σ=[some (.int n),some (.int (sgn n*Pr.d7 (xs.take i))),some (.int (Pr.df (xs.take i))),pr,of,tu]/\H1=H')
  ⟨none,none,none,by show [some (V.int n),some (V.int (sgn n)),some (V.int 1),none,none,none]=[some (V.int n),some (V.int (sgn n*1)),some (V.int 1),none,none,none];rw[aaM],rfl⟩ (fun i σ H2 _ ⟨_,_,_,_,e⟩=>e▸aR.of hl) ?_ ?_⟩
 ·rintro i y σ H2 hi ⟨pr,of,tu,rfl,rfl⟩
  obtain⟨r,kJ,rfl⟩:∃ r,rs[i]?=some r/\y=.ref r:=by
   rw[ZU] at hi
   cases e:rs[i]? with
   | none=>rw[e] at hi;cases hi
   | some r=>rw[e] at hi;exact⟨r,rfl,(ZG hi).symm⟩
  obtain⟨⟨p,o⟩,hx,ht⟩:=tl.get kJ
  have mem:=aau hx
  have U0:=told.all _ mem
  have p2:2<=p:=U0.prime.two
  have o1:1<=o:=U0.often
  have o2:o<=40:=Pr.Dw told (by show aF n<=10000000000;exact a1.2) mem
  have pn:p<=aF n:=Pr.Gs told mem
  refine⟨r,_,rfl,aO.of ht,rfl,_,_,rfl,_,_,rfl,rfl,?_⟩
  refine⟨fun σ' H'=>σ'=[some (.int n),some (.int (sgn n*Pr.d7 (xs.take (i+1)))),some (.int (Pr.df (xs.take i))),some (.int p),some (.int o),tu]/\H1=H',?_,?_⟩
  ·refine⟨_,rfl,_,_,rfl,rfl,(by show (0:Int)<2;decide),rfl,_,rfl,?_⟩
   rw[BU hx]
   refine bJ (fun c2=>?_) (fun c2=>?_)
   ·have e:o%2=1:=aL (bX c2)
    rw[aag e,<- Z3]
    exact⟨_,rfl,_,rfl,_,_,rfl,rfl,cK (by omega) (by omega),rfl,rfl⟩
   ·have e:¬ o%2=1:=fun z=>du c2 (aai V.int z)
    rw[Z4 e,aaM]
    exact⟨rfl,rfl⟩
  rintro _ _ ⟨rfl,rfl⟩
  refine⟨_,rfl,_,_,rfl,rfl,⟨by decide,by decide⟩,o / 2,rfl,(by omega),(by omega),
   mR (fun j σ H'=>∃ tu:Option V,σ=[some (.int n),some (.int (sgn n*Pr.d7 (xs.take (i+1)))),some (.int (Pr.df (xs.take i)*p^j)),some (.int p),some (.int o),tu]/\H1=H') ⟨tu,by rw[aaB,aaM],rfl⟩ ?_ ?_⟩
  ·rintro j σ H' hj ⟨tu,rfl,rfl⟩
   refine⟨_,rfl,_,rfl,_,_,rfl,rfl,cK (by omega) (by omega),some (.int (0+(j:Int))),?_,rfl⟩
   rw[ZZ,<- Z3]
   rfl
  ·rintro σ H' ⟨tu,rfl,rfl⟩
   refine⟨some (.int p),some (.int o),tu,?_,rfl⟩
   rw[BV hx]
 ·rintro σ H2 ⟨pr,of,tu,rfl,rfl⟩
  have e:xs.take (rs.map V.ref).length=xs:=by rw[ZR,tl.len,abj]
  rw[e]
  exact⟨_,rfl,_,rfl,(d6 2),fun p hp=>q p xs _ (g1.trans (au hp _)) told ah⟩
theorem xj (F:Fn K mg "row_less" lA)(T:Txt K mg t) :aV P w K mg base aU 1 "row_less" ["row","taken","times"] (Et):=by
 refine F.ok xa (fun f aZ A outer s H vs Q E hr h=>?_)
 obtain⟨pa,pb,x,s',t',y,u,v,k,rfl,ha,hb,m1,m2,m3,q⟩:=h
 refine⟨_,aq (aE (aS (ae (av d8 (aW (cw K) (pv 0) af) (av az (pv 2) (aW (cw K) (pv 1) af))) (ae (av d8 (aW (cw K) (pv 0) af) (av az (pv 2) (aW (cw K) (pv 1) af))) (ae (av d8 (aW (cw K) (pv 0) af) (av az (pv 2) (aW (cw K) (pv 1) af))) ag))))),?_⟩
 exact⟨_,rfl,pa,_,_,_,rfl,rfl,aO.of ha,rfl,_,rfl,_,rfl,pb,_,_,_,rfl,rfl,aO.of hb,rfl,_,_,rfl,rfl,m1,_,_,rfl,rfl,
  _,rfl,pa,_,_,_,rfl,rfl,aO.of ha,rfl,_,rfl,_,rfl,pb,_,_,_,rfl,rfl,aO.of hb,rfl,_,_,rfl,rfl,m2,_,_,rfl,rfl,
  _,rfl,pa,_,_,_,rfl,rfl,aO.of ha,rfl,_,rfl,_,rfl,pb,_,_,_,rfl,rfl,aO.of hb,rfl,_,_,rfl,rfl,m3,_,_,rfl,rfl,
  (d6 3),fun p np=>q p _ (au np _) ah⟩
theorem u3 (F:Fn K mg "shares_of" jR)(T:Txt K mg t)(lM:aV P w K mg base aU 1 "row_less" ["row","taken","times"] (Et)):aV P w K mg base aU 2 "shares_of" ["one","other"] (i6):=by
 refine F.ok dY (fun f aZ A outer s H vs Q E hr h=>?_)
 obtain⟨x,y,rfl,hx,hy,q⟩:=h
 refine⟨_,ai (bH (i:=2) dY.nd (aS (ae (pv 0) (ae af (ae af ag)))))
  (ai (bH (i:=3) dY.nd (aS (ae (pv 1) (ae af (ae af ag)))))
  (ai (dE aah (aB iS (aW (cw K) (pv 3) af) af (aA _)) (ai (bH (i:=4) dY.nd (aj lM hr aD (ae (pv 2) (ae (pv 3) (ae (av de (aW (cw K) (pv 2) af) (aW (cw K) (pv 3) af)) ag)))))
  (ai (bH (i:=2) dY.nd (pv 3))
  (aq (bH (i:=3) dY.nd (pv 4))))))
  (ai (aY (aB jJ (aW (cw K) (pv 2) af) af (aA _)) (aq (aE (aS (ae (fR dF (aW (cw K) (pv 2) af)) (ae (fR dF (aW (cw K) (pv 2) af)) (ae (fR dF (aW (cw K) (pv 2) af)) ag)))))) aK)
  (aq (aE (pv 2)))))),?_⟩
 have B4:((x.natAbs:Int)+2*y.natAbs+1).natAbs<=4*Lm:=by
  have:=KU
  omega
 have Ta:=Sh.D5 (x:=x) (y:=y)
 generalize ((x.natAbs:Int)+2*y.natAbs+1)=B at B4 Ta
 refine⟨_,rfl,(d6 3),fun p1 n1=>?_⟩
 refine⟨_,rfl,(d6 3),fun p2 n2=>?_⟩
 refine⟨fun m σ H'=>∃ (pa pb:Addr) (a s t b u v:Int) (be:Option V),σ=[some (.int x),some (.int y),some (.ref pa),some (.ref pb),be]/\aw H H'/\H' pa=some (.tup [.int a,.int s,.int t])/\H' pb=some (.tup [.int b,.int u,.int v]) /\
  Sh.Rows x y a s t b u v/\Sh.Sz B a s t b u v/\m=b.natAbs,⟨_,p1,p2,_,_,_,_,_,_,none,rfl,(au n1 _).trans (au n2 _),au n2 _ _ _ ah,ah,Sh.yv x y,Ta,rfl⟩,?_⟩
 clear Ta n1 n2 p1 p2
 rintro m σ H1 ⟨pa,pb,a,s',t',b,u,v,be,rfl,g,ha,hb,rws,sz,rfl⟩
 refine⟨_,rfl,pb,_,_,_,rfl,rfl,aO.of hb,rfl,rfl,_,rfl,?_⟩
 refine bJ (fun c=>?_) (fun c=>?_)
 ·have b0:b≠0:=fun z=>neT c (aai V.int z)
  have P5:=Sh.GU sz b0 (a.fdiv b) (a.fmod b) (Sh.quot a b) rfl
  have HB:=Sh.BH rws (a.fdiv b)
  rw[nG] at HB
  have qs:(a.fdiv b).natAbs<=8*Lm:=by
   have e:a.fdiv b*b=a-a.fmod b:=by have:=nG a b;omega
   have h1:(a.fdiv b).natAbs<=(a.fdiv b*b).natAbs:=by
    rw[Z7]
    exact ac8 _ (by omega)
   rw[e] at h1
   have h2:=sz.a0
   have h3:=P5.b0
   omega
  refine⟨fun σ' H2=>∃ pc:Addr,σ'=[some (.int x),some (.int y),some (.ref pb),some (.ref pc),some (.ref pc)]/\aw H1 H2/\H2 pc=some (.tup [.int (a-a.fdiv b*b),.int (s'-a.fdiv b*u),.int (t'-a.fdiv b*v)]),?_,?_⟩
  ·rintro σ' H2 ⟨pc,rfl,g2,hc⟩
   rw[nG] at hc
   exact⟨(a.fmod b).natAbs,Sh.wj b0,pb,pc,b,u,v,_,_,_,_,rfl,g.trans g2,g2 _ _ hb,hc,HB,P5,rfl⟩
  ·have z1:=sz.b0
   have z2:=sz.u0
   have z3:=sz.v0
   refine⟨_,rfl,_,rfl,_,rfl,pa,_,_,_,rfl,rfl,aO.of ha,rfl,_,rfl,pb,_,_,_,rfl,rfl,aO.of hb,rfl,_,_,rfl,rfl,⟨b0,nF (by omega)⟩,
    pa,pb,a,s',t',b,u,v,_,rfl,ha,hb,mulL qs (by omega),mulL qs (by omega),mulL qs (by omega),fun pc H2 g2 hc=>?_⟩
   exact⟨_,rfl,_,rfl,pc,rfl,g2,hc⟩
 ·have b0:b=0:=aL (Oy c)
  obtain⟨e1,⟨k1,e2⟩,⟨k2,e3⟩⟩:=Sh.D4 rws b0
  have z2:=sz.s0
  have z3:=sz.t0
  refine⟨_,rfl,pa,_,_,_,rfl,rfl,aO.of ha,rfl,_,_,rfl,rfl,_,rfl,?_⟩
  refine bJ (fun c=>?_) (fun c=>?_)
  ·have a0:a<0:=bX c
   refine⟨_,rfl,pa,_,_,_,rfl,rfl,aO.of ha,rfl,_,rfl,_,rfl,pa,_,_,_,rfl,rfl,aO.of ha,rfl,_,rfl,_,rfl,pa,_,_,_,rfl,rfl,aO.of ha,rfl,_,rfl,(d6 3),fun p np=>?_⟩
   exact q p _ (-a) (-s') (-t') (g.trans (au np _)) ah (by omega) (by rw[aaS,aaS];omega) ⟨-k1,by rw[abp];exact e2⟩ ⟨-k2,by rw[abp];exact e3⟩ (by omega) (by omega)
  ·have a0:¬ a<0:=du c
   exact⟨_,rfl,q pa H1 a s' t' g ha (by omega) e1 ⟨k1,e2⟩ ⟨k2,e3⟩ (by omega) (by omega)⟩
theorem u7 (F:Fn K mg "slopes_of" jS)(T:Txt K mg t) :aV P w K mg base aU 1 "slopes_of" ["Q"] (K0):=by
 refine F.ok uU (fun f aZ A outer s H vs Q E hr h=>?_)
 obtain⟨p,F,rfl,hp,q⟩:=h
 unfold S6 at hp
 refine⟨_,aq (aE (aS (ae (aS (ae (av az af (aW (cw K) (pv 0) af)) (ae (aW (cw K) (pv 0) af) (ae (aW (cw K) (pv 0) af) ag)))) (ae (aS (ae (aW (cw K) (pv 0) af) (ae (av az af (aW (cw K) (pv 0) af)) (ae (aW (cw K) (pv 0) af) ag)))) (ae (aS (ae (aW (cw K) (pv 0) af) (ae (aW (cw K) (pv 0) af) (ae (av az af (aW (cw K) (pv 0) af)) ag)))) ag))))),?_⟩
 refine⟨_,rfl,p,_,_,_,rfl,rfl,aO.of hp,rfl,_,_,rfl,rfl,L5,_,rfl,p,_,_,_,rfl,rfl,aO.of hp,rfl,_,rfl,p,_,_,_,rfl,rfl,aO.of hp,rfl,(d6 3),fun p1 n1=>?_⟩
 have h1:=au n1 (t3 (sl F).r0) _ _ hp
 refine⟨_,rfl,p,_,_,_,rfl,rfl,aO.of h1,rfl,_,rfl,p,_,_,_,rfl,rfl,aO.of h1,rfl,_,_,rfl,rfl,L5,_,rfl,p,_,_,_,rfl,rfl,aO.of h1,rfl,(d6 3),fun p2 n2=>?_⟩
 have h2:=au n2 (t3 (sl F).r1) _ _ h1
 refine⟨_,rfl,p,_,_,_,rfl,rfl,aO.of h2,rfl,_,rfl,p,_,_,_,rfl,rfl,aO.of h2,rfl,_,rfl,p,_,_,_,rfl,rfl,aO.of h2,rfl,_,_,rfl,rfl,L5,(d6 3),fun p3 n3=>⟨(d6 3),fun p4 n4=>?_⟩⟩
 have g3:=au n3 (t3 (sl F).r2)
 have g4:=au n4 (.tup [.ref p1,.ref p2,.ref p3])
 exact q p4 _ ((au n1 _).trans ((au n2 _).trans (g3.trans g4))) ⟨p1,p2,p3,ah,g4 _ _ (g3 _ _ (au n2 _ _ _ ah)),g4 _ _ (g3 _ _ ah),g4 _ _ ah⟩
theorem u9 (F:Fn K mg "stretched" jU)(T:Txt K mg t) :aV P w K mg base aU 1 "stretched" ["P","times"] (wU K):=by
 refine F.ok uW (fun f aZ A outer s H vs Q E hr h=>?_)
 obtain⟨p,P',m,rfl,hp,bp,bm,q⟩:=h
 refine⟨_,aq (aE (aS (ae (av az (aW (cw K) (pv 0) af) (pv 1)) (ae (av az (aW (cw K) (pv 0) af) (pv 1)) (ae (av az (aW (cw K) (pv 0) af) (pv 1)) ag))))),?_⟩
 exact⟨_,rfl,p,_,_,_,rfl,rfl,hp,rfl,_,rfl,_,_,rfl,rfl,Az bp.x bm,_,rfl,p,_,_,_,rfl,rfl,hp,rfl,_,rfl,_,_,rfl,rfl,Az bp.y bm,_,rfl,p,_,_,_,rfl,rfl,hp,rfl,_,rfl,_,_,rfl,rfl,Az bp.z bm,(d6 3),fun z nz=>q z _ (au nz _) ah⟩
theorem rj (F:Fn K mg "row_product" iK)(T:Txt K mg t) :aV P w K mg base aU 1 "row_product" ["row","P"] (AA K):=by
 refine F.ok rf (fun f aZ A outer s H vs Q E hr h=>?_)
 obtain⟨p,q',r,s',rfl,hp,hq,br,bs,q⟩:=h
 unfold S3 at hp
 refine⟨_,aq (aE (av cW (av cW (av az (aW (cw K) (pv 0) af) (aW (cw K) (pv 1) af)) (av az (aW (cw K) (pv 0) af) (aW (cw K) (pv 1) af))) (av az (aW (cw K) (pv 0) af) (aW (cw K) (pv 1) af)))),?_⟩
 exact⟨_,rfl,p,_,_,_,rfl,rfl,aO.of hp,rfl,_,rfl,q',_,_,_,rfl,rfl,hq,rfl,_,_,rfl,rfl,Az br.x bs.x,_,rfl,p,_,_,_,rfl,rfl,aO.of hp,rfl,_,rfl,q',_,_,_,rfl,rfl,hq,rfl,_,_,rfl,rfl,Az br.y bs.y,_,_,rfl,rfl,_,rfl,p,_,_,_,rfl,rfl,aO.of hp,rfl,_,rfl,q',_,_,_,rfl,rfl,hq,rfl,_,_,rfl,rfl,Az br.z bs.z,_,_,rfl,rfl,q⟩
theorem vc (F:Fn K mg "turned_by" jT)(T:Txt K mg t)(bV:aV P w K mg base aU 1 "row_product" ["row","P"] (AA K)):aV P w K mg base aU 2 "turned_by" ["table","P"] (ED K):=by
 refine F.ok uV (fun f aZ A outer s H vs Q E hr h=>?_)
 obtain⟨p,q',t',P',rfl,ht,hq,bt,bp,q⟩:=h
 obtain⟨r0,r1,r2,hp,h0,h1,h2⟩:=ht
 refine⟨_,aq (aE (aS (ae (aj bV hr aD (ae (aW (cw K) (pv 0) af) (ae (pv 1) ag))) (ae (aj bV hr aD (ae (aW (cw K) (pv 0) af) (ae (pv 1) ag))) (ae (aj bV hr aD (ae (aW (cw K) (pv 0) af) (ae (pv 1) ag))) ag))))),?_⟩
 exact⟨_,rfl,p,_,_,_,rfl,rfl,aO.of hp,rfl,_,rfl,r0,q',_,_,rfl,h0,hq,bt.r0,bp,_,rfl,p,_,_,_,rfl,rfl,aO.of hp,rfl,_,rfl,r1,q',_,_,rfl,h1,hq,bt.r1,bp,_,rfl,p,_,_,_,rfl,rfl,aO.of hp,rfl,_,rfl,r2,q',_,_,rfl,h2,hq,bt.r2,bp,(d6 3),fun z nz=>q z _ (au nz _) nz ah⟩
theorem xk (F:Fn K mg "worth_of" lD)(T:Txt K mg t) :aV P w K mg base aU 1 "worth_of" ["Q","P"] (tq K):=by
 refine F.ok oS (fun f aZ A outer s H vs Q E hr h=>?_)
 obtain⟨p,q',F,P',rfl,hp,hq,bf,bp,q⟩:=h
 unfold S6 at hp
 refine⟨_,ai (bH (i:=2) oS.nd (aS (ae (av az (aW (cw K) (pv 1) af) (aW (cw K) (pv 1) af)) (ae (av az (aW (cw K) (pv 1) af) (aW (cw K) (pv 1) af)) (ae (av az (aW (cw K) (pv 1) af) (aW (cw K) (pv 1) af)) (ae (av az (aW (cw K) (pv 1) af) (aW (cw K) (pv 1) af)) (ae (av az (aW (cw K) (pv 1) af) (aW (cw K) (pv 1) af)) (ae (av az (aW (cw K) (pv 1) af) (aW (cw K) (pv 1) af)) ag))))))))
  (aq (aE (aJ (vV rfl) rfl T.IC IG (ae (oE rfl (cG.gen (cl:=[]) [] [] [(".0",.local),("coefficient",.local),("product",.local)] rfl) (J6 rfl T.Ov (ae (pv 0) (ae (pv 2) ag))) (fun C s0 H0 fp pins=>av az (pv 0) (pv 1))) ag)))),?_⟩
 refine⟨_,rfl,q',_,_,_,rfl,rfl,hq,rfl,_,rfl,q',_,_,_,rfl,rfl,hq,rfl,_,_,rfl,rfl,Az bp.x bp.x,_,rfl,q',_,_,_,rfl,rfl,hq,rfl,_,rfl,q',_,_,_,rfl,rfl,hq,rfl,_,_,rfl,rfl,Az bp.y bp.y,_,rfl,q',_,_,_,rfl,rfl,hq,rfl,_,rfl,q',_,_,_,rfl,rfl,hq,rfl,_,_,rfl,rfl,Az bp.z bp.z,_,rfl,q',_,_,_,rfl,rfl,hq,rfl,_,rfl,q',_,_,_,rfl,rfl,hq,rfl,_,_,rfl,rfl,Az bp.y bp.z,_,rfl,q',_,_,_,rfl,rfl,hq,rfl,_,rfl,q',_,_,_,rfl,rfl,hq,rfl,_,_,rfl,rfl,Az bp.x bp.z,_,rfl,q',_,_,_,rfl,rfl,hq,rfl,_,rfl,q',_,_,_,rfl,rfl,hq,rfl,_,_,rfl,rfl,Az bp.x bp.y,(d6 6),fun p1 n1=>?_⟩
 have g1:=au n1 (.tup [.int (P'.x*P'.x),.int (P'.y*P'.y),.int (P'.z*P'.z),.int (P'.y*P'.z),.int (P'.x*P'.z),.int (P'.x*P'.y)])
 have Hm:=g1 _ _ hp
 refine⟨_,rfl,_,rfl,p,p1,_,_,rfl,aO.of Hm,aO.of ah,yb (fun H' g=>aO.of (g _ _ Hm)) (fun H' g=>aO.of (g _ _ ah)) rfl (HP 6) SK ?_ ?_⟩
 ·intro i x y H' Q' ex ey g k
  obtain⟨a,b,rfl,rfl,ha,hb⟩:∃ a b:Int,x=.int a/\y=.int b/\Bd 600 a/\Bd (600+600) b:=by
   match i,ex,ey with
   | 0,ex,ey=>exact⟨_,_,(ZG ex).symm,(ZG ey).symm,bf.a,bp.x.mul bp.x⟩
   | 1,ex,ey=>exact⟨_,_,(ZG ex).symm,(ZG ey).symm,bf.b,bp.y.mul bp.y⟩
   | 2,ex,ey=>exact⟨_,_,(ZG ex).symm,(ZG ey).symm,bf.c,bp.z.mul bp.z⟩
   | 3,ex,ey=>exact⟨_,_,(ZG ex).symm,(ZG ey).symm,bf.d,bp.y.mul bp.z⟩
   | 4,ex,ey=>exact⟨_,_,(ZG ex).symm,(ZG ey).symm,bf.e,bp.x.mul bp.z⟩
   | 5,ex,ey=>exact⟨_,_,(ZG ex).symm,(ZG ey).symm,bf.f,bp.x.mul bp.y⟩
   | n+6,ex,ey=>cases ex
  exact⟨_,rfl,_,rfl,_,_,rfl,rfl,Az ha hb,k _ (aw.refl _)⟩
 ·intro l H' g h0 hl
  refine⟨l,[F.a*(P'.x*P'.x),F.b*(P'.y*P'.y),F.c*(P'.z*P'.z),F.d*(P'.y*P'.z),F.e*(P'.x*P'.z),F.f*(P'.x*P'.y)],rfl,hl,?_⟩
  rw[R6]
  exact q _ (g1.trans g)
theorem Fd (F:Fn K mg "added" uk)(T:Txt K mg t) :aV P w K mg base aU 1 "added" ["one","other"] (qP K):=by
 refine F.ok E7 (fun f aZ A outer s H vs Q E hr h=>?_)
 obtain⟨p,q',P',R',rfl,hp,hq,q⟩:=h
 refine⟨_,aq (aE (aS (ae (av cW (aW (cw K) (pv 0) af) (aW (cw K) (pv 1) af)) (ae (av cW (aW (cw K) (pv 0) af) (aW (cw K) (pv 1) af)) (ae (av cW (aW (cw K) (pv 0) af) (aW (cw K) (pv 1) af)) ag))))),?_⟩
 exact⟨_,rfl,p,_,_,_,rfl,rfl,hp,rfl,_,rfl,q',_,_,_,rfl,rfl,hq,rfl,_,_,rfl,rfl,_,rfl,p,_,_,_,rfl,rfl,hp,rfl,_,rfl,q',_,_,_,rfl,rfl,hq,rfl,_,_,rfl,rfl,_,rfl,p,_,_,_,rfl,rfl,hp,rfl,_,rfl,q',_,_,_,rfl,rfl,hq,rfl,_,_,rfl,rfl,(d6 3),fun z nz=>q z _ (au nz _) ah⟩
theorem ph (F:Fn K mg "lowest_point" ia)(T:Txt K mg t)(bA:aV P w K mg base aU 2 "shares_of" ["one","other"] (i6)):aV P w K mg base aU 3 "lowest_point" ["P"] (yL K):=by
 refine F.ok gx (fun f aZ A outer s H vs Q E hr h=>?_)
 obtain⟨b,p,x,y,z,rfl,hp,hb,P6,q⟩:=h
 refine⟨_,ai (bH (i:=1) gx.nd (aW (cw K) (aj bA hr aD (ae (aW (cw K) (aj bA hr aD (ae (aW (LS K) (pv 0) af) (ae (aW (LS K) (pv 0) af) ag))) af) (ae (aW (LS K) (pv 0) af) ag))) af))
  (cu (aY (aB jJ (aW (gi K) (fC rfl (aM.gen (cl:=[]) [] [] [(".0",.local),("number",.local)] rfl) (Dh (pv 0)) (fun C s0 H0 fp pins=>aB iS (pv 0) af (aA _)) (fun C s0 H0 fp pins=>pv 0)) af) af (aA _)) (aq (bH (i:=1) gx.nd (fR dF (pv 1)))) aK)
  (aq (aE (aS (ae (av de (aW (LS K) (pv 0) af) (pv 1)) (ae (av de (aW (LS K) (pv 0) af) (pv 1)) (ae (av de (aW (LS K) (pv 0) af) (pv 1)) ag))))))),?_⟩
 obtain⟨bx,rk,bz⟩:=G3 hb
 refine⟨_,rfl,L6 hp rfl ⟨_,rfl,L6 hp rfl ⟨x,y,rfl,bx,rk,fun p1 H1 g s' t' g1 h1 g0 eg ⟨k1,e1⟩ ⟨k2,e2⟩ _ _=>?_⟩⟩⟩
 have bg:=EA bx rk eg e1 e2
 refine⟨p1,_,_,_,rfl,rfl,aO.of h1,rfl,_,rfl,L6 (hp.up g1) rfl ⟨g,z,rfl,bg,bz,fun p2 H2 d s2 t2 g2 h2 d0 ed ⟨k3,e3⟩ ⟨k4,e4⟩ _ _=>?_⟩⟩
 refine⟨p2,_,_,_,rfl,rfl,aO.of h2,rfl,?_⟩
 have bd:=EA bg bz ed e3 e4
 have dn:d≠0:=by
  intro zz
  subst zz
  rw[aaF] at e3 e4
  subst e3
  rw[aaF] at e1 e2
  unfold NZ at P6
  omega
 have dx:d∣x:=⟨k1*k3,by rw[e1,e3];grind⟩
 have dy:d∣y:=⟨k2*k3,by rw[e2,e3];grind⟩
 have dz:d∣z:=⟨k4,by rw[ZX];exact e4⟩
 have U1:s2*s'*x+s2*t'*y+t2*z=d:=by rw[ed,eg];grind
 have Fe:=g1.trans g2
 have U2:=hp.up Fe
 refine⟨fun σ' H'=>∃ e:Int,σ'=[some (.ref p),some (.int e)]/\aw H H'/\((e=d/\0<o9 x y z)\/(e=-d/\o9 x y z<0)),?_,?_⟩
 ·refine⟨_,rfl,p,b,_,rfl,U2,vY (xs:=[.int x,.int y,.int z]) (HP 3) nz id (fun H' g=>U2.up g) ?_ ?_ ?_⟩
  ·intro i v H' Q' hv g k
   obtain⟨n,rfl,_⟩:=get3 hv
   exact⟨_,rfl,rfl,_,rfl,k _ (aw.refl _)⟩
  ·intro i v H' Q' hv e g k
   exact⟨_,rfl,k _ (aw.refl _)⟩
  ·intro l H' g h0 hl
   have fz:=K5 P6
   refine⟨l,_,_,_,rfl,rfl,aR.of hl,Ez P6,_,_,rfl,rfl,_,rfl,bJ (fun c=>?_) (fun c=>?_)⟩
   ·have c':=bX c
    exact⟨_,rfl,_,rfl,-d,rfl,Fe.trans g,.inr ⟨rfl,c'⟩⟩
   ·have c':=du c
    exact⟨d,rfl,Fe.trans g,.inl ⟨rfl,by omega⟩⟩
 ·rintro _ H3 ⟨e,rfl,g3,he⟩
  have Lq:=hp.up g3
  have en:e≠0:=by omega
  have be:e.natAbs<=Lm:=by omega
  have ex:e∣x:=by
   rcases he with ⟨z,_⟩|⟨z,_⟩<;>rw[z]
   ·exact dx
   ·exact adz.mpr dx
  have ey:e∣y:=by
   rcases he with ⟨z,_⟩|⟨z,_⟩<;>rw[z]
   ·exact dy
   ·exact adz.mpr dy
  have ez:e∣z:=by
   rcases he with ⟨z,_⟩|⟨z,_⟩<;>rw[z]
   ·exact dz
   ·exact adz.mpr dz
  have eb:∃ u v w:Int,u*x+v*y+w*z=e:=by
   rcases he with ⟨zz,_⟩|⟨zz,_⟩
   ·exact⟨_,_,_,U1.trans zz.symm⟩
   ·exact⟨-(s2*s'),-(s2*t'),-t2,by rw[zz,<- U1];grind⟩
  obtain⟨o,qx,qy,qz⟩:=Ku en ex ey ez eb
  refine⟨_,rfl,L6 Lq rfl ⟨_,rfl,_,_,rfl,rfl,⟨en,nF (by omega)⟩,_,rfl,L6 Lq rfl ⟨_,rfl,_,_,rfl,rfl,⟨en,nF (by omega)⟩,
   _,rfl,L6 Lq rfl ⟨_,rfl,_,_,rfl,rfl,⟨en,nF (by omega)⟩,(d6 3),fun r nr=>?_⟩⟩⟩⟩
  refine q r _ _ _ _ e (g3.trans (au nr _)) ah o (K4 en qx qy qz P6 ?_) en qx qy qz
  rcases he with ⟨zz,w⟩|⟨zz,w⟩
  ·exact .inl ⟨by omega,w⟩
  ·exact .inr ⟨by omega,w⟩
theorem OO (F:Fn K mg "_law_of" KN)(T:Txt K mg t) :aV P w K mg base aU 1 "_law_of" ["_law_script","_law_k"] (K7 K):=by
 refine F.ok ON (fun f aZ A outer s H vs Q E hr h=>?_)
 obtain⟨a,ns,k,rfl,hS,h0,h1,q⟩:=h
 refine⟨_,ai (aY (aB jJ (pv 1) (aJ lT rfl T.IB PySem.boot_len (ae (pv 0) ag)) (aA _)) (aq (aE (aW (gi K) (pv 0) (pv 1)))) aK)
  (aq (aE (av cW (av az af (pv 1)) af))),?_⟩
 refine⟨_,rfl,_,rfl,a,_,rfl,.inl hS,_,_,rfl,rfl,_,rfl,?_⟩
 refine bJ (fun c=>?_) (fun c=>?_)
 ·exact⟨_,rfl,_,rfl,a,_,_,_,rfl,rfl,hS,cell_in h0 (bX c),q _⟩
 ·exact⟨_,rfl,_,_,rfl,rfl,cK (by omega) (by omega),_,_,rfl,rfl,q _⟩
theorem Ff (F:Fn K mg "_law_drawn" um)(T:Txt K mg t) :aV P w K mg base aU 1 "_law_drawn" ["_law_cell","_law_prime","_law_many"] (mr):=by
 refine F.ok xh (fun f aZ A outer s H vs Q E hr h=>?_)
 obtain⟨c,p,m,rfl,p0,p1,m0,q⟩:=h
 refine⟨_,ai (bH (i:=3) xh.nd (av cW (av aQ (pv 0) (pv 1)) af))
  (aq (aE (av aQ (av aQ (av cW (av az (av az (pv 3) (pv 3)) (pv 3)) (av az af (pv 3))) af) (pv 2)))),?_⟩
 refine⟨_,rfl,_,rfl,_,_,rfl,rfl,p0,_,_,rfl,rfl,?_⟩
 have h1:=Z6 c (show p≠0 by omega)
 have h2:=Z9 c p0
 refine⟨_,rfl,_,rfl,_,_,rfl,rfl,cK (by omega) (by omega),_,rfl,_,_,rfl,rfl,cK (by omega) (by omega),_,rfl,_,_,rfl,rfl,cK (by omega) (by omega),_,_,rfl,rfl,_,_,rfl,rfl,(by show (0:Int)<999983;decide),_,rfl,_,_,rfl,rfl,m0,?_⟩
 exact q _ (Z6 _ (by omega)) (Z9 _ m0)
theorem B3 (F:Fn K mg "_law_shared" qJ)(T:Txt K mg t) :qh P w K mg base 1 "_law_shared" ["_law_numbers"] (qN):=by
 refine F.LJ i9 (fun f aZ A outer s H fz vs Q E hr h=>?_)
 obtain⟨p,b,ns,rfl,hp,q⟩:=h
 refine⟨_,ai (bH (i:=1) i9.nd af)
  (ai (gh aah rfl (Dh (pv 0)) (sM (i:=2) i9.nd) (ai (bH (i:=3) i9.nd (aJ bQ rfl T.fW fX (ae (pv 2) ag)))
  (aq (dE aah (aB iS (pv 3) af (aA _)) (aq (Jn (i:=1) (j:=3) rfl i9.nd rfl rfl (by decide) rfl rfl (ae (pv 3) (ae (av aQ (pv 1) (pv 3)) ag)) rfl))))))
  (aq (aE (pv 1)))),?_⟩
 refine⟨_,rfl,p,b,ns.map V.int,rfl,Sq.of hp,Gp (xs:=ns.map V.int) (fun i σ H'=>∃ (g:Int) (nh ot:Option V),σ=[some (.ref p),some (.int g),nh,ot]/\H=H'/\0<=g/\Gen ns g/\∀ n∈ns.take i,g∣n) ⟨0,none,none,rfl,rfl,by decide,.zero,fun n hn=>by cases hn⟩ ?_ ?_ ?_⟩
 ·rintro i σ H' hi ⟨g,nh,ot,rfl,rfl,_⟩
  exact Sq.of hp
 ·rintro i v σ H' hv ⟨g,nh,ot,rfl,rfl,g0,gc,hd⟩
  obtain⟨n,rfl,hn,nm⟩:=SN hv
  refine⟨_,rfl,n,rfl,?_⟩
  refine⟨fun m σ H'=>∃ (f o:Int),σ=[some (.ref p),some (.int f),some (.int n),some (.int o)]/\H=H'/\0<=f/\0<=o/\Gen ns f/\Gen ns o/\(∀ d:Int,d∣f->d∣o->d∣g/\d∣n)/\m=o.toNat,⟨_,g,_,rfl,rfl,g0,?_,gc,?_,fun d d1 d2=>⟨d1,?_⟩,rfl⟩,?_⟩
  ·show 0<=(if n<0 then -n else n)
   split<;>omega
  ·show Gen ns (if n<0 then -n else n)
   split
   ·exact (Gen.mem nm).neg
   ·exact .mem nm
  ·have Tb:d∣(if n<0 then -n else n):=d2
   split at Tb
   ·exact aa8.mp Tb
   ·exact Tb
  rintro m σ H1 ⟨f,o',rfl,rfl,f0,o0,fc,oc,hd2,rfl⟩
  refine⟨_,rfl,rfl,_,rfl,bJ (fun c=>?_) (fun c=>?_)⟩
  ·have on:o'≠0:=fun zz=>neT c (aai V.int zz)
   have op:0<o':=by omega
   have r0:=Z6 f on
   have r1:=Z9 f op
   refine⟨fun σ' H2=>σ'=[some (.ref p),some (.int o'),some (.int n),some (.int (f%o'))]/\H=H2,?_,?_⟩
   ·rintro σ' H2 ⟨rfl,rfl⟩
    exact⟨(f%o').toNat,by omega,o',f%o',rfl,rfl,o0,r0,oc,fc.rest oc,fun d d1 d2=>(fun z=>hd2 d z.1 z.2) (Ey d1 d2),rfl⟩
   ·exact⟨_,rfl,_,rfl,_,rfl,_,_,rfl,rfl,op,_,_,rfl,rfl,rfl⟩
  ·have on:o'=0:=aL (Oy c)
   subst on
   obtain⟨w1,w2⟩:=hd2 f (ach f) (aef f)
   refine⟨f,_,_,rfl,rfl,f0,fc,fun w hw=>?_⟩
   rw[ab7,hn] at hw
   rcases abo.mp hw with z|z
   ·exact aaf w1 (hd w z)
   ·have:w=n:=by simpa using z
    rw[this]
    exact w2
 ·rintro σ H' ⟨g,nh,ot,rfl,rfl,g0,gc,hd⟩
  rw[ZR,abj] at hd
  exact⟨_,rfl,q g g0 hd gc⟩
theorem B5 (F:Fn K mg "_law_wholes" qI)(T:Txt K mg t)(vd:qh P w K mg base 1 "_law_whole" ["_law_found"] (tT)):qh P w K mg base 2 "_law_wholes" ["_law_found","_law_many"] (uH):=by
 refine F.LJ BZ (fun f aZ A outer s H fz vs Q E hr h=>?_)
 obtain⟨p,x,y,z,rfl,hp,q⟩:=h
 unfold P1 at hp
 refine⟨_,ai (aY (PW.pt (zj (kT (fA (aJ lV rfl T.cD oO (ae (pv 0) (ae (lR (v:=.ty "tuple") rfl T.Au Aw rfl) ag))) (fun _=>rfl))) (tJ (aB iS (aJ lT rfl T.IB PySem.boot_len (ae (pv 0) ag)) (pv 1) (aA _))))) (aq (aE gH)) aK)
  (aq (aE (aJ (lX rfl) rfl T.Av Ax (ae (eH rfl (aM.gen (cl:=[]) [] [] [(".0",.local),("_law_one",.local),("_law_whole",.globalImplicit)] rfl) (HN K (pv 0)) (fun C s0 H0 fp pins=>kv vd hr (ae (pv 0) ag))) ag)))),?_⟩
 refine⟨_,rfl,_,_,_,_,rfl,.inr ⟨_,rfl⟩,.of (.tup hp),rfl,_,rfl,ik ?_⟩
 refine⟨_,rfl,p,_,rfl,.inr (aO.of hp),_,rfl,rfl,_,rfl,zG rfl ?_⟩
 refine⟨_,rfl,p,rfl,⟨_,aO.of hp⟩,mY (xs:=[.int x,.int y,.int z]) (aO.of hp) (HP 3) (fun _=>.bl true) (fun H' g=>aO.of (g _ _ hp)) ?_ ?_⟩
 ·intro i v H' Q' hv g k
  obtain⟨n,rfl,_⟩:=get3 hv
  exact⟨_,rfl,n,rfl,k _ (aw.refl _)⟩
 ·intro l H' g h0 hl
  exact⟨l,[true,true,true],rfl,hl,q _ g⟩
theorem vf (F:Fn K mg "_law_is_lowest" jW)(T:Txt K mg t)(rm:qh P w K mg base 2 "_law_wholes" ["_law_found","_law_many"] (uH))(rn:qh P w K mg base 1 "_law_shared" ["_law_numbers"] (qN)):qh P w K mg base 3 "_law_is_lowest" ["_law_point"] (uG):=by
 refine F.LJ uX (fun f aZ A outer s H fz vs Q E hr h=>?_)
 obtain⟨p,x,y,z,rfl,hp,o,ps,q⟩:=h
 refine⟨_,ai (aY (PW.pt (zj (kT (fA (kv rm hr (ae (pv 0) (ae af ag))) (fun _=>rfl))) (tJ (aB iS (kv rn hr (ae (pv 0) ag)) af (aA _))))) (aq (aE gH)) aK)
  (aq (aE (bM iq (aW (gi K) (fC rfl (aM.gen (cl:=[]) [] [] [(".0",.local),("_law_number",.local)] rfl) (HN K (pv 0)) (fun C s0 H0 fp pins=>aB iS (pv 0) af (aA _)) (fun C s0 H0 fp pins=>pv 0)) af) af (aA _)))),?_⟩
 refine⟨_,rfl,p,x,y,z,rfl,hp,fun H1 g1=>⟨_,rfl,ik ?_⟩⟩
 have Hm:=g1 _ _ hp
 refine⟨_,rfl,p,false,[x,y,z],rfl,Hm,fun g9 Xd Tc _=>?_⟩
 obtain rfl:=K8 o Xd (Tc x (by simp)) (Tc y (by simp)) (Tc z (by simp))
 refine⟨rfl,_,rfl,zG rfl ?_⟩
 refine⟨_,rfl,p,rfl,⟨_,aO.of Hm⟩,oC (xs:=[.int x,.int y,.int z]) (HP 3) nz id (fun H' g=>aO.of (g _ _ Hm)) ?_ ?_ ?_⟩
 ·intro i v H' Q' hv g k
  obtain⟨n,rfl,_⟩:=get3 hv
  exact⟨_,rfl,rfl,_,rfl,k _ (aw.refl _)⟩
 ·intro i v H' Q' hv e g k
  exact⟨_,rfl,k _ (aw.refl _)⟩
 ·intro l H' g h0 hl
  refine⟨l,_,_,_,rfl,rfl,aR.of hl,Ez (K2 ps),_,_,rfl,rfl,?_⟩
  have d:Q (.bl (decide (0<o9 x y z))) H':=by
   rw[aay (G4 ps)]
   exact q _ (g1.trans g)
  exact d
theorem rq (F:Fn K mg "sign_of_two" iH)(T:Txt K mg t) :aV P w K mg base aU 1 "sign_of_two" ["odd"] (uy):=by
 refine F.ok q8 (fun f aZ A outer s H vs Q E hr h=>?_)
 obtain⟨x,rfl,q⟩:=h
 refine⟨_,aq (aE (jH (aB sD (av aQ (pv 0) af) (aS (ae af (ae af ag))) (by with_unfolding_all rfl)) (fR dF af) af)),?_⟩
 refine⟨_,rfl,_,_,rfl,rfl,(by show (0:Int)<8;decide),(d6 2),fun p hp=>?_⟩
 have g:=au hp (.tup [.int 3,.int 5])
 refine⟨_,_,rfl,.inr (aO.of ah),rfl,rfl,HG (.int (x%8)) [.int 3,.int 5],rfl,?_⟩
 rw[SO]
 refine bJ (fun c=>?_) (fun c=>?_)
 ·have e:Jc.hG x=-1:=by unfold Jc.hG;rw[aag (bX c)]
  have q':=q _ g
  rw[e] at q'
  exact⟨_,rfl,q'⟩
 ·have e:Jc.hG x=1:=by unfold Jc.hG;rw[Z4 (du c)]
  have q':=q _ g
  rw[e] at q'
  exact q'
theorem pj (F:Fn K mg "sign_of_turn" hJ)(T:Txt K mg t) :aV P w K mg base aU 1 "sign_of_turn" ["one","other"] (pO):=by
 refine F.ok pf (fun f aZ A outer s H vs Q E hr h=>?_)
 obtain⟨a,b,rfl,q⟩:=h
 refine⟨_,aq (aE (jH (PW.pt (kR (aB bE (av aQ (pv 0) af) af (aA _)) (jg (aB bE (av aQ (pv 1) af) af (aA _))))) (fR dF af) af)),?_⟩
 unfold Jc.iB at q
 refine⟨_,rfl,_,_,rfl,rfl,(by show (0:Int)<4;decide),rfl,_,rfl,?_⟩
 refine bJ (fun c=>?_) (fun c=>?_)
 ·have c1:a%4=3:=aL (bX c)
  refine⟨_,rfl,_,_,rfl,rfl,(by show (0:Int)<4;decide),rfl,_,rfl,?_⟩
  refine bJ (fun c=>?_) (fun c=>?_)
  ·have c2:b%4=3:=aL (bX c)
   rw[aag ⟨c1,c2⟩] at q
   exact⟨_,rfl,q⟩
  ·rw[Z4 fun z=>du c (aai V.int z.2)] at q
   exact q
 ·rw[Z4 fun z=>du c (aai V.int z.1)] at q
  exact ik q
theorem y9 (F:Fn K mg "sign_by" nt)(T:Txt K mg t)(bu:aV P w K mg base aU 1 "taken_out" ["number","prime"] (kE))(cJ:aV P w K mg base aU 1 "sign_of_two" ["odd"] (uy))(cQ:aV P w K mg base aU 1 "sign_of_turn" ["one","other"] (pO)):aV P w K mg base aU 2 "sign_by" ["number","n"] (uz):=by
 refine F.ok cI (fun f aZ A outer s H vs Q E hr h=>?_)
 obtain⟨x,n,rfl,n0,no,nb,q⟩:=h
 refine⟨_,ai (aY (PW.pt (zj (aB jJ (pv 1) af (aA _)) (tJ (aB bE (av aQ (pv 1) af) af (aA _))))) iR aK)
  (ai (bH (i:=2) cI.nd af)
  (ai (bH (i:=3) cI.nd (av aQ (pv 0) (pv 1)))
  (ai (bH (i:=4) cI.nd (pv 1))
  (ai (dE aah (aB iS (pv 3) af (aA _)) (ai (bH (i:=5) cI.nd (aj bu hr aD (ae (pv 3) (ae af ag))))
  (ai (bH (i:=6) cI.nd (aW (cw K) (pv 5) af))
  (cu (aY (aB bE (av aQ (aW (cw K) (pv 5) af) af) af (aA _)) (aq (bH (i:=2) cI.nd (av az (pv 2) (aj cJ hr aD (ae (pv 4) ag))))) aK)
  (ai (bH (i:=2) cI.nd (av az (pv 2) (aj cQ hr aD (ae (pv 6) (ae (pv 4) ag)))))
  (ai (bH (i:=3) cI.nd (av aQ (pv 4) (pv 6)))
  (aq (bH (i:=4) cI.nd (pv 6)))))))))
  (aq (aE (jH (aB bE (pv 4) af (aA _)) (pv 2) af))))))),?_⟩
 refine⟨_,rfl,_,_,rfl,rfl,_,rfl,oP (show ¬ n<1 by omega) ⟨_,rfl,_,_,rfl,rfl,(by show (0:Int)<2;decide),rfl,_,rfl,oP (fun z=>by have:=aL z;omega) ?_⟩⟩
 refine⟨_,rfl,_,rfl,_,_,rfl,rfl,n0,?_⟩
 refine⟨_,rfl,?_⟩
 have t0:=Z6 x (show n≠0 by omega)
 have t1:=Z9 x n0
 refine⟨WS x n H,⟨_,1,x%n,n,none,none,rfl,aw.refl H,t0,n0,no,nb,by omega,.inl rfl,by rw[aaI];exact Jc.Ig (ad6 x n),rfl⟩,?_⟩
 rintro m σ H1 ⟨sg,top,bot,tw,od,rfl,g1,tp,bp,bo,bb,tb,Xe,e,rfl⟩
 refine⟨_,rfl,rfl,_,rfl,?_⟩
 refine bJ (fun c=>?_) (fun c=>?_)
 ·have tn:top≠0:=fun z=>neT c (aai V.int z)
  refine⟨fun σ' H2=>∃ m',m'<top.toNat/\WS x n H m' σ' H2,fun _ _ h=>h,?_⟩
  refine⟨_,rfl,top,2,rfl,tn,by decide,by decide,fun r H2 o l g2 ym Fc o0 zl l0 lx sp sn=>?_⟩
  have lp:=sp (by omega)
  have lo:l%2=1:=by
   have z:l.fmod 2=l%2:=acL l (by decide)
   rw[z] at zl
   omega
  refine⟨_,rfl,r,_,_,_,rfl,rfl,aO.of ym,rfl,?_⟩
  refine⟨fun σ' H3=>σ'=[some (.int x),some (.int n),some (.int (sg*(if o%2=1 then Jc.hG bot else 1))),some (.int top),some (.int bot),some (.ref r),some (.int l)]/\aw H2 H3,?_,?_⟩
  ·refine⟨_,rfl,r,_,_,_,rfl,rfl,aO.of ym,rfl,_,_,rfl,rfl,(by show (0:Int)<2;decide),rfl,_,rfl,?_⟩
   refine bJ (fun c=>?_) (fun c=>?_)
   ·rw[aag (aL (bX c))]
    refine⟨_,rfl,_,rfl,bot,rfl,fun H3 g3=>⟨_,_,rfl,rfl,cK ?_ ?_,rfl,g3⟩⟩
    all_goals rcases pN bot with h|h<;>rw[h]<;>decide
   ·rw[Z4 fun z=>du c (aai V.int z),aaM]
    exact⟨rfl,aw.refl _⟩
  rintro _ H3 ⟨rfl,g3⟩
  refine⟨_,rfl,_,rfl,_,rfl,l,bot,rfl,_,_,rfl,rfl,cK ?_ ?_,?_⟩
  ·rcases qO l bot with h|h<;>rw[h]<;>decide
  ·rcases qO l bot with h|h<;>rw[h]<;>decide
  refine⟨_,rfl,_,rfl,_,_,rfl,rfl,lp,?_⟩
  have r0:=Z6 bot (show l≠0 by omega)
  have r1:=Z9 bot lp
  refine⟨_,rfl,(bot%l).toNat,by omega,_,bot%l,l,_,_,rfl,(g1.trans g2).trans g3,r0,lp,lo,by omega,by omega,?_,?_,rfl⟩
  ·rcases Xe with h|h<;>rcases qO l bot with h2|h2<;>rw[h,h2]<;>split<;>first|(rcases pN bot with h3|h3<;>rw[h3]<;>decide)|decide
  ·rw[<- e]
   have st:=Jc.Kq bp bo lp lo o0
   rw[<- Fc.eq] at st
   rw[st,Z3 sg,Z3 sg]
 ·have tz:top=0:=aL (Oy c)
  subst tz
  refine⟨_,rfl,rfl,_,rfl,?_⟩
  refine bJ (fun c=>?_) (fun c=>?_)
  ·have b1:bot=1:=aL (bX c)
   subst b1
   rw[Jc.NQ,aaM] at e
   subst e
   exact⟨_,rfl,q _ g1⟩
  ·have b1:bot≠1:=fun z=>du c (aai V.int z)
   rw[Jc.Kn bp b1,aaF] at e
   have q':=q _ g1
   rw[<- e] at q'
   exact q'
theorem rA (F:Fn K mg "sign_at_two" iJ)(T:Txt K mg t)(cJ:aV P w K mg base aU 1 "sign_of_two" ["odd"] (uy))(cQ:aV P w K mg base aU 1 "sign_of_turn" ["one","other"] (pO)):aV P w K mg base aU 2 "sign_at_two" ["one","other"] (uB):=by
 refine F.ok fj (fun f aZ A outer s H vs Q E hr h=>?_)
 obtain⟨r1,r2,o1,l1,o2,l2,rfl,h1,h2,q⟩:=h
 refine⟨_,ai (bH (i:=2) fj.nd (aj cQ hr aD (ae (aW (cw K) (pv 0) af) (ae (aW (cw K) (pv 1) af) ag))))
  (cu (aY (aB bE (av aQ (aW (cw K) (pv 0) af) af) af (aA _)) (aq (bH (i:=2) fj.nd (av az (pv 2) (aj cJ hr aD (ae (aW (cw K) (pv 1) af) ag))))) aK)
  (cu (aY (aB bE (av aQ (aW (cw K) (pv 1) af) af) af (aA _)) (aq (bH (i:=2) fj.nd (av az (pv 2) (aj cJ hr aD (ae (aW (cw K) (pv 0) af) ag))))) aK)
  (aq (aE (pv 2))))),?_⟩
 unfold Jc.Bz at q
 refine⟨_,rfl,r1,_,_,_,rfl,rfl,aO.of h1,rfl,_,rfl,r2,_,_,_,rfl,rfl,aO.of h2,rfl,l1,l2,rfl,?_⟩
 refine⟨fun σ' H'=>σ'=[some (.ref r1),some (.ref r2),some (.int (Jc.iB l1 l2*(if o1%2=1 then Jc.hG l2 else 1)))]/\aw H H',?_,?_⟩
 ·refine⟨_,rfl,r1,_,_,_,rfl,rfl,aO.of h1,rfl,_,_,rfl,rfl,(by show (0:Int)<2;decide),rfl,_,rfl,?_⟩
  refine bJ (fun c=>?_) (fun c=>?_)
  ·rw[aag (aL (bX c))]
   refine⟨_,rfl,_,rfl,r2,_,_,_,rfl,rfl,aO.of h2,rfl,l2,rfl,fun H1 g1=>⟨_,_,rfl,rfl,cK ?_ ?_,rfl,g1⟩⟩
   all_goals rcases pN l2 with h|h<;>rw[h]<;>decide
  ·rw[Z4 fun z=>du c (aai V.int z),aaM]
   exact⟨rfl,aw.refl H⟩
 rintro _ H1 ⟨rfl,g1⟩
 refine⟨fun σ' H'=>σ'=[some (.ref r1),some (.ref r2),some (.int (Jc.iB l1 l2*(if o1%2=1 then Jc.hG l2 else 1)*(if o2%2=1 then Jc.hG l1 else 1)))]/\aw H H',?_,?_⟩
 ·refine⟨_,rfl,r2,_,_,_,rfl,rfl,aO.of (g1 _ _ h2),rfl,_,_,rfl,rfl,(by show (0:Int)<2;decide),rfl,_,rfl,?_⟩
  refine bJ (fun c=>?_) (fun c=>?_)
  ·rw[aag (aL (bX c))]
   refine⟨_,rfl,_,rfl,r1,_,_,_,rfl,rfl,aO.of (g1 _ _ h1),rfl,l1,rfl,fun H2 g2=>⟨_,_,rfl,rfl,cK ?_ ?_,rfl,g1.trans g2⟩⟩
   all_goals rcases pN l1 with h|h<;>rw[h]<;>decide
  ·rw[Z4 fun z=>du c (aai V.int z),aaM]
   exact⟨rfl,g1⟩
 rintro _ H2 ⟨rfl,g2⟩
 exact⟨_,rfl,q _ g2⟩
theorem rB (F:Fn K mg "sign_at_odd" iI)(T:Txt K mg t)(eU:aV P w K mg base aU 2 "sign_by" ["number","n"] (uz)):aV P w K mg base aU 3 "sign_at_odd" ["one","other","prime"] (uC):=by
 refine F.ok ib (fun f aZ A outer s H vs Q E hr h=>?_)
 obtain⟨r1,r2,o1,l1,o2,l2,p,rfl,h1,h2,p0,po,pb,lb,q⟩:=h
 refine⟨_,ai (bH (i:=3) ib.nd (bM bE (av aQ (aW (cw K) (pv 0) af) af) af (aA _)))
  (ai (bH (i:=4) ib.nd (bM bE (av aQ (aW (cw K) (pv 1) af) af) af (aA _)))
  (ai (aY (PW.pt (kR (fA (pv 3) (fun _=>rfl)) (jg (fA (pv 4) (fun _=>rfl))))) (aq (aE (aj eU hr aD (ae (av az (fR dF (aW (cw K) (pv 0) af)) (aW (cw K) (pv 1) af)) (ae (pv 2) ag))))) aK)
  (ai (aY (fA (pv 3) (fun _=>rfl)) (aq (aE (aj eU hr aD (ae (aW (cw K) (pv 1) af) (ae (pv 2) ag))))) aK)
  (ai (aY (fA (pv 4) (fun _=>rfl)) (aq (aE (aj eU hr aD (ae (aW (cw K) (pv 0) af) (ae (pv 2) ag))))) aK)
  (aq (aE af)))))),?_⟩
 unfold Jc.By at q
 refine⟨_,rfl,r1,_,_,_,rfl,rfl,aO.of h1,rfl,_,_,rfl,rfl,(by show (0:Int)<2;decide),rfl,?_⟩
 refine⟨_,rfl,r2,_,_,_,rfl,rfl,aO.of h2,rfl,_,_,rfl,rfl,(by show (0:Int)<2;decide),rfl,?_⟩
 by_cases c1:o1%2=1
 ·have e1:decide (V.int (o1%2)=V.int 1)=true:=aay (aai V.int c1)
  by_cases c2:o2%2=1
  ·have e2:decide (V.int (o2%2)=V.int 1)=true:=aay (aai V.int c2)
   rw[aag c1,aag c2] at q
   rw[e1,e2]
   refine⟨_,rfl,_,rfl,jK ⟨_,rfl,_,rfl,jK ?_⟩⟩
   exact⟨_,rfl,r1,_,_,_,rfl,rfl,aO.of h1,rfl,_,rfl,_,rfl,r2,_,_,_,rfl,rfl,aO.of h2,rfl,_,_,rfl,rfl,Az (OD lb.1) lb.2,_,rfl,-l1*l2,p,rfl,p0,po,pb,fun H' g=>q _ g⟩
  ·have e2:decide (V.int (o2%2)=V.int 1)=false:=aao fun z=>c2 (aL z)
   rw[aag c1,Z4 c2] at q
   rw[e1,e2]
   refine⟨_,rfl,_,rfl,jK ⟨_,rfl,_,rfl,ik ?_⟩⟩
   refine⟨_,rfl,_,rfl,jK ?_⟩
   exact⟨_,rfl,r2,_,_,_,rfl,rfl,aO.of h2,rfl,_,rfl,l2,p,rfl,p0,po,pb,fun H' g=>q _ g⟩
 ·have e1:decide (V.int (o1%2)=V.int 1)=false:=aao fun z=>c1 (aL z)
  by_cases c2:o2%2=1
  ·have e2:decide (V.int (o2%2)=V.int 1)=true:=aay (aai V.int c2)
   rw[Z4 c1,aag c2] at q
   rw[e1,e2]
   refine⟨_,rfl,_,rfl,ik (ik ?_)⟩
   refine⟨_,rfl,_,rfl,ik ?_⟩
   refine⟨_,rfl,_,rfl,jK ?_⟩
   exact⟨_,rfl,r1,_,_,_,rfl,rfl,aO.of h1,rfl,_,rfl,l1,p,rfl,p0,po,pb,fun H' g=>q _ g⟩
  ·have e2:decide (V.int (o2%2)=V.int 1)=false:=aao fun z=>c2 (aL z)
   rw[Z4 c1,Z4 c2] at q
   rw[e1,e2]
   refine⟨_,rfl,_,rfl,ik (ik ?_)⟩
   refine⟨_,rfl,_,rfl,ik ?_⟩
   refine⟨_,rfl,_,rfl,ik ?_⟩
   exact q _ (aw.refl H)
theorem zb (F:Fn K mg "sign_at" nv)(T:Txt K mg t)(bu:aV P w K mg base aU 1 "taken_out" ["number","prime"] (kE))(iO:aV P w K mg base aU 2 "sign_at_two" ["one","other"] (uB))(iP:aV P w K mg base aU 3 "sign_at_odd" ["one","other","prime"] (uC)):aV P w K mg base aU 4 "sign_at" ["a","b","place"] (K6):=by
 refine F.ok lL (fun f aZ A outer s H vs Q E hr h=>?_)
 obtain⟨a,b,p,v,rfl,a0,b0,bb,hv,q⟩:=h
 refine⟨_,ai (aY (aB bE (pv 2) af (aA _)) (aq (aE (jH (PW.pt (kR (aB jJ (pv 0) af (aA _)) (jg (aB jJ (pv 1) af (aA _))))) (fR dF af) af))) aK)
  (ai (bH (i:=3) lL.nd (aj bu hr aD (ae (pv 0) (ae (pv 2) ag))))
  (ai (bH (i:=4) lL.nd (aj bu hr aD (ae (pv 1) (ae (pv 2) ag))))
  (ai (aY (aB bE (pv 2) af (aA _)) (aq (aE (aj iO hr aD (ae (pv 3) (ae (pv 4) ag))))) aK)
  (aq (aE (aj iP hr aD (ae (pv 3) (ae (pv 4) (ae (pv 2) ag))))))))),?_⟩
 rcases hv with ⟨rfl,hv⟩|⟨hp,pb,o1,l1,o2,l2,d1,d2,hv⟩
 ·refine⟨_,rfl,rfl,_,rfl,jK ?_⟩
  refine⟨_,rfl,_,_,rfl,rfl,_,rfl,?_⟩
  subst hv
  have q:=q H (aw.refl H)
  refine bJ (fun c=>?_) (fun c=>?_)
  ·have c1:a<0:=bX c
   refine⟨_,rfl,_,_,rfl,rfl,_,rfl,?_⟩
   refine bJ (fun c=>?_) (fun c=>?_)
   ·rw[aag ⟨c1,bX c⟩] at q
    exact⟨_,rfl,q⟩
   ·rw[Z4 fun z=>du c z.2] at q
    exact q
  ·rw[Z4 fun z=>du c z.1] at q
   exact ik q
 ·have p2:=hp.two
  refine⟨_,rfl,rfl,_,rfl,oP (fun z=>by have:=aL z;omega) ?_⟩
  have OP:p.natAbs.log2<9000:=ZM (log2_lt_of (k:=64) (by omega) (by decide)) (by decide)
  refine⟨_,rfl,_,rfl,a,p,rfl,a0,p2,OP,fun r1 H1 o l g1 h1 Fc o0 zl l0 lx sp sn=>?_⟩
  obtain⟨rfl,rfl⟩:=(Jc.Dec.DO Fc o0 zl).unique (by omega) d1
  refine⟨_,rfl,_,rfl,b,p,rfl,b0,p2,OP,fun r2 H2 o l g2 h2 Td Xf Xg Zp Xh Zq Zr=>?_⟩
  obtain⟨rfl,rfl⟩:=(Jc.Dec.DO Td Xf Xg).unique (by omega) d2
  subst hv
  unfold Jc.hs at q
  refine⟨_,rfl,rfl,_,rfl,?_⟩
  refine bJ (fun c=>?_) (fun c=>?_)
  ·have e2:p=2:=aL (bX c)
   rw[aag e2] at q
   exact⟨_,rfl,_,rfl,r1,r2,_,_,_,_,rfl,g2 _ _ h1,h2,fun H3 g3=>q _ ((g1.trans g2).trans g3)⟩
  ·have e2:p≠2:=fun z=>du c (aai V.int z)
   rw[Z4 e2] at q
   exact⟨_,rfl,_,rfl,_,rfl,r1,r2,_,_,_,_,p,rfl,g2 _ _ h1,h2,by omega,jq hp e2,by omega,⟨ZV lx bb.1,ZV Xh bb.2⟩,fun H3 g3=>q _ ((g1.trans g2).trans g3)⟩
theorem jC (F:Fn K mg "places_in_question" dI)(T:Txt K mg t)(bN:aV P w K mg base aU 2 "prime_parts" ["number"] (jZ)):aV P w K mg base aU 3 "places_in_question" ["a","b","c"] (uE):=by
 refine F.ok dw (fun f aZ A outer s H vs Q E hr h=>?_)
 obtain⟨a,b,c,rfl,P,a6,b6,c6,q⟩:=h
 refine⟨_,ai (bH (i:=3) dw.nd (bG ag))
  (ai (gh aah rfl (HN K (aS (ae (pv 0) (ae (pv 1) (ae (pv 2) ag))))) (sM (i:=4) dw.nd) (aq (km (vD abF PySem.F.slot_list_extend PySem.F.type_list_extend sE (pv 3) (ae (rV rfl (cG.gen (cl:=[]) [] [] [(".0",.local),("prime",.local),("often",.local)] rfl) (Bh K (aj bN hr aD (ae (aJ bQ rfl T.fW fX (ae (pv 4) ag)) ag))) (fun C s0 H0 fp pins=>aB iq (pv 0) af (aA _)) (fun C s0 H0 fp pins=>pv 0)) ag)))))
  (aq (aE (av p8 (bG (ae af (ae af ag))) (aJ (md rfl) rfl T.qM wR (ae (dW (sY rfl) rfl T.IE II (ae (pv 3) ag)) ag)))))),?_⟩
 refine⟨(d6 0),fun od U3=>?_⟩
 refine⟨_,rfl,_,rfl,_,rfl,(d6 3),fun p0 n0=>?_⟩
 have g0:=au U3 (.lst [])
 have g1:=au n0 (.tup [.int a,.int b,.int c])
 refine⟨p0,rfl,⟨_,aO.of ah⟩,tM (xs:=[.int a,.int b,.int c]) (fun i σ H'=>∃ (nu:Option V) (os:List Int),σ=[some (.int a),some (.int b),some (.int c),some (.ref od),nu]/\aw H H'/\H' p0=some (.tup [.int a,.int b,.int c])/\H' od=some (.lst (os.map V.int))/\os.Nodup/\os.length<=20*i/\(∀ p,p∈os↔Pr.bU p/\p≠2/\∃ (j:Nat) (n:Int),j<i/\[a,b,c][j]?=some n/\p∣n)) ⟨none,[],rfl,g0.trans g1,ah,g1 _ _ ah,.nil,by decide,fun p=>⟨(fun z=>by cases z),(fun ⟨_,_,j,n,h,_⟩=>by omega)⟩⟩ ?_ ?_ ?_⟩
 ·rintro i σ H' hi ⟨nu,os,rfl,g,h0,_⟩
  exact aO.of h0
 ·rintro i x σ H' hx ⟨nu,os,rfl,g,h0,FA,nd,le,mem⟩
  obtain⟨n,rfl,hn,Zs,n6⟩:∃ n:Int,x=.int n/\[a,b,c][i]?=some n/\n≠0/\mF n:=by
   match i,hx with
   | 0,e=>exact⟨a,(ZG e).symm,rfl,P.a0,a6⟩
   | 1,e=>exact⟨b,(ZG e).symm,rfl,P.b0,b6⟩
   | 2,e=>exact⟨c,(ZG e).symm,rfl,P.c0,c6⟩
   | n+3,e=>cases e
  have a1:1<=aF n/\aF n<=10000000000:=by
   unfold aF mF at *
   split<;>omega
  refine⟨_,rfl,.inl ⟨rfl,_,aR.of FA⟩,_,rfl,n,rfl,aF n,rfl,a1.1,a1.2,fun pl rs xs H1 g1 np hl tl told=>?_⟩
  have ln:=EC told n6
  refine⟨pl,rfl,⟨_,aR.of hl⟩,vX (rs:=rs) (xs:=xs) (ZM ln (by decide)) tl.len (fun H' g=>aR.of (g _ _ hl)) ?_ (fun p=>decide (2<p)) ?_ ?_ ?_⟩
  ·intro j r y e1 e2
   obtain⟨y',e3,e4⟩:=tl.get e1
   rw[e2] at e3
   cases e3
   exact e4
  ·intro y H2 Q2 g2 k
   exact⟨_,rfl,_,_,rfl,rfl,_,rfl,k⟩
  ·intro y H2 Q2 g2 k
   exact⟨_,rfl,k⟩
  ·intro l H2 g2 nl tR
   obtain⟨U4,Lr⟩:=BW told
   have ol:((xs.map (·.1)).filter fun p=>decide (2<p)).length<=20:=G6 told n6
   generalize (xs.map (·.1)).filter (fun p=>decide (2<p))=ns at U4 Lr ol tR
   have Te:=g2 _ _ (g1 _ _ FA)
   have apart:∀ p∈os,p∉ns:=by
    intro p h1 h2
    obtain⟨pp,p2,j,m,hj,hm,hd⟩:=(mem p).mp h1
    have hd2:=((Lr p).mp h2).2.2
    match i,j,hn,hm,hj with
    | 1,0,e1,e2,_=>cases e1;cases e2;exact P.ab p pp hd hd2
    | 2,0,e1,e2,_=>cases e1;cases e2;exact P.ca p pp hd2 hd
    | 2,1,e1,e2,_=>cases e1;cases e2;exact P.bc p pp hd hd2
    | 0,j,_,_,hj=>omega
    | 1,j+1,_,_,hj=>omega
    | 2,j+2,_,_,hj=>omega
    | i+3,j,e1,_,_=>cases e1
   refine⟨od,l,_,_,rfl,rfl,Te,tR,?_,?_⟩
   ·rw[ZR,ZR]
    have Xi:i<3:=by
     match i,hn with
     | 0,_=>decide
     | 1,_=>decide
     | 2,_=>decide
     | i+3,e=>cases e
    exact ZV (by omega:os.length+ns.length<=100) (by decide)
   have ne:od≠p0:=fun z=>by
    subst z
    rw[h0] at FA
    cases FA
   refine⟨some (.int n),os++ns,rfl,fun b o e=>?_,?_,?_,?_,?_,fun p=>?_⟩
   ·rw[aG (aI e U3)]
    exact g2 _ _ (g1 _ _ (g b o e))
   ·rw[aG (Ne.symm ne)]
    exact g2 _ _ (g1 _ _ h0)
   ·rw[ah,aaw]
   ·exact List.nodup_append.mpr ⟨nd,U4,fun x hx y hy e=>apart x hx (e▸hy)⟩
   ·rw[aaN]
    omega
   ·rw[abo,mem,Lr]
    constructor
    ·rintro (⟨a1,a2,j,m,hj,hm,hd⟩|⟨a1,a2,hd⟩)
     ·exact⟨a1,a2,j,m,by omega,hm,hd⟩
     ·exact⟨a1,a2,i,n,by omega,hn,hd⟩
    ·rintro⟨a1,a2,j,m,hj,hm,hd⟩
     by_cases e:j=i
     ·subst e
      rw[hn] at hm
      cases hm
      exact .inr ⟨a1,a2,hd⟩
     ·exact .inl ⟨a1,a2,j,m,by omega,hm,hd⟩
 ·rintro σ H' ⟨nu,os,rfl,g,h0,FA,nd,le,mem⟩
  have Tf:os.length<=60:=le
  refine⟨(d6 2),fun z nz=>⟨_,rfl,od,os,rfl,aR.of (au nz _ _ _ FA),(by omega),fun pS nS=>⟨pS,os,rfl,ah,(by omega),fun sr ks Tg strict Fg=>?_⟩⟩⟩
  have f1:=au nz (.lst [.int 0,.int 2])
  have fS:=fun o=>au nS o
  have f2:=au Tg (.lst (ks.map V.int))
  have lk:ks.length<=60:=ZV (abC (strict.imp fun h=>Int.ne_of_lt h) fun k hk=>(Fg k).mp hk) Tf
  refine⟨z,sr,_,_,rfl,rfl,f2 _ _ (fS _ _ _ ah),ah,?_,fun r nr=>?_⟩
  ·rw[ZR]
   exact ZV (by show 2+ks.length<=100;omega) (by decide)
  have Hn:∀ x,x∈ks↔Pr.bU x/\x≠2/\(x∣a\/x∣b\/x∣c):=by
   intro x
   rw[Fg,mem]
   constructor
   ·rintro⟨a1,a2,j,m,hj,hm,hd⟩
    refine⟨a1,a2,?_⟩
    match j,hm with
    | 0,e=>cases e;exact .inl hd
    | 1,e=>cases e;exact .inr (.inl hd)
    | 2,e=>cases e;exact .inr (.inr hd)
    | j+3,e=>cases e
   ·rintro⟨a1,a2,hd|hd|hd⟩
    ·exact⟨a1,a2,0,a,(by show 0<3;decide),rfl,hd⟩
    ·exact⟨a1,a2,1,b,(by show 1<3;decide),rfl,hd⟩
    ·exact⟨a1,a2,2,c,(by show 2<3;decide),rfl,hd⟩
  refine q r ks _ (g.trans (f1.trans ((fS _).trans (f2.trans (au nr _))))) ?_ ah ?_ ?_ Hn
  ·exact g.free (f1.free ((fS _).free (f2.free nr)))
  ·refine aaY.mpr ⟨fun x m=>?_,aaY.mpr ⟨fun x m=>?_,strict⟩⟩
   ·rcases ZI.mp m with rfl|m
    ·decide
    ·have:=((Hn x).mp m).1.two
     omega
   ·have h1:=((Hn x).mp m).1.two
    have h2:=((Hn x).mp m).2.1
    omega
  ·show ks.length+1+1<100
   omega
theorem jb (F:Fn K mg "places_without_point" cZ)(T:Txt K mg t)(dR:aV P w K mg base aU 3 "places_in_question" ["a","b","c"] (uE))(nU:aV P w K mg base aU 4 "sign_at" ["a","b","place"] (K6)):aV P w K mg base aU 5 "places_without_point" ["a","b","c"] (yN):=by
 refine F.ok i8 (fun f aZ A outer s H vs Q E hr h=>?_)
 obtain⟨a,b,c,rfl,P,a6,b6,c6,q⟩:=h
 refine⟨_,aq (aE (fC rfl (aM.gen (cl:=[("c",_),("b",_),("a",_)]) ["a","b","c"] [0,1,2] [(".0",.local),("place",.local),("sign_at",.globalImplicit),("a",.cell),("b",.cell),("c",.cell)] rfl) (Bh K (aj dR hr aD (ae (pv 0) (ae (pv 1) (ae (pv 2) ag))))) (fun C s0 H0 fp pins=>aB bE (aj nU hr aD (ae (av az (fR dF (pv 1)) (pv 3)) (ae (av az (fR dF (pv 2)) (pv 3)) (ae (pv 0) ag)))) (fR dF af) (aA _)) (fun C s0 H0 fp pins=>pv 0))),?_⟩
 refine⟨_,rfl,_,rfl,_,rfl,a,b,c,rfl,P,a6,b6,c6,fun p ks H2 g2 np hp st ln mem=>?_⟩
 have six:∀ {n:Int},mF n->n.natAbs<=10000000000:=fun h=>h
 have ma:IntMulOk (-a) c:=acD (acy (by have:=six c6;omega) (by have:=six c6;omega))
 have mb:IntMulOk (-b) c:=acD (acy (by have:=six c6;omega) (by have:=six c6;omega))
 have nz:∀ {x:Int},x≠0->-x*c≠0:=fun h z=>by
  rcases abg.mp z with w|w
  ·omega
  ·exact P.c0 w
 have bs:Bd 100 (-a*c)/\Bd 100 (-b*c):=⟨IK (six a6) (six c6),IK (six b6) (six c6)⟩
 have small:∀ {x n:Int},mF n->n≠0->x∣n->x<20000000000:=fun {x n} h6 n0 hd=>by
  have h1:=abw (by omega) (aap.mpr hd)
  have h2:=six h6
  omega
 have sign:∀ x:Int,x∈(0::2::ks)->At (-a*c) (-b*c) x (Jc.Ao (-a*c) (-b*c) x):=by
  intro x hx
  have prime:∀ {y:Int},Pr.bU y->y<20000000000->At (-a*c) (-b*c) y (Jc.Ao (-a*c) (-b*c) y):=fun {y} hy hb=>by
   obtain⟨l1,o1,d1⟩:=Jc.GR hy (nz P.a0)
   obtain⟨l2,o2,d2⟩:=Jc.GR hy (nz P.b0)
   refine .inr ⟨hy,hb,o1,l1,o2,l2,d1,d2,?_⟩
   unfold Jc.Ao
   rw[Z4 (by have:=hy.two;omega)]
   exact Jc.DY hy d1 d2
  rcases ZI.mp hx with rfl|hx
  ·refine .inl ⟨rfl,?_⟩
   unfold Jc.Ao
   rw[aag rfl]
   rfl
  rcases ZI.mp hx with rfl|hx
  ·exact prime Jc.An (by decide)
  ·obtain⟨F2,n2,hd⟩:=(mem x).mp hx
   exact prime F2 (hd.elim (small a6 P.a0) fun h=>h.elim (small b6 P.b0) (small c6 P.c0))
 refine⟨p,rfl,⟨_,aR.of hp⟩,jo (xs:=(0::2::ks).map V.int) (by rw[ZR];exact ZM ln (by decide)) (fun w=>match w with
   | .int x=>decide (Jc.Ao (-a*c) (-b*c) x=-1)
   | _=>false) id (fun H' g=>aR.of (g _ _ hp)) ?_ ?_ ?_⟩
 ·intro i x H' Q' hx g k
  obtain⟨n,hn,rfl⟩:=abm.mp (aau hx)
  have h1:=sign n hn
  refine⟨_,rfl,_,rfl,_,rfl,_,_,rfl,rfl,ma,_,rfl,_,rfl,_,rfl,_,_,rfl,rfl,mb,_,rfl,-a*c,-b*c,n,_,rfl,nz P.a0,nz P.b0,bs,h1,fun H3 g3=>⟨_,rfl,rfl,_,rfl,?_⟩⟩
  have kk:=k H3 g3
  have e:decide (V.int (Jc.Ao (-a*c) (-b*c) n)=V.int (-1))=decide (Jc.Ao (-a*c) (-b*c) n=-1):=by simp
  rw[e]
  exact kk
 ·intro i x H' Q' hx e g k
  exact⟨_,rfl,k _ (aw.refl _)⟩
 ·intro l H' g nl hl
  have e:(((0::2::ks).map V.int).filter fun w=>match w with
   | .int x=>decide (Jc.Ao (-a*c) (-b*c) x=-1)
   | _=>false).map id=(EE a b c ks).map V.int:=by
   rw[List.map_id,List.filter_map]
   rfl
  rw[e] at hl
  exact q l ks H' (g2.trans g) (g2.free nl) ⟨mem,st⟩ (by simp only[aaz] at ln;omega) hl
theorem vg (F:Fn K mg "_law_no_square" jX)(T:Txt K mg t) :aV P w K mg base aU 1 "_law_no_square" ["_law_number","_law_prime"] (EG):=by
 refine F.ok c7 (fun f aZ A outer s H vs Q E hr h=>?_)
 obtain⟨x,n,rfl,hp,n2,nb,nd,q⟩:=h
 have n0:2<n:=by have:=hp.two;omega
 have mo:∀ {a b:Int},0<=b->b<n->IntMulOk a b:=fun h0 h1=>acD (acy (by omega) (by omega))
 refine⟨_,ai (bH (i:=2) c7.nd af)
  (ai (bH (i:=3) c7.nd (av aQ (pv 0) (pv 1)))
  (ai (bH (i:=4) c7.nd (av jh (pv 1) af))
  (ai (dE aah (aB iq (pv 4) af (aA _)) (cu (aY (aB bE (av aQ (pv 4) af) af (aA _)) (aq (bH (i:=2) c7.nd (av aQ (av az (pv 2) (pv 3)) (pv 1)))) aK)
  (ai (bH (i:=3) c7.nd (av aQ (av az (pv 3) (pv 3)) (pv 1)))
  (aq (bH (i:=4) c7.nd (av jh (pv 4) af))))))
  (aq (aE (bM bE (pv 2) (av d8 (pv 1) af) (aA _))))))),?_⟩
 refine⟨_,rfl,_,rfl,_,_,rfl,rfl,(show (0:Int)<n by omega),_,rfl,_,_,rfl,rfl,⟨by decide,by decide⟩,?_⟩
 refine⟨fun m σ H'=>∃ (p f l:Int),σ=[some (.int x),some (.int n),some (.int p),some (.int f),some (.int l)]/\H=H'/\0<=p/\p<n/\0<=f/\f<n/\0<=l/\p*f^l.toNat%n=Pw.PM x (n / 2).toNat n/\m=l.toNat,
  ⟨_,1,x%n,n / 2,rfl,rfl,by decide,by omega,Z6 _ (by omega),Z9 _ (by omega),by omega,K9 (n / 2).toNat (by omega),rfl⟩,?_⟩
 rintro m σ H1 ⟨p,f,l,rfl,rfl,p0,p1,f0,f1,l0,e,rfl⟩
 refine⟨_,rfl,_,_,rfl,rfl,_,rfl,?_⟩
 refine bJ (fun c=>?_) (fun c=>?_)
 ·have lp:0<l:=bX c
  refine⟨fun σ' H2=>∃ (p f' l':Int),σ'=[some (.int x),some (.int n),some (.int p),some (.int f'),some (.int l')]/\H=H2/\0<=p/\p<n/\f'=f*f%n/\l'=l / 2/\p*(f*f%n)^(l.toNat / 2)%n=Pw.PM x (n / 2).toNat n,?_,?_⟩
  ·rintro σ' H2 ⟨p,f',l',rfl,rfl,p0,p1,rfl,rfl,e⟩
   refine⟨(l / 2).toNat,by omega,p,_,_,rfl,rfl,p0,p1,Z6 _ (by omega),Z9 _ (by omega),by omega,?_,rfl⟩
   rw[OC l l0]
   exact e
  refine⟨fun σ' H2=>∃ (p:Int),σ'=[some (.int x),some (.int n),some (.int p),some (.int f),some (.int l)]/\H=H2/\0<=p/\p<n/\p*(f*f%n)^(l.toNat / 2)%n=Pw.PM x (n / 2).toNat n,?_,?_⟩
  ·refine⟨_,rfl,_,_,rfl,rfl,(by show (0:Int)<2;decide),rfl,_,rfl,?_⟩
   refine bJ (fun c=>?_) (fun c=>?_)
   ·have o:l%2=1:=aL (bX c)
    exact⟨_,rfl,_,rfl,_,_,rfl,rfl,mo f0 f1,_,rfl,_,_,rfl,rfl,(show (0:Int)<n by omega),_,rfl,rfl,Z6 _ (by omega),Z9 _ (by omega),Pw.we e (by omega)⟩
   ·have o:¬ l%2=1:=fun z=>du c (aai V.int z)
    exact⟨p,rfl,rfl,p0,p1,Pw.sR e (by omega)⟩
  ·rintro _ _ ⟨p,rfl,rfl,p0,p1,e⟩
   refine⟨_,rfl,_,rfl,_,_,rfl,rfl,mo f0 f1,_,rfl,_,_,rfl,rfl,(show (0:Int)<n by omega),?_⟩
   exact⟨_,rfl,_,_,rfl,rfl,⟨by decide,by decide⟩,p,_,_,rfl,rfl,p0,p1,rfl,rfl,e⟩
 ·have lz:¬ 0<l:=du c
  have Th:l=0:=by omega
  subst Th
  have e2:p=Pw.PM x (n / 2).toNat n:=Pw.done e p0 p1
  refine⟨_,rfl,_,rfl,_,_,rfl,rfl,rfl,q _ ?_⟩
  rw[acj,e2]
  exact⟨fun z=>(IL hp n2 nd).mp (aL z),fun z=>aai V.int ((IL hp n2 nd).mpr z)⟩
theorem vh (F:Fn K mg "_law_none_by_8" jY)(T:Txt K mg t) :aV P w K mg base aU 1 "_law_none_by_8" ["_law_triple_here"] (Ll):=by
 refine F.ok c8 (fun f aZ A outer s H vs Q E hr h=>?_)
 obtain⟨p,a,b,c,rfl,hp,ha,hb,hc,q⟩:=h
 have mo:∀ {n y:Int},n.natAbs<=10000000000->IntMulOk n y:=fun h=>kO (by omega) (by omega)
 refine⟨_,ai (jI (pv 0) (Ka rfl (cM (sM (i:=2) c8.nd) (cM (sM (i:=3) c8.nd) (cM (sM (i:=4) c8.nd) kq)))))
  (ai (gh aah rfl (Bh K (bG (ae af (ae af (ae af ag))))) (sM (i:=1) c8.nd) (aq (gh aah rfl (Bh K (bG (ae af (ae af (ae af ag))))) (sM (i:=5) c8.nd) (aq (gh aah rfl (Bh K (bG (ae af (ae af (ae af ag))))) (sM (i:=6) c8.nd) (aq (aY (PW.pt (kR (aB sD af (bG (ae (pv 1) (ae (pv 5) (ae (pv 6) ag)))) (by with_unfolding_all rfl)) (jg (aB bE (av aQ (av cW (av cW (av az (pv 2) (pv 1)) (av az (pv 3) (pv 5))) (av az (pv 4) (pv 6))) af) af (aA _))))) (aq (aE gH)) aK)))))))
  (aq (aE gH))),?_⟩
 refine⟨_,rfl,p,_,rfl,aR.of hp,rfl,_,_,rfl,_,_,rfl,_,_,rfl,rfl,?_⟩
 refine⟨(d6 3),fun l1 n1=>?_⟩
 have f1:=au n1 (.lst [.int 0,.int 1,.int 4])
 refine⟨l1,rfl,⟨_,aR.of ah⟩,gY (xs:=[.int 0,.int 1,.int 4]) (fun i σ H'=>∃ o1 o5 o6:Option V,σ=[some (.ref p),o1,some (.int a),some (.int b),some (.int c),o5,o6]/\aw (upd H l1 (.lst [.int 0,.int 1,.int 4])) H'/\∀ x y z,La i x->q3 y->q3 z->¬ L7 a b c x y z) ⟨none,none,none,rfl,aw.refl _,fun x y z ⟨j,hj,_⟩=>by omega⟩ ?_ ?_ ?_⟩
 ·rintro i σ H' hi ⟨_,_,_,rfl,g,_⟩
  exact aR.of (g _ _ ah)
 ·rintro i v σ H1 hv ⟨o1,o5,o6,rfl,g1,Xj⟩
  obtain⟨x,rfl,qx,ex⟩:=yO hv
  refine⟨(d6 3),fun l2 n2=>?_⟩
  have f2:=au n2 (.lst [.int 0,.int 1,.int 4])
  refine⟨l2,rfl,⟨_,aR.of ah⟩,gY (xs:=[.int 0,.int 1,.int 4]) (fun i σ H'=>∃ o5 o6:Option V,σ=[some (.ref p),some (.int x),some (.int a),some (.int b),some (.int c),o5,o6]/\aw (upd H1 l2 (.lst [.int 0,.int 1,.int 4])) H'/\∀ y z,La i y->q3 z->¬ L7 a b c x y z) ⟨_,_,rfl,aw.refl _,fun y z ⟨j,hj,_⟩=>by omega⟩ ?_ ?_ ?_⟩
  ·rintro i σ H' hi ⟨_,_,rfl,g,_⟩
   exact aR.of (g _ _ ah)
  ·rintro j v σ H2 hv ⟨o5,o6,rfl,g2,Xk⟩
   obtain⟨y,rfl,qy,ey⟩:=yO hv
   refine⟨(d6 3),fun l3 n3=>?_⟩
   have f3:=au n3 (.lst [.int 0,.int 1,.int 4])
   refine⟨l3,rfl,⟨_,aR.of ah⟩,gY (xs:=[.int 0,.int 1,.int 4]) (fun i σ H'=>∃ o6:Option V,σ=[some (.ref p),some (.int x),some (.int a),some (.int b),some (.int c),some (.int y),o6]/\aw (upd H2 l3 (.lst [.int 0,.int 1,.int 4])) H'/\∀ z,La i z->¬ L7 a b c x y z) ⟨_,rfl,aw.refl _,fun z ⟨j,hj,_⟩=>by omega⟩ ?_ ?_ ?_⟩
   ·rintro i σ H' hi ⟨_,rfl,g,_⟩
    exact aR.of (g _ _ ah)
   ·rintro k v σ H3 hv ⟨o6,rfl,g3,Xl⟩
    obtain⟨z,rfl,qz,ez⟩:=yO hv
    refine⟨_,rfl,_,rfl,_,rfl,(d6 3),fun l4 n4=>?_⟩
    have f4:=au n4 (.lst [.int x,.int y,.int z])
    have gA:=g3.trans f4
    refine⟨l4,_,rfl,.inl (aR.of ah),rfl,rfl,_,rfl,?_⟩
    have step:∀ {H':Hp},aw H3 H'->¬ L7 a b c x y z->∃ o6:Option V,[some (V.ref p),some (.int x),some (.int a),some (.int b),some (.int c),some (.int y),some (.int z)]=[some (.ref p),some (.int x),some (.int a),some (.int b),some (.int c),some (.int y),o6]/\aw (upd H2 l3 (.lst [.int 0,.int 1,.int 4])) H'/\∀ z,La (k+1) z->¬ L7 a b c x y z:=fun g nh=>⟨_,rfl,g3.trans g,fun w hw=>by
     rcases qR ez hw with h|rfl
     ·exact Xl w h
     ·exact nh⟩
    refine bJ (fun c1=>?_) (fun c1=>?_)
    ·refine⟨_,rfl,_,rfl,_,_,rfl,rfl,mo ha,_,rfl,_,rfl,_,_,rfl,rfl,mo hb,_,_,rfl,rfl,_,rfl,_,rfl,_,_,rfl,rfl,mo hc,_,_,rfl,rfl,_,_,rfl,rfl,(by show (0:Int)<8;decide),rfl,_,rfl,bJ (fun c2=>?_) (fun c2=>?_)⟩
     ·refine q false _ (f1.trans (g1.trans (f2.trans (g2.trans (f3.trans gA))))) ⟨fun z=>(by cases z),fun z=>absurd (AD.mpr ⟨x,y,_,qx,qy,qz,SU c1,aL (bX c2)⟩) z⟩
     ·exact step f4 fun hh=>du c2 (aai V.int hh.2)
    ·exact step f4 fun hh=>OE c1 hh.1
   ·rintro σ H' ⟨_,rfl,g,no⟩
    exact⟨_,_,rfl,g2.trans (f3.trans g),fun u w hu hw=>by
     rcases qR ey hu with h|rfl
     ·exact Xk u w h hw
     ·exact no w (EI hw)⟩
  ·rintro σ H' ⟨_,_,rfl,g,no⟩
   exact⟨_,_,_,rfl,g1.trans (f2.trans g),fun u u2 w hu PL hw=>by
    rcases qR ex hu with h|rfl
    ·exact Xj u u2 w h PL hw
    ·exact no u2 w (EI PL) hw⟩
 ·rintro σ H' ⟨_,_,_,rfl,g,no⟩
  refine q true _ (f1.trans g) ⟨fun _ hf=>?_,fun _=>rfl⟩
  obtain⟨x,y,z,hx,hy,hz,hh⟩:=AD.mp hf
  exact no x y z (EI hx) hy hz hh
theorem Ls (F:Fn K mg "_law_bad" Eo)(T:Txt K mg t)(j7:aV P w K mg base aU 1 "_law_none_by_8" ["_law_triple_here"] (Ll))(j8:aV P w K mg base aU 1 "_law_no_square" ["_law_number","_law_prime"] (EG)):aV P w K mg base aU 2 "_law_bad" ["_law_triple_here","_law_place"] (y4):=by
 refine F.ok E9 (fun f aZ A outer s H vs Q E hr h=>?_)
 obtain⟨p,a,b,c,x,rfl,hp,P,ha,hb,hc,hx,q⟩:=h
 refine⟨_,ai (aY (aB bE (pv 1) af (aA _)) (aq (aE (Hz (bM iq (aJ (Bn rfl) rfl T.ID IH (ae (pv 0) ag)) af (aA _)) (mM (bM jJ (aJ (Bm rfl) rfl T.Ow Ox (ae (pv 0) ag)) af (aA _)))))) aK)
  (ai (aY (aB bE (pv 1) af (aA _)) (aq (aE (aj j7 hr aD (ae (pv 0) ag)))) aK)
  (ai (gh aah rfl (eQ rfl T.iD (ae af ag)) (sM (i:=2) E9.nd) (aq (aY (aB bE (av aQ (aW (gi K) (pv 0) (pv 2)) (pv 1)) af (aA _)) (aq (aE (aj j8 hr aD (ae (av d8 af (av az (aW (gi K) (pv 0) (av d8 (pv 2) af)) (aW (gi K) (pv 0) (av d8 (pv 2) af)))) (ae (pv 1) ag))))) aK)))
  (aq (aE gH)))),?_⟩
 have q0:=fun r k=>q r H (aw.refl H) k
 rcases hx with rfl|rfl|⟨px,x2,xb⟩
 ·refine⟨_,rfl,rfl,_,rfl,jK ?_⟩
  refine⟨_,rfl,p,[a,b,c],rfl,hp,by simp,fun m hm m1=>⟨_,_,rfl,rfl,_,rfl,?_⟩⟩
  have l1:=m1 a (by simp)
  have l2:=m1 b (by simp)
  have l3:=m1 c (by simp)
  simp only[ZI,aas,abE] at hm
  refine bJ (fun c1=>?_) (fun c1=>?_)
  ·have:0<m:=bX c1
   exact q0 true ⟨fun _=>Lb.mpr (.inr (by omega)),fun _=>rfl⟩
  ·have m0:¬ 0<m:=du c1
   refine⟨_,rfl,p,[a,b,c],rfl,hp,by simp,fun k hk k1=>⟨_,_,rfl,rfl,q0 _ ?_⟩⟩
   have k2:=k1 a (by simp)
   have k3:=k1 b (by simp)
   have k4:=k1 c (by simp)
   simp only[ZI,aas,abE] at hk
   rw[acj,Lb]
   omega
 ·refine⟨_,rfl,rfl,_,rfl,oP (fun z=>by cases z) ?_⟩
  refine⟨_,rfl,rfl,_,rfl,jK ?_⟩
  exact⟨_,rfl,p,a,b,c,rfl,hp,ha,hb,hc,fun r H' g k=>q r H' g (k.trans SS.symm)⟩
 have xz:=px.two
 refine⟨_,rfl,rfl,_,rfl,oP (fun z=>by have:=aL z;omega) ?_⟩
 refine⟨_,rfl,rfl,_,rfl,oP (fun z=>x2 (aL z)) ?_⟩
 have mo:∀ {n y:Int},n.natAbs<=10000000000->IntMulOk n y:=fun h=>kO (by omega) (by omega)
 have Ti:∀ {u v:Int},¬ x∣u->¬ x∣v->¬ x∣0-u*v:=fun h1 h2 h=>by
  rw[Int.zero_sub,aa8] at h
  exact (Pr.euclid px h).elim h1 h2
 refine⟨3,rfl,by decide,by decide,mR (fun i σ H'=>∃ o:Option V,σ=[some (.ref p),some (.int x),o]/\H=H'/\(1<=i->¬ x∣a)/\(2<=i->¬ x∣b)/\(3<=i->¬ x∣c)) ⟨none,rfl,rfl,by omega,by omega,by omega⟩ ?_ ?_⟩
 ·rintro i σ H' hi ⟨o,rfl,rfl,i1,i2,i3⟩
  obtain rfl|rfl|rfl:i=0\/i=1\/i=2:=by have:i<3:=hi;omega
  ·refine⟨_,rfl,_,rfl,p,_,_,_,rfl,rfl,aR.of hp,rfl,_,rfl,_,_,rfl,rfl,(show (0:Int)<x by omega),rfl,_,rfl,bJ (fun c1=>?_) (fun c1=>?_)⟩
   ·have d:x∣a:=aaa (aL (bX c1))
    have nb:=P.ab x px d
    have nc:¬ x∣c:=fun z=>P.ca x px z d
    refine⟨_,rfl,_,rfl,_,_,rfl,rfl,p,_,_,_,rfl,rfl,aR.of hp,rfl,_,rfl,_,rfl,_,_,rfl,rfl,p,_,_,_,rfl,rfl,aR.of hp,rfl,_,_,rfl,rfl,mo hc,_,_,rfl,rfl,_,rfl,0-c*b,x,rfl,px,x2,xb,Ti nc nb,fun r k=>q0 r ?_⟩
    rw[k,yP px x2,show 0-c*b=-(b*c) by rw[ZX c b];omega]
    exact⟨fun e=>.inl ⟨d,e⟩,fun h=>h.elim (·.2) fun h=>h.elim (fun h=>absurd h.1 nb) fun h=>absurd h.1 nc⟩
   ·exact⟨_,rfl,rfl,fun _ z=>du c1 (aai V.int (aax z)),by omega,by omega⟩
  ·have na:=i1 (by decide)
   refine⟨_,rfl,_,rfl,p,_,_,_,rfl,rfl,aR.of hp,rfl,_,rfl,_,_,rfl,rfl,(show (0:Int)<x by omega),rfl,_,rfl,bJ (fun c1=>?_) (fun c1=>?_)⟩
   ·have d:x∣b:=aaa (aL (bX c1))
    have nc:=P.bc x px d
    refine⟨_,rfl,_,rfl,_,_,rfl,rfl,p,_,_,_,rfl,rfl,aR.of hp,rfl,_,rfl,_,rfl,_,_,rfl,rfl,p,_,_,_,rfl,rfl,aR.of hp,rfl,_,_,rfl,rfl,mo ha,_,_,rfl,rfl,_,rfl,0-a*c,x,rfl,px,x2,xb,Ti na nc,fun r k=>q0 r ?_⟩
    rw[k,yP px x2,show 0-a*c=-(c*a) by rw[ZX c a];omega]
    exact⟨fun e=>.inr (.inl ⟨d,e⟩),fun h=>h.elim (fun h=>absurd h.1 na) fun h=>h.elim (·.2) fun h=>absurd h.1 nc⟩
   ·exact⟨_,rfl,rfl,fun _=>na,fun _ z=>du c1 (aai V.int (aax z)),by omega⟩
  ·have na:=i1 (by decide)
   have nb:=i2 (by decide)
   refine⟨_,rfl,_,rfl,p,_,_,_,rfl,rfl,aR.of hp,rfl,_,rfl,_,_,rfl,rfl,(show (0:Int)<x by omega),rfl,_,rfl,bJ (fun c1=>?_) (fun c1=>?_)⟩
   ·have d:x∣c:=aaa (aL (bX c1))
    refine⟨_,rfl,_,rfl,_,_,rfl,rfl,p,_,_,_,rfl,rfl,aR.of hp,rfl,_,rfl,_,rfl,_,_,rfl,rfl,p,_,_,_,rfl,rfl,aR.of hp,rfl,_,_,rfl,rfl,mo hb,_,_,rfl,rfl,_,rfl,0-b*a,x,rfl,px,x2,xb,Ti nb na,fun r k=>q0 r ?_⟩
    rw[k,yP px x2,show 0-b*a=-(a*b) by rw[ZX a b];omega]
    exact⟨fun e=>.inr (.inr ⟨d,e⟩),fun h=>h.elim (fun h=>absurd h.1 na) fun h=>h.elim (fun h=>absurd h.1 nb) (·.2)⟩
   ·exact⟨_,rfl,rfl,fun _=>na,fun _=>nb,fun _ z=>du c1 (aai V.int (aax z))⟩
 ·rintro σ H' ⟨o,rfl,rfl,i1,i2,i3⟩
  have na:=i1 (by decide)
  have nb:=i2 (by decide)
  have nc:=i3 (by decide)
  refine q0 false ⟨fun z=>(by cases z),fun h=>?_⟩
  rw[yP px x2] at h
  exact absurd h fun h=>h.elim (fun h=>na h.1) fun h=>h.elim (fun h=>nb h.1) fun h=>nc h.1
theorem B6 (F:Fn K mg "_law_primes" qK)(T:Txt K mg t) :aV P w K mg base aU 1 "_law_primes" ["_law_number"] (EJ):=by
 refine F.ok gT (fun f aZ A outer s H vs Q E hr h=>?_)
 obtain⟨n,rfl,n0,n6,q⟩:=h
 refine⟨_,ai (bH (i:=1) gT.nd (bG ag))
  (ai (bH (i:=2) gT.nd (aJ bQ rfl T.fW fX (ae (pv 0) ag)))
  (ai (bH (i:=3) gT.nd af)
  (ai (dE aah (aB vA (av az (pv 3) (pv 3)) (pv 2) (aA _)) (aq (aY (aB bE (av aQ (pv 2) (pv 3)) af (aA _)) (ai (km (vD abF acY acX iT (pv 1) (ae (pv 3) ag)))
  (aq (bH (i:=2) gT.nd (av de (pv 2) (pv 3))))) (aq (bH (i:=3) gT.nd (av cW (pv 3) af))))))
  (aq (aE (av p8 (pv 1) (av JH (bG (ae (pv 2) ag)) (dW ku rfl T.wN wQ (ae (bM iq (pv 2) af (aA _)) ag))))))))),?_⟩
 refine⟨(d6 0),fun f hf=>?_⟩
 refine⟨_,rfl,n,rfl,?_⟩
 have en:(if n<0 then -n else n)=(n.natAbs:Int):=by split<;>omega
 refine⟨fun u σ H'=>∃ (r k:Int) (fs:List Int),σ=[some (.int n),some (.ref f),some (.int r),some (.int k)]/\aw H H'/\H' f=some (.lst (fs.map V.int))/\wV n fs r k/\k<=2829/\u=(r+6000-k).toNat,
  ⟨_,_,2,[],rfl,au hf _,ah,⟨fun f m=>(by cases m),by rw[en];simp,by rw[en];omega,by decide,fun d d2 dk=>by omega⟩,by decide,rfl⟩,?_⟩
 rintro u σ H1 ⟨r,k,fs,rfl,g,hl,S,kb,rfl⟩
 obtain⟨rb,ln⟩:=S.le n6
 have r1:=S.r1
 have k2:=S.k2
 refine⟨_,rfl,_,rfl,_,_,rfl,rfl,acD (acy (by omega) (by omega)),_,rfl,_,_,rfl,rfl,_,rfl,?_⟩
 refine bJ (fun c=>?_) (fun c=>?_)
 ·have c':k*k<=r:=bX c
  have U5:=S.kb n6 c'
  refine⟨fun σ' H'=>∃ (r' k':Int) (Lz:List Int),σ'=[some (.int n),some (.ref f),some (.int r'),some (.int k')]/\aw H H'/\H' f=some (.lst (Lz.map V.int))/\wV n Lz r' k'/\k'<=2829/\(r'+6000-k').toNat<(r+6000-k).toNat,?_,?_⟩
  ·rintro _ _ ⟨r',k',Lz,rfl,g',P7,S',Xm,lt⟩
   exact⟨_,lt,r',k',Lz,rfl,g',P7,S',Xm,rfl⟩
  refine⟨_,rfl,_,rfl,_,_,rfl,rfl,(by omega),rfl,_,rfl,?_⟩
  refine bJ (fun e=>?_) (fun e=>?_)
  ·have e0:r%k=0:=aL (bX e)
   obtain⟨t,rfl⟩:=aaa e0
   have ft:(k*t).fdiv k=t:=abB t (by omega)
   have t1:1<=t:=by
    by_cases z:1<=t
    ·exact z
    ·have:=ZS (show t<=0 by omega) (show 0<=k by omega)
     rw[aaF] at this
     omega
   have lt:t<k*t:=by
    have:=aak (show (2:Int)<=k by omega) (show 0<=t by omega)
    omega
   refine⟨_,rfl,.inl ⟨rfl,_,aR.of hl⟩,_,rfl,f,_,_,rfl,rfl,hl,(by rw[ZR];exact ZM ln (by decide)),?_⟩
   refine⟨_,rfl,_,rfl,_,_,rfl,rfl,⟨by omega,ZM (log2_lt_of (k:=64) (by omega) (by decide)) (by decide)⟩,t,k,fs++[k],?_,fun b o z=>?_,?_,S.take t1,kb,by omega⟩
   ·show ([some (V.int n),some (V.ref f),some (V.int (k*t)),some (V.int k)].set 2 (some (V.int ((k*t).fdiv k))))=_
    rw[ft]
    rfl
   ·rw[aG (aI z hf)]
    exact g b o z
   ·rw[ah,aaw]
    rfl
  ·have e0:¬ k∣r:=fun d=>du e (aai V.int (aax d))
   exact⟨_,rfl,_,_,rfl,rfl,r,k+1,fs,rfl,g,hl,S.next e0,by omega,by omega⟩
 ·have c':¬ k*k<=r:=du c
  refine⟨_,rfl,_,rfl,(d6 1),fun l1 n1=>⟨_,rfl,_,_,rfl,rfl,.inr ⟨_,rfl,?_⟩⟩⟩
  have f1:=au n1 (.lst [.int r])
  have fin:∀ (l2:Addr) (ns:List Int),(upd H1 l1 (.lst [.int r])) l2=none->ns.length<=1->(∀ x,x∈fs++ns↔Pr.bU x/\x∣n)->JG (.ref f) (.ref l2) (upd (upd H1 l1 (.lst [.int r])) l2 (.lst (ns.map V.int))) Q:=fun l2 ns n2 nl mem=>by
   have f2:=au n2 (.lst (ns.map V.int))
   refine⟨f,l2,_,_,rfl,rfl,f2 _ _ (f1 _ _ hl),ah,?_,fun z nz=>?_⟩
   ·rw[ZR,ZR]
    exact ZV (by omega:fs.length+ns.length<=100) (by decide)
   ·rw[<- aaw]
    exact q z (fs++ns) _ (g.trans (f1.trans (f2.trans (au nz _)))) (g.free (f1.free (f2.free nz))) ah (by rw[aaN];omega) mem
  by_cases c2:r > 1
  ·rw[aay c2]
   refine⟨l1,1,[.int r],rfl,rfl,ah,by decide,by decide,(by show 1*1<=sizeLine;decide),fun l2 n2=>?_⟩
   exact fin l2 [r] n2 (ZL 1) fun x=>(S.last c' (by omega)).mem
  ·rw[aao c2]
   refine⟨l1,0,[.int r],rfl,rfl,ah,by decide,by decide,(by show 1*0<=sizeLine;decide),fun l2 n2=>?_⟩
   have Xn:r=1:=by omega
   subst Xn
   exact fin l2 [] n2 (by decide) fun x=>by rw[aa6];exact S.mem
theorem rC (F:Fn K mg "_law_bad_places" iM)(T:Txt K mg t)(rD:aV P w K mg base aU 1 "_law_primes" ["_law_number"] (EJ))(Fh:aV P w K mg base aU 2 "_law_bad" ["_law_triple_here","_law_place"] (y4)):aV P w K mg base aU 3 "_law_bad_places" ["_law_triple_here","_law_number"] (E3):=by
 refine F.ok j6 (fun f aZ A outer s H vs Q E hr h=>?_)
 obtain⟨p,a,b,c,n,rfl,hp,P,ha,hb,hc,n0,n6,q⟩:=h
 refine⟨_,ai (bH (i:=2) j6.nd (aJ (md rfl) rfl T.qM wR (ae (dW (sY rfl) rfl T.IE II (ae (av p8 (bG (ae af (ae af ag))) (aj rD hr aD (ae (pv 1) ag))) ag)) ag)))
  (aq (aE (fC rfl (aM.gen (cl:=[("_law_triple_here",_)]) ["_law_triple_here"] [0] [(".0",.local),("_law_place",.local),("_law_bad",.globalImplicit),("_law_triple_here",.cell)] rfl) (Bh K (pv 2)) (fun C s0 H0 fp pins=>fA (aj Fh hr aD (ae (pv 1) (ae (pv 0) ag))) (fun _=>rfl)) (fun C s0 H0 fp pins=>pv 0)))),?_⟩
 refine⟨(d6 2),fun l1 n1=>⟨_,rfl,n,rfl,n0,n6,fun l2 fs H2 g2 n2 tR lf mf=>?_⟩⟩
 have f1:=au n1 (.lst [.int 0,.int 2])
 refine⟨l1,l2,_,_,rfl,rfl,g2 _ _ ah,tR,?_,fun l3 n3=>?_⟩
 ·rw[ZR]
  exact ZV (by show 2+fs.length<=100;omega) (by decide)
 have f3:=au n3 (.lst ([.int 0,.int 2]++fs.map V.int))
 have e3:([.int 0,.int 2]++fs.map V.int)=(0::2::fs).map V.int:=rfl
 refine⟨l3,0::2::fs,rfl,aR.of (by rw[<- e3];exact ah),(by simp only[aaz];omega),fun pS nS=>⟨pS,_,rfl,ah,(by simp only[aaz];omega),fun sr ks Tg strict Fg=>?_⟩⟩
 have fS:=fun o=>au nS o
 have f4:=au Tg (.lst (ks.map V.int))
 have gA:aw H _:=f1.trans (g2.trans (f3.trans ((fS _).trans f4)))
 have lk:ks.length<50:=abh (abC (strict.imp fun h=>Int.ne_of_lt h) fun k hk=>(Fg k).mp hk) (by simp only[aaz];omega)
 have mk:∀ x,x∈ks↔(x=0\/x=2\/(Pr.bU x/\x∣n)):=fun x=>by rw[Fg,ZI,ZI,mf]
 refine⟨_,rfl,sr,rfl,⟨_,aR.of ah⟩,jo (xs:=ks.map V.int) (by rw[ZR];exact ZM lk (by decide)) (fun w=>match w with
   | .int x=>@decide (Jc.fV a b c x) (Classical.propDecidable _)
   | _=>false) id (fun H' g=>aR.of (g _ _ ah)) ?_ ?_ ?_⟩
 ·intro i x H' Q' hx g k
  obtain⟨m,hm,rfl⟩:=abm.mp (aau hx)
  have Q4:m=0\/m=2\/(Pr.bU m/\m≠2/\m<20000000000):=by
   by_cases m2:m=2
   ·exact .inr (.inl m2)
   ·rcases (mk m).mp hm with h|h|⟨h1,h2⟩
    ·exact .inl h
    ·exact .inr (.inl h)
    ·have h3:=abw (by omega) (aap.mpr h2)
     exact .inr (.inr ⟨h1,m2,by omega⟩)
  refine⟨_,rfl,_,rfl,p,a,b,c,m,rfl,g _ _ (gA _ _ hp),P,ha,hb,hc,Q4,fun r H3 g3 hr=>⟨_,rfl,?_⟩⟩
  have e:r=@decide (Jc.fV a b c m) (Classical.propDecidable _):=by
   cases r
   ·exact (@decide_eq_false _ (Classical.propDecidable _) fun z=>by cases hr.mpr z).symm
   ·exact (@decide_eq_true _ (Classical.propDecidable _) (hr.mp rfl)).symm
  rw[e]
  exact k H3 g3
 ·intro i x H' Q' hx e g k
  exact⟨_,rfl,k _ (aw.refl _)⟩
 ·intro l H' g nl hl
  rw[List.map_id,List.filter_map] at hl
  refine q l _ H' (gA.trans g) (gA.free nl) hl (strict.filter _) fun x=>?_
  rw[abA,mk]
  exact and_congr_right fun _=>@decide_eq_true_iff _ (Classical.propDecidable _)
theorem jD (F:Fn K mg "is_without_squares" dH)(T:Txt K mg t)(nV:aV P w K mg base aU 3 "core_of" ["number"] (uD)):aV P w K mg base aU 4 "is_without_squares" ["number"] (uN):=by
 refine F.ok jB (fun f aZ A outer s H vs Q E hr h=>?_)
 obtain⟨n,rfl,n6,q⟩:=h
 refine⟨_,aq (aE (tK (bM iS (pv 0) af (aA _)) (mM (bM bE (aW (cw K) (aj nV hr aD (ae (pv 0) ag)) af) af (aA _))))),?_⟩
 unfold mF at n6
 refine⟨_,rfl,rfl,_,rfl,bJ (fun c=>?_) (fun c=>?_)⟩
 ·have n0:n≠0:=fun z=>neT c (aai V.int z)
  refine⟨_,rfl,n,rfl,n0,by omega,by omega,fun p xs H1 g1 told hp=>⟨p,_,_,_,rfl,rfl,aO.of hp,rfl,rfl,?_⟩⟩
  refine q _ _ g1 ⟨fun e=>⟨n0,fun p hp hd=>?_⟩,fun e=>aay (aai V.int (DR told fun p hp z=>e.2 p hp (abs_dvd.mp z)))⟩
  have r1:Pr.df xs=1:=aL (bX e)
  have cr:=Pr.sQ told.all
  rw[r1,told.prod,aaM,aaM] at cr
  exact Pr.yj hp told.all told.rise (by rw[cr];exact abs_dvd.mpr hd)
 ·refine q _ H (aw.refl _) ⟨fun e=>?_,fun e=>absurd (aL (Oy c)) e.1⟩
  first|exact absurd e c|exact (ZJ e).elim
theorem xl (F:Fn K mg "is_plain" lB)(T:Txt K mg t)(dS:aV P w K mg base aU 4 "is_without_squares" ["number"] (uN))(bA:aV P w K mg base aU 2 "shares_of" ["one","other"] (i6)):aV P w K mg base aU 5 "is_plain" ["a","b","c"] (qT):=by
 refine F.ok xc (fun f aZ A outer s H vs Q E hr h=>?_)
 obtain⟨a,b,c,rfl,a6,b6,c6,q⟩:=h
 refine⟨_,ai (aY (kT (fA (aJ (lX rfl) rfl T.Av Ax (ae (eH rfl (aM.gen (cl:=[]) [] [] [(".0",.local),("number",.local),("is_without_squares",.globalImplicit)] rfl) (HN K (aS (ae (pv 0) (ae (pv 1) (ae (pv 2) ag))))) (fun C s0 H0 fp pins=>aj dS hr aD (ae (pv 0) ag))) ag)) (fun _=>rfl))) (aq (aE gH)) aK)
  (aq (aE (aJ (lX rfl) rfl T.Av Ax (ae (oE rfl (cG.gen (cl:=[]) [] [] [(".0",.local),("one",.local),("other",.local),("shares_of",.globalImplicit)] rfl) (HN K (aS (ae (aS (ae (pv 0) (ae (pv 1) ag))) (ae (aS (ae (pv 1) (ae (pv 2) ag))) (ae (aS (ae (pv 2) (ae (pv 0) ag))) ag))))) (fun C s0 H0 fp pins=>bM bE (aW (cw K) (aj bA hr aD (ae (pv 0) (ae (pv 1) ag))) af) af (aA _))) ag)))),?_⟩
 refine⟨_,rfl,_,rfl,_,rfl,(d6 3),fun p0 n0=>?_⟩
 have f0:=au n0 (.tup [.int a,.int b,.int c])
 refine⟨p0,rfl,⟨_,aO.of ah⟩,mY (xs:=[.int a,.int b,.int c]) (aO.of ah) (HP 3) UY (fun H' g=>aO.of (g _ _ ah)) ?_ ?_⟩
 ·intro i x H' Q' ex g k
  obtain⟨n,rfl,hn⟩:=IP ex
  have h2:mF n:=hn.elim (fun e=>e▸a6) fun e=>e.elim (fun e=>e▸b6) fun e=>e▸c6
  refine⟨_,rfl,n,rfl,h2,fun t H2 g2 ht=>?_⟩
  have kk:=k H2 g2
  rw[show UY (.int n)=.bl t from aai V.bl (OG ht)] at kk
  exact kk
 intro l1 H1 g1 _ xy
 refine⟨l1,[bS a,bS b,bS c],rfl,xy,_,rfl,?_⟩
 by_cases hs:Fy a/\Fy b/\Fy c
 ·refine IJ (Ld.mpr ⟨lJ.mpr hs.1,lJ.mpr hs.2.1,lJ.mpr hs.2.2⟩) ?_
  refine⟨_,rfl,_,rfl,(d6 2),fun m0 k0=>⟨_,rfl,_,rfl,(d6 2),fun m1 k1=>⟨_,rfl,_,rfl,(d6 2),fun m2 k2=>⟨(d6 3),fun m3 k3=>?_⟩⟩⟩⟩
  have e0:=au k0 (.tup [.int a,.int b])
  have e1:=au k1 (.tup [.int b,.int c])
  have e2:=au k2 (.tup [.int c,.int a])
  have e3:=au k3 (.tup [.ref m0,.ref m1,.ref m2])
  have w0:=(e1.trans (e2.trans e3)) m0 _ ah
  have w1:=(e2.trans e3) m1 _ ah
  have w2:=e3 m2 _ ah
  have big:∀ {n:Int},mF n->n.natAbs<=Lm:=fun h=>ZV h (by rw[tj];decide +kernel)
  refine⟨m3,rfl,⟨_,aO.of ah⟩,yc (xs:=[.ref m0,.ref m1,.ref m2]) (fun H' g=>aO.of (g _ _ ah)) (HP 3) (fun i=>.int ([a,b,c].getD i 0)) (fun i=>.int ([b,c,a].getD i 0)) (fun i=>.bl ([bC a b,bC b c,bC c a].getD i false)) ?_ ?_ ?_⟩
  ·intro i x e
   match i,e with
   | 0,e=>exact⟨m0,(ZG e).symm,w0⟩
   | 1,e=>exact⟨m1,(ZG e).symm,w1⟩
   | 2,e=>exact⟨m2,(ZG e).symm,w2⟩
   | n+3,e=>cases e
  ·intro i H' Q' hi g k
   obtain⟨x,y,ex,ey,hx,hy,x0,ec⟩:∃ x y:Int,[a,b,c].getD i 0=x/\[b,c,a].getD i 0=y/\mF x/\mF y/\x≠0/\[bC a b,bC b c,bC c a].getD i false=bC x y:=by
    have Xi:i<3:=hi
    obtain rfl|rfl|rfl:i=0\/i=1\/i=2:=by omega
    ·exact⟨a,b,rfl,rfl,a6,b6,hs.1.1,rfl⟩
    ·exact⟨b,c,rfl,rfl,b6,c6,hs.2.1.1,rfl⟩
    ·exact⟨c,a,rfl,rfl,c6,a6,hs.2.2.1,rfl⟩
   rw[ex,ey]
   refine⟨_,rfl,_,rfl,x,y,rfl,big hx,big hy,fun z H2 gg s' t' g2 hz g0 eg ⟨u1,v1⟩ ⟨u2,v2⟩ _ _=>⟨z,_,_,_,rfl,rfl,aO.of hz,rfl,rfl,?_⟩⟩
   have kk:=k H2 g2
   have e:bC x y=decide (V.int gg=V.int 1):=OH ⟨fun h=>Le eg (aL (bX h)),fun h=>aay (aai V.int (gcd_one h x0 g0 ⟨u1,by rw[ZX];exact v1⟩ ⟨u2,by rw[ZX];exact v2⟩))⟩
   have fin:Q' (.bl (decide (V.int gg=V.int 1))) H2:=by
    rw[<- e,<- ec]
    exact kk
   exact fin
  ·intro l2 H2 g2 _ tR
   refine⟨l2,[bC a b,bC b c,bC c a],rfl,tR,q _ _ (f0.trans (g1.trans (e0.trans (e1.trans (e2.trans (e3.trans g2)))))) ?_⟩
   rw[Ld,uM,uM,uM,AF]
   exact⟨fun h=>⟨hs,h⟩,fun h=>h.2⟩
 ·refine IM (ac3.mpr fun h=>hs (by rw[Ld,lJ,lJ,lJ] at h;exact h)) ?_
  exact q _ _ (f0.trans g1) ⟨fun z=>(ZJ z).elim,fun P=>absurd (AF.mp P).1 hs⟩
theorem sd (F:Fn K mg "bad_places" jr)(T:Txt K mg t)(lN:aV P w K mg base aU 5 "is_plain" ["a","b","c"] (qT))(c9:aV P w K mg base aU 5 "places_without_point" ["a","b","c"] (yN)):aV P w K mg base (XF P w) 6 "bad_places" ["a","b","c"] (qU t.c4):=by
 refine F.Q3 r9 (fun f aZ A outer s H vs Q E hr h=>?_)
 obtain⟨a,b,c,rfl,a6,b6,c6,q1,q2⟩:=h
 refine⟨_,ai (aY (kT (fA (aj lN hr aD (ae (pv 0) (ae (pv 1) (ae (pv 2) ag)))) (fun _=>rfl))) (aq (CH T.lG T.lI rfl (ae tG ag))) aK)
  (aq (PS.vt (aE (aj c9 hr aD (ae (pv 0) (ae (pv 1) (ae (pv 2) ag))))))),?_⟩
 refine⟨_,rfl,_,rfl,_,rfl,a,b,c,rfl,a6,b6,c6,fun t H1 g1 ht=>⟨_,rfl,?_⟩⟩
 by_cases P:kC a b c
 ·refine IJ (ht.mpr P) ?_
  refine⟨_,rfl,_,rfl,_,rfl,a,b,c,rfl,P,a6,b6,c6,fun p ks H2 g2 np hq lk hp=>q1 P p _ H2 (g1.trans g2) hp ?_ (G7 hq) fun x=>EF P hq x⟩
  have:=abT (fun x=>decide (Jc.Ao (-a*c) (-b*c) x=-1)) (0::2::ks)
  exact abh this (by simp only[aaz];omega)
 ·refine IM (ac3.mpr fun h=>P (ht.mp h)) ?_
  exact⟨(d6 1),q2 P _ g1⟩
theorem xn (F:Fn K mg "power_by" lu)(T:Txt K mg t) :aV P w K mg base aU 1 "power_by" ["number","k","n"] (uI):=by
 refine F.ok dO (fun f aZ A outer s H vs Q E hr h=>?_)
 obtain⟨x,k,n,rfl,k0,n0,nL,q⟩:=h
 refine⟨_,ai (bH (i:=3) dO.nd (av aQ af (pv 2)))
  (ai (bH (i:=4) dO.nd (av aQ (pv 0) (pv 2)))
  (ai (bH (i:=5) dO.nd (pv 1))
  (ai (dE aah (aB iq (pv 5) af (aA _)) (cu (aY (aB bE (av aQ (pv 5) af) af (aA _)) (aq (bH (i:=3) dO.nd (av aQ (av az (pv 3) (pv 4)) (pv 2)))) aK)
  (ai (bH (i:=4) dO.nd (av aQ (av az (pv 4) (pv 4)) (pv 2)))
  (aq (bH (i:=5) dO.nd (av jh (pv 5) af))))))
  (aq (aE (pv 3)))))),?_⟩
 refine⟨_,rfl,_,_,rfl,rfl,n0,?_⟩
 refine⟨_,rfl,_,rfl,_,_,rfl,rfl,n0,?_⟩
 refine⟨_,rfl,?_⟩
 refine⟨fun m σ H'=>∃ (p f l:Int),σ=[some (.int x),some (.int k),some (.int n),some (.int p),some (.int f),some (.int l)]/\H=H'/\0<=p/\p<n/\0<=f/\f<n/\0<=l/\p*f^l.toNat%n=Pw.PM x k.toNat n/\m=l.toNat,
  ⟨_,1%n,x%n,k,rfl,rfl,Z6 _ (by omega),Z9 _ n0,Z6 _ (by omega),Z9 _ n0,k0,Pw.start x n k.toNat,rfl⟩,?_⟩
 rintro m σ H1 ⟨p,f,l,rfl,rfl,p0,p1,f0,f1,l0,e,rfl⟩
 refine⟨_,rfl,_,_,rfl,rfl,_,rfl,?_⟩
 refine bJ (fun c=>?_) (fun c=>?_)
 ·have lp:0<l:=bX c
  refine⟨fun σ' H2=>∃ (p f' l':Int),σ'=[some (.int x),some (.int k),some (.int n),some (.int p),some (.int f'),some (.int l')]/\H=H2/\0<=p/\p<n/\f'=f*f%n/\l'=l / 2/\p*(f*f%n)^(l.toNat / 2)%n=Pw.PM x k.toNat n,?_,?_⟩
  ·rintro σ' H2 ⟨p,f',l',rfl,rfl,p0,p1,rfl,rfl,e⟩
   refine⟨(l / 2).toNat,by omega,p,_,_,rfl,rfl,p0,p1,Z6 _ (by omega),Z9 _ n0,by omega,?_,rfl⟩
   rw[yQ l l0]
   exact e
  refine⟨fun σ' H2=>∃ (p:Int),σ'=[some (.int x),some (.int k),some (.int n),some (.int p),some (.int f),some (.int l)]/\H=H2/\0<=p/\p<n/\p*(f*f%n)^(l.toNat / 2)%n=Pw.PM x k.toNat n,?_,?_⟩
  ·refine⟨_,rfl,_,_,rfl,rfl,(by show (0:Int)<2;decide),rfl,_,rfl,?_⟩
   refine bJ (fun c=>?_) (fun c=>?_)
   ·have o:l%2=1:=aL (bX c)
    exact⟨_,rfl,_,rfl,_,_,rfl,rfl,mulL (by omega) (by omega),_,rfl,_,_,rfl,rfl,n0,_,rfl,rfl,Z6 _ (by omega),Z9 _ n0,Pw.we e (by omega)⟩
   ·have o:¬ l%2=1:=fun z=>du c (aai V.int z)
    exact⟨p,rfl,rfl,p0,p1,Pw.sR e (by omega)⟩
  ·rintro _ _ ⟨p,rfl,rfl,p0,p1,e⟩
   refine⟨_,rfl,_,rfl,_,_,rfl,rfl,mulL (by omega) (by omega),_,rfl,_,_,rfl,rfl,n0,?_⟩
   exact⟨_,rfl,_,_,rfl,rfl,⟨by decide,by decide⟩,p,_,_,rfl,rfl,p0,p1,rfl,rfl,e⟩
 ·have lz:¬ 0<l:=du c
  have Th:l=0:=by omega
  subst Th
  have e2:p=Pw.PM x k.toNat n:=Pw.done e p0 p1
  subst e2
  exact⟨_,rfl,q⟩
theorem xo (F:Fn K mg "has_root" lC)(T:Txt K mg t)(eU:aV P w K mg base aU 2 "sign_by" ["number","n"] (uz)):aV P w K mg base aU 3 "has_root" ["number","prime"] (AE):=by
 refine F.ok xf (fun f aZ A outer s H vs Q E hr h=>?_)
 obtain⟨x,p,rfl,hp,pb,q⟩:=h
 have p2:=hp.two
 refine⟨_,aq (aE (Hz (bM bE (pv 1) af (aA _)) (mM (bM iS (aj eU hr aD (ae (pv 0) (ae (pv 1) ag))) (fR dF af) (aA _))))),?_⟩
 refine⟨_,rfl,rfl,_,rfl,?_⟩
 refine bJ (fun c=>?_) (fun c=>?_)
 ·have e:p=2:=aL (bX c)
  have z:=q true H (aw.refl H) ⟨fun _=>.inl e,fun _=>rfl⟩
  exact z
 ·have e:p≠2:=fun z=>du c (aai V.int z)
  refine⟨_,rfl,_,rfl,x,p,rfl,by omega,Jc.jq hp e,by omega,fun H1 g1=>⟨_,rfl,rfl,?_⟩⟩
  refine q _ H1 g1 ⟨fun z=>.inr fun y=>neT z (aai V.int y),fun z=>?_⟩
  rcases z with z|z
  ·exact absurd z e
  ·rw[aao fun y=>z (aL y)]
   rfl
theorem jE (F:Fn K mg "least_without_root" dJ)(T:Txt K mg t)(fG:aV P w K mg base aU 3 "has_root" ["number","prime"] (AE)):aV P w K mg base aU 4 "least_without_root" ["prime"] (uJ):=by
 refine F.ok dA (fun f aZ A outer s H vs Q E hr h=>?_)
 obtain⟨p,rfl,hp,p2,q⟩:=h
 obtain⟨pp,pb,nr⟩:=q6 hp
 obtain⟨z,z2,zp,hz⟩:=nr p2
 refine⟨_,ai (bH (i:=1) dA.nd af)
  (ai (dE aah (fA (aj fG hr aD (ae (pv 1) (ae (pv 0) ag))) (fun _=>rfl)) (aq (bH (i:=1) dA.nd (av cW (pv 1) af))))
  (aq (aE (pv 1)))),?_⟩
 refine⟨fun m σ H'=>∃ k:Int,σ=[some (.int p),some (.int k)]/\aw H H'/\k<=z/\m=(z-k).toNat,⟨_,2,rfl,aw.refl H,z2,rfl⟩,?_⟩
 rintro m σ H1 ⟨k,rfl,g1,kz,rfl⟩
 refine⟨_,rfl,_,rfl,k,p,rfl,pp,by omega,fun b H2 g2 hb=>⟨_,rfl,?_⟩⟩
 refine bJ (fun c=>?_) (fun c=>?_)
 ·have kn:k≠z:=fun y=>by
   rcases hb.mp c with e|e
   ·exact p2 e
   ·rw[y] at e;exact e hz
  refine⟨fun σ' H3=>σ'=[some (.int p),some (.int (k+1))]/\H2=H3,?_,?_⟩
  ·rintro σ' H3 ⟨rfl,rfl⟩
   exact⟨(z-(k+1)).toNat,by omega,k+1,rfl,g1.trans g2,by omega,rfl⟩
  ·exact⟨_,rfl,_,_,rfl,rfl,rfl,rfl⟩
 ·refine⟨_,rfl,q k H2 (g1.trans g2) ?_⟩
  by_cases e:Jc.J k p=-1
  ·exact e
  ·exact absurd (hb.mpr (.inr e)) c
theorem j9 (F:Fn K mg "root_by_odd_prime" eh)(T:Txt K mg t)(bu:aV P w K mg base aU 1 "taken_out" ["number","prime"] (kE))(fH:aV P w K mg base aU 1 "power_by" ["number","k","n"] (uI))(dU:aV P w K mg base aU 4 "least_without_root" ["prime"] (uJ)):aV P w K mg base aU 5 "root_by_odd_prime" ["number","prime"] (uK):=by
 refine F.ok aN (fun f aZ A outer s H vs Q E hr h=>?_)
 obtain⟨x,p,rfl,hp,p2,hx,q⟩:=h
 obtain⟨pp,pb,nr⟩:=q6 hp
 have po:=Jc.jq pp p2
 have OQ:=pp.two
 have LB:=qS
 have pL:p.natAbs<=Lm:=by omega
 refine⟨_,ai (bH (i:=2) aN.nd (aW (cw K) (aj bu hr aD (ae (av d8 (pv 1) af) (ae af ag))) af))
  (ai (bH (i:=3) aN.nd (aj fH hr aD (ae (pv 0) (ae (av jh (av cW (pv 2) af) af) (ae (pv 1) ag)))))
  (ai (bH (i:=4) aN.nd (aj fH hr aD (ae (pv 0) (ae (pv 2) (ae (pv 1) ag)))))
  (ai (bH (i:=5) aN.nd (aj fH hr aD (ae (aj dU hr aD (ae (pv 1) ag)) (ae (pv 2) (ae (pv 1) ag)))))
  (ai (bH (i:=6) aN.nd (av jh (av de (av d8 (pv 1) af) (pv 2)) af))
  (ai (dE aah (aB iq (pv 6) af (aA _)) (cu (aY (aB iS (aj fH hr aD (ae (pv 4) (ae (pv 6) (ae (pv 1) ag)))) af (aA _)) (ai (bH (i:=3) aN.nd (av aQ (av az (pv 3) (pv 5)) (pv 1)))
  (aq (bH (i:=4) aN.nd (av aQ (av az (av az (pv 4) (pv 5)) (pv 5)) (pv 1))))) aK)
  (ai (bH (i:=5) aN.nd (av aQ (av az (pv 5) (pv 5)) (pv 1)))
  (aq (bH (i:=6) aN.nd (av jh (pv 6) af))))))
  (aq (aE (pv 3)))))))),?_⟩
 refine⟨_,rfl,_,_,rfl,rfl,p-1,2,rfl,by omega,by decide,by decide,fun r H1 o l g1 IT Fc o0 zl l0 lx sp sn=>?_⟩
 have lp:=sp (by omega)
 have lo:l%2=1:=by
  have z:l.fmod 2=l%2:=acL l (by decide)
  rw[z] at zl
  omega
 obtain⟨L,rfl⟩:∃ L:Nat,l=(L:Int):=⟨l.toNat,by omega⟩
 obtain⟨E1,rfl⟩:∃ E1:Nat,o=(E1:Int):=⟨o.toNat,by omega⟩
 have pe:p-1=2^E1*(L:Int):=Fc.eq
 have e1:1<=E1:=by
  rcases acN E1 with z|z
  ·subst z
   rw[aaB,aaI] at pe
   omega
  ·exact z
 refine⟨r,_,_,_,rfl,rfl,aO.of IT,rfl,?_⟩
 refine⟨_,rfl,_,rfl,_,_,rfl,rfl,_,_,rfl,rfl,⟨by decide,by decide⟩,_,rfl,x,_,p,rfl,(by show 0<=((L:Int)+1) / 2;omega),by omega,pL,?_⟩
 refine⟨_,rfl,_,rfl,_,rfl,x,_,p,rfl,(by omega),by omega,pL,?_⟩
 refine⟨_,rfl,p,rfl,hp,p2,fun z H2 g2 hz=>⟨_,rfl,_,rfl,z,_,p,rfl,(by omega),by omega,pL,?_⟩⟩
 have T:=Jc.BD (n:=x) (z:=z) (o:=L) (e:=E1) pp po hx hz (by omega) pe e1
 have hdiv:Int.fdiv (p-1) (L:Int)=2^E1:=by
  rw[pe,abr _ (by omega),Int.mul_ediv_cancel _ (by omega)]
 refine⟨_,rfl,_,_,rfl,rfl,_,rfl,_,_,rfl,rfl,⟨by omega,ZM (log2_lt_of (k:=64) (by omega) (by decide)) (by decide)⟩,_,_,rfl,rfl,⟨by decide,by decide⟩,?_⟩
 have hh:Int.fdiv (p-1) (L:Int) / 4=((2^E1 / 4:Nat):Int):=by
  rw[hdiv,Int.natCast_ediv,adT]
  rfl
 have r1:((((L:Int)+1) / 2)).toNat=(L+1) / 2:=by omega
 have Hr:∀ (u:Int) (k:Nat),0<=Pw.PM u k p/\Pw.PM u k p<p:=fun u k=>⟨Pw.BB (by omega),Pw.NU (by omega)⟩
 refine⟨fun m σ H'=>∃ (ro ov tu:Int) (hf:Nat),σ=[some (.int x),some (.int p),some (.int (L:Int)),some (.int ro),some (.int ov),some (.int tu),some (.int (hf:Int))]/\H2=H'/\Jc.Cd p x ro ov tu hf/\(0<=ro/\ro<p)/\(0<=ov/\ov<p)/\(0<=tu/\tu<p)/\m=hf,
  ⟨_,Pw.PM x ((L+1) / 2) p,Pw.PM x L p,Pw.PM z L p,2^E1 / 4,?_,rfl,T,Hr _ _,Hr _ _,Hr _ _,rfl⟩,?_⟩
 ·rw[<- r1,<- hh]
  rfl
 rintro m σ H3 ⟨ro,ov,tu,hf,rfl,rfl,T,OR,Tj,Zt,hm⟩
 refine⟨_,rfl,_,_,rfl,rfl,_,rfl,?_⟩
 refine bJ (fun c=>?_) (fun c=>?_)
 ·have h0:hf≠0:=by
   have c1:(0:Int)<(hf:Int):=bX c
   omega
  have one:(1:Int)%p=1:=abc (by decide) (by omega)
  refine⟨fun σ' H4=>∃ (ro ov:Int),σ'=[some (.int x),some (.int p),some (.int (L:Int)),some (.int ro),some (.int ov),some (.int (tu*tu%p)),some (.int ((hf:Int) / 2))]/\H2=H4/\Jc.Cd p x ro ov (tu*tu%p) (hf / 2)/\(0<=ro/\ro<p)/\(0<=ov/\ov<p),?_,?_⟩
  ·rintro σ' H4 ⟨ro,ov,rfl,rfl,T,OR,Tj⟩
   refine⟨hf / 2,by omega,ro,ov,_,hf / 2,?_,rfl,T,OR,Tj,⟨Z6 _ (by omega),Z9 _ (by omega)⟩,rfl⟩
   rw[Int.natCast_ediv]
   rfl
  refine⟨fun σ' H4=>∃ (ro ov:Int),σ'=[some (.int x),some (.int p),some (.int (L:Int)),some (.int ro),some (.int ov),some (.int tu),some (.int (hf:Int))]/\H2=H4/\Jc.Cd p x ro ov (tu*tu%p) (hf / 2)/\(0<=ro/\ro<p)/\(0<=ov/\ov<p),?_,?_⟩
  ·refine⟨_,rfl,_,rfl,_,rfl,ov,_,p,rfl,by omega,by omega,pL,rfl,_,rfl,?_⟩
   refine bJ (fun c2=>?_) (fun c2=>?_)
   ·have d:¬ ov^hf%p=1%p:=fun y=>neT c2 (aai V.int (by rw[aaE,Pw.fv,y,one]))
    refine⟨_,rfl,_,rfl,_,_,rfl,rfl,cK (by omega) (by omega),_,rfl,_,_,rfl,rfl,(by show 0<p;omega),?_⟩
    refine⟨_,rfl,_,rfl,_,_,rfl,rfl,cK (by omega) (by omega),_,rfl,_,_,rfl,rfl,cK (by omega) (by omega),_,rfl,_,_,rfl,rfl,(by show 0<p;omega),?_⟩
    exact⟨_,_,rfl,rfl,T.turn pp h0 d,⟨Z6 _ (by omega),Z9 _ (by omega)⟩,⟨Z6 _ (by omega),Z9 _ (by omega)⟩⟩
   ·have d:ov^hf%p=1%p:=by
     have y:=aL (Oy c2)
     rw[aaE,Pw.fv] at y
     rw[y,one]
    exact⟨ro,ov,rfl,rfl,T.keep h0 d,OR,Tj⟩
  ·rintro _ _ ⟨ro,ov,rfl,rfl,T',Tn,To⟩
   refine⟨_,rfl,_,rfl,_,_,rfl,rfl,cK (by omega) (by omega),_,rfl,_,_,rfl,rfl,(by show 0<p;omega),?_⟩
   exact⟨_,rfl,_,_,rfl,rfl,⟨by decide,by decide⟩,ro,ov,rfl,rfl,T',Tn,To⟩
 ·have h0:hf=0:=by
   have c1:¬ (0:Int)<(hf:Int):=du c
   omega
  subst h0
  exact⟨_,rfl,q ro _ (g1.trans g2) OR.1 OR.2 (ZY.mp T.done)⟩
theorem nW (F:Fn K mg "root_by_prime" gw)(T:Txt K mg t)(ei:aV P w K mg base aU 5 "root_by_odd_prime" ["number","prime"] (uK)):aV P w K mg base aU 6 "root_by_prime" ["number","prime"] (uL):=by
 refine F.ok nO (fun f aZ A outer s H vs Q E hr h=>?_)
 obtain⟨x,p,rfl,hp,hx,q⟩:=h
 obtain⟨pp,pb,nr⟩:=q6 hp
 have OQ:=pp.two
 refine⟨_,ai (aY (PW.pt (zj (aB bE (pv 1) af (aA _)) (tJ (aB bE (av aQ (pv 0) (pv 1)) af (aA _))))) (aq (aE (av aQ (pv 0) (pv 1)))) aK)
  (aq (aE (aj ei hr aD (ae (pv 0) (ae (pv 1) ag))))),?_⟩
 have x0:=Z6 x (show p≠0 by omega)
 have x1:=Z9 x (show 0<p by omega)
 refine⟨_,rfl,rfl,_,rfl,?_⟩
 refine bJ (fun c=>jK ?_) (fun c=>⟨_,rfl,_,rfl,_,_,rfl,rfl,(by show 0<p;omega),rfl,_,rfl,?_⟩)
 ·have e:p=2:=aL (bX c)
  subst e
  refine⟨_,rfl,_,rfl,_,_,rfl,rfl,(by show (0:Int)<2;decide),q _ H (aw.refl H) x0 x1 ?_⟩
  refine ZY.mp ?_
  rcases (show x%2=0\/x%2=1 by omega) with h|h<;>rw[h]<;>rfl
 ·have e:p≠2:=fun z=>du c (aai V.int z)
  refine bJ (fun c2=>?_) (fun c2=>?_)
  ·have e0:x%p=0:=aL (bX c2)
   refine⟨_,rfl,_,rfl,_,_,rfl,rfl,(by show 0<p;omega),q _ H (aw.refl H) x0 x1 ?_⟩
   rw[e0]
   exact ZY.mp (by rw[e0];exact Int.zero_emod p)
  ·have e0:x%p≠0:=fun z=>du c2 (aai V.int z)
   have u:=Jc.ue pp (l:=x) (fun d=>e0 (aax d))
   have j1:Jc.J x p=1:=by
    rcases hx with z|z
    ·exact absurd z e
    ·rcases Jc.Ko x p with y|y|y
     ·exact y
     ·rw[y] at u;cases u
     ·exact absurd y z
   exact⟨_,rfl,_,rfl,x,p,rfl,hp,e,j1,fun w H1 g1 w0 w1 hw=>q w H1 g1 w0 w1 hw⟩
theorem zc (F:Fn K mg "back_by" nA)(T:Txt K mg t)(bA:aV P w K mg base aU 2 "shares_of" ["one","other"] (i6)):aV P w K mg base aU 3 "back_by" ["number","n"] (uO):=by
 refine F.ok q9 (fun f aZ A outer s H vs Q E hr h=>?_)
 obtain⟨x,n,rfl,bx,bn,n0,co,q⟩:=h
 refine⟨_,ai (bH (i:=2) q9.nd (aj bA hr aD (ae (pv 0) (ae (pv 1) ag))))
  (ai (aY (aB iS (aW (cw K) (pv 2) af) af (aA _)) iR aK)
  (aq (aE (av aQ (aW (cw K) (pv 2) af) (pv 1))))),?_⟩
 refine⟨_,rfl,_,rfl,x,n,rfl,bx,bn,fun p H1 g s1 t1 g1 hp g0 eg d1 d2 b1 b2=>?_⟩
 obtain⟨u1,e1⟩:=d1
 obtain⟨u2,e2⟩:=d2
 obtain rfl:=co g g0 ⟨u1,by rw[ZX];exact e1⟩ ⟨u2,by rw[ZX];exact e2⟩
 refine⟨_,rfl,p,_,_,_,rfl,rfl,aO.of hp,rfl,rfl,_,rfl,zG rfl ?_⟩
 refine⟨_,rfl,p,_,_,_,rfl,rfl,aO.of hp,rfl,_,rfl,_,_,rfl,rfl,n0,q _ _ g1 (EK n0).1 (EK n0).2 ?_⟩
 have em:=Int.mul_ediv_add_emod s1 n
 generalize s1%n=r at *
 refine⟨-(x*(s1 / n))-t1,?_⟩
 rw[show r=s1-n*(s1 / n) by omega,Int.mul_sub,ZX x s1]
 grind
theorem pA (F:Fn K mg "joined_rests" hX)(T:Txt K mg t)(bA:aV P w K mg base aU 2 "shares_of" ["one","other"] (i6)):aV P w K mg base aU 3 "joined_rests" ["r","n","s","m"] (pP):=by
 refine F.ok dh (fun f aZ A outer s H vs Q E hr h=>?_)
 obtain⟨r,n,s',p,rfl,n1,nb,p2,pb,co,rb,sb,q⟩:=h
 have LB:=qS
 refine⟨_,ai (bH (i:=4) dh.nd (aj bA hr aD (ae (pv 1) (ae (pv 3) ag))))
  (ai (bH (i:=5) dh.nd (aW (cw K) (pv 4) af))
  (ai (aY (aB iS (av aQ (av d8 (pv 2) (pv 0)) (pv 5)) af (aA _)) iR aK)
  (ai (bH (i:=6) dh.nd (av az (av de (pv 1) (pv 5)) (pv 3)))
  (ai (bH (i:=7) dh.nd (av de (av d8 (pv 2) (pv 0)) (pv 5)))
  (aq (aE (aS (ae (av aQ (av cW (pv 0) (av az (av az (aW (cw K) (pv 4) af) (pv 1)) (pv 7))) (pv 6)) (ae (pv 6) ag))))))))),?_⟩
 refine⟨_,rfl,_,rfl,n,p,rfl,by omega,by omega,fun t1 H1 g sh th g1 ht g0 e dn dm bs bt=>?_⟩
 have gone:=EL g0 dn dm co
 subst gone
 refine⟨_,rfl,t1,_,_,_,rfl,rfl,aO.of ht,rfl,?_⟩
 refine⟨_,rfl,_,rfl,_,_,rfl,rfl,_,rfl,_,_,rfl,rfl,(by show (0:Int)<1;decide),rfl,_,rfl,zG (aai V.int (Int.emod_one _)) ?_⟩
 refine⟨_,rfl,_,rfl,_,_,rfl,rfl,⟨by decide,by decide⟩,_,rfl,_,_,rfl,rfl,cK (by omega) (by omega),?_⟩
 refine⟨_,rfl,_,rfl,_,_,rfl,rfl,_,rfl,_,_,rfl,rfl,⟨by decide,by decide⟩,?_⟩
 have np:=aat (show 0<n by omega) (show 0<p by omega)
 have e1:Int.fdiv n 1*p=n*p:=by rw[fdiv_one]
 have e2:Int.fdiv (s'-r) 1=s'-r:=fdiv_one _
 refine⟨_,rfl,_,rfl,t1,_,_,_,rfl,rfl,aO.of ht,rfl,_,rfl,_,_,rfl,rfl,cK (by omega) (by omega),_,rfl,_,_,rfl,rfl,cK (by rw[e2];omega) (by rw[e2];omega),_,_,rfl,rfl,_,rfl,_,_,rfl,rfl,(by show 0<Int.fdiv n 1*p;rw[e1];exact np),_,rfl,(d6 2),fun t2 Tp=>?_⟩
 have fit:=Jc.BG (Jc.D2 (r:=r) (s:=s') e)
 have z0:=Z6 (r+sh*n*(s'-r)) (show n*p≠0 by omega)
 have z1:=Z9 (r+sh*n*(s'-r)) np
 refine q t2 _ ((r+sh*n*(s'-r))%(n*p)) (g1.trans (au Tp _)) ?_ z0 z1 fit.1 fit.2
 rw[ah]
 show some (HO.tup [.int ((r+sh*n*Int.fdiv (s'-r) 1)%(Int.fdiv n 1*p)),.int (Int.fdiv n 1*p)])=_
 rw[e1,e2]
theorem nX (F:Fn K mg "root_or_prime" gv)(T:Txt K mg t)(bN:aV P w K mg base aU 2 "prime_parts" ["number"] (jZ))(fG:aV P w K mg base aU 3 "has_root" ["number","prime"] (AE))(b9:aV P w K mg base aU 3 "joined_rests" ["r","n","s","m"] (pP))(gz:aV P w K mg base aU 6 "root_by_prime" ["number","prime"] (uL)):aV P w K mg base aU 7 "root_or_prime" ["number","n"] (yR):=by
 refine F.ok cN (fun f aZ A outer s H vs Q E hr h=>?_)
 obtain⟨x,n,rfl,n1,nb,sf,rt,q⟩:=h
 refine⟨_,ai (bH (i:=2) cN.nd (aS (ae af (ae af ag))))
  (ai (gh aah rfl (Bh K (aj bN hr aD (ae (pv 1) ag))) (Px K (cM (sM (i:=3) cN.nd) (cM (sM (i:=4) cN.nd) kq))) (ai (aY (kT (fA (aj fG hr aD (ae (pv 0) (ae (pv 3) ag))) (fun _=>rfl))) (aq (aE (aS (ae tG (ae (pv 3) ag))))) aK)
  (aq (bH (i:=2) cN.nd (aj b9 hr aD (ae (aW (cw K) (pv 2) af) (ae (aW (cw K) (pv 2) af) (ae (aj gz hr aD (ae (pv 0) (ae (pv 3) ag))) (ae (pv 3) ag)))))))))
  (aq (aE (aS (ae tG (ae (aJ (AQ rfl) rfl T.ID IH (ae (aW (cw K) (pv 2) af) (ae (av d8 (pv 1) (aW (cw K) (pv 2) af)) ag))) ag)))))),?_⟩
 refine⟨(d6 2),fun j0 Xo=>?_⟩
 have g0:=au Xo (.tup [.int 0,.int 1])
 refine⟨_,rfl,n,rfl,n1,by omega,fun pl rs xs H1 g1 np hl tl told=>?_⟩
 refine⟨pl,rfl,⟨_,aR.of hl⟩,gY (K:=K) (a:=pl) (xs:=rs.map V.ref) (fun i σ H'=>∃ (j:Addr) (y:Int) (pr of:Option V),σ=[some (.int x),some (.int n),some (.ref j),pr,of]/\aw H1 H'/\H' j=some (.tup [.int y,.int (Pr.aX (xs.take i))])/\0<=y/\y<Pr.aX (xs.take i)/\(y*y-x)%Pr.aX (xs.take i)=0)
  ⟨j0,0,none,none,rfl,aw.refl H1,g1 _ _ ah,by decide,(by show (0:Int)<1;decide),(by show (0*0-x)%1=0;exact Int.emod_one _)⟩ (fun i σ H2 _ ⟨_,_,_,_,_,g,_⟩=>aR.of (g _ _ hl)) ?_ ?_⟩
 ·rintro i v σ H2 hi ⟨j,y,pr,of,rfl,g2,hj,y0,y1,hy⟩
  obtain⟨r,kJ,rfl⟩:∃ r,rs[i]?=some r/\v=.ref r:=by
   rw[ZU] at hi
   cases e:rs[i]? with
   | none=>rw[e] at hi;cases hi
   | some r=>rw[e] at hi;exact⟨r,rfl,(ZG hi).symm⟩
  obtain⟨⟨p,o⟩,hx,ht⟩:=tl.get kJ
  obtain⟨o1,pin,Xp⟩:=OF sf nb n1 told (aau hx)
  have nd:=Jc.ahead told hx
  have Xq:o=1:=o1
  subst Xq
  obtain⟨pp,pb,_⟩:=q6 pin
  have OQ:=pp.two
  have N1:=Pr.iY (xs:=xs.take i) fun z hz=>told.all z (adt hz)
  have NB:Pr.aX (xs.take i)<=n:=by
   have e:Pr.aX xs=Pr.aX (xs.take i)*Pr.aX (xs.drop i):=by rw[<- Pr.iX,List.take_append_drop]
   have d1:=Pr.iY (xs:=xs.drop i) fun z hz=>told.all z (List.mem_of_mem_drop hz)
   rw[told.prod] at e
   have:=Pr.gk d1 (aaV (Pr.aX (xs.take i))) (by omega)
   omega
  refine⟨r,_,rfl,aO.of (g2 _ _ ht),rfl,_,_,rfl,_,_,rfl,rfl,?_⟩
  refine⟨_,rfl,_,rfl,x,p,rfl,pp,by omega,fun b H3 g3 hb=>⟨_,rfl,?_⟩⟩
  cases b with
  | false=>
   have:=hb.mpr (rt p pp Xp)
   cases this
  | true=>
   have ym:=hb.mp rfl
   refine ik ?_
   have U6:=g3 _ _ hj
   refine⟨_,rfl,j,_,_,_,rfl,rfl,aO.of U6,rfl,_,rfl,j,_,_,_,rfl,rfl,aO.of U6,rfl,_,rfl,_,rfl,x,p,rfl,pin,ym,fun w H4 g4 w0 w1 hw=>?_⟩
   refine⟨_,rfl,y,Pr.aX (xs.take i),w,p,rfl,N1,by omega,by omega,by omega,G8 pp nd,by omega,by omega,fun t2 H5 y' g5 Tp a0 a1 b1 b2=>?_⟩
   have e:Pr.aX (xs.take (i+1))=Pr.aX (xs.take i)*p:=by
    rw[nJ hx,Pr.iX,Pr.mZ]
    show _*p^1=_
    rw[ZZ,aaB,aaI]
   refine⟨t2,y',_,_,rfl,((g2.trans g3).trans g4).trans g5,?_,a0,?_,?_⟩
   ·rw[e];exact Tp
   ·rw[e];exact a1
   ·rw[e];exact Jc.GS pp nd (Jc.D3 b1 hy) (Jc.D3 b2 hw)
 ·rintro σ H2 ⟨j,y,pr,of,rfl,g2,hj,y0,y1,hy⟩
  have e:xs.take (rs.map V.ref).length=xs:=by rw[ZR,tl.len,abj]
  rw[e,told.prod] at hj y1 hy
  have sm:=Jc.yu (by omega) y0 y1 hy
  have Tq:=sm (if n-y<y then n-y else y) (by split<;>split<;>omega)
  exact⟨_,rfl,j,_,_,_,rfl,rfl,aO.of hj,rfl,_,rfl,_,rfl,j,_,_,_,rfl,rfl,aO.of hj,rfl,_,_,rfl,rfl,y,n-y,rfl,(d6 2),fun t1 Xr=>q t1 _ _ (((g0.trans g1).trans g2).trans (au Xr _)) ah Tq.1 Tq.2.1 Tq.2.2⟩
theorem nY {f:Addr}{fd:FuncData}(F:zF K "__init__" "BadPlace.__init__" cm f fd)(T:Txt K mg t) :ji P w K mg base aU 1 f fd ["self","place"] (zL t.c6 "place"):=by
 refine F.ok nQ (fun vs H Q E h=>?_) (fun aZ A outer s H vs Q E hr h=>?_)
 ·obtain⟨_,_,rfl,_⟩:=h
  rfl
 obtain⟨e,v,rfl,he,q⟩:=h
 refine⟨_,ai (km (vL rfl T.mh T.y1 T.y2 T.y3 (ae (pv 0) (ae tG ag)))) (aq (A7 (pv 0) (pv 1) rfl)),?_⟩
 refine⟨_,rfl,e,t.c6,t.i5,_,rfl,he,T.js,?_⟩
 refine⟨_,rfl,_,rfl,e,t.c6,rfl,ah,T.uw,fun dx oY=>?_⟩
 have ne:dx≠e:=fun z=>by subst z;rw[ah] at oY;cases oY
 refine q dx _ ah (by rw[aG ne];exact ah) fun b o nb hb=>?_
 have bd:b≠dx:=fun z=>by subst z;rw[aG nb] at oY;rw[oY] at hb;cases hb
 rw[aG nb,aG bd,aG nb]
 exact hb
theorem xp (F:Fn K mg "ratio_by" lE)(T:Txt K mg t)(gF:aV P w K mg base aU 7 "root_or_prime" ["number","n"] (yR))(nZ:aV P w K mg base aU 3 "back_by" ["number","n"] (uO)):aV P w K mg base aU 8 "ratio_by" ["one","other","n"] (EM):=by
 refine F.ok xg (fun f aZ A outer s H vs Q E hr h=>?_)
 obtain⟨x,y,n,rfl,bx,rk,n1,nb,sf,rt,co,q⟩:=h
 have LB:=qS
 refine⟨_,aq (aE (av az (aW (cw K) (aj gF hr aD (ae (av az (fR dF (pv 0)) (pv 1)) (ae (pv 2) ag))) af) (aj nZ hr aD (ae (pv 0) (ae (pv 2) ag))))),?_⟩
 refine⟨_,rfl,_,rfl,_,rfl,_,_,rfl,rfl,cK (by omega) (by omega),_,rfl,-x*y,n,rfl,n1,by omega,sf,rt,fun tw w H1 g1 ht w0 w1 hw=>?_⟩
 refine⟨tw,_,_,_,rfl,rfl,aO.of ht,rfl,_,rfl,_,rfl,x,n,rfl,by omega,by omega,by omega,co,fun r H2 g2 r0 r1 kJ=>?_⟩
 refine⟨_,_,rfl,rfl,cK (by omega) (by omega),q _ _ (g1.trans g2) (ZO w0 r0) ?_ (BX hw kJ)⟩
 exact abD (aaJ (show w<=1000 by omega) (show r<=1000 by omega) r0 (by decide)) (by decide)
theorem mw (F:Fn K mg "fitted_vectors" fD)(T:Txt K mg t)(ie:aV P w K mg base aU 8 "ratio_by" ["one","other","n"] (EM))(b9:aV P w K mg base aU 3 "joined_rests" ["r","n","s","m"] (pP)):aV P w K mg base aU 9 "fitted_vectors" ["a","b","c"] (yS):=by
 refine F.ok dB (fun f aZ A outer s H vs Q E hr h=>?_)
 obtain⟨a,b,c,rfl,a3,b3,c3,pl,nb,q⟩:=h
 refine⟨_,ai (bH (i:=3) dB.nd (aj ie hr aD (ae (pv 1) (ae (pv 2) (ae (aJ bQ rfl T.fW fX (ae (pv 0) ag)) ag)))))
  (ai (bH (i:=4) dB.nd (aj ie hr aD (ae (pv 0) (ae (pv 2) (ae (aJ bQ rfl T.fW fX (ae (pv 1) ag)) ag)))))
  (ai (bH (i:=5) dB.nd (aj ie hr aD (ae (pv 0) (ae (pv 1) (ae (aJ bQ rfl T.fW fX (ae (pv 2) ag)) ag)))))
  (aq (aE (bG (ae (aS (ae (av az (pv 1) (pv 2)) (ae af (ae af ag)))) (ae (aS (ae (aW (cw K) (aj b9 hr aD (ae af (ae (aJ bQ rfl T.fW fX (ae (pv 1) ag)) (ae (av az (pv 5) (pv 0)) (ae (aJ bQ rfl T.fW fX (ae (pv 2) ag)) ag))))) af) (ae (pv 0) (ae af ag)))) (ae (aS (ae (aW (cw K) (aj b9 hr aD (ae (pv 4) (ae (aJ bQ rfl T.fW fX (ae (pv 1) ag)) (ae (av az (pv 5) (pv 3)) (ae (aJ bQ rfl T.fW fX (ae (pv 2) ag)) ag))))) af) (ae (pv 3) (ae af ag)))) ag)))))))),?_⟩
 have A1:=kF pl.a0
 have B1:=kF pl.b0
 have C1:=kF pl.c0
 have A2:=oR a3
 have B2:=oR b3
 have C2:=oR c3
 refine⟨_,rfl,_,rfl,_,rfl,_,rfl,b,c,aF a,rfl,b3,c3,A1,A2,yM ⟨pl.a0,pl.sa⟩,fun p hp=>(yU nb hp).1,(wX pl).sym.G9,fun s' H1 g1 s0 s1 hs=>?_⟩
 refine⟨_,rfl,_,rfl,_,rfl,_,rfl,a,c,aF b,rfl,a3,c3,B1,B2,yM ⟨pl.b0,pl.sb⟩,fun p hp=>(yU nb hp).2.1,(wX pl).G9,fun t' H2 g2 t0 t1 ht=>?_⟩
 refine⟨_,rfl,_,rfl,_,rfl,_,rfl,a,b,aF c,rfl,a3,b3,C1,C2,yM ⟨pl.c0,pl.sc⟩,fun p hp=>(yU nb hp).2.2,(wX pl.fO.fO).sym.G9,fun u' H3 g3 u0 u1 hu=>?_⟩
 unfold K3 at a3 b3 c3
 refine⟨_,rfl,_,rfl,_,_,rfl,rfl,cK (by omega) (by omega),(d6 3),fun p1 n1=>?_⟩
 have f1:=au n1 (.tup [.int (b*c),.int 0,.int 0])
 have ua:(u'*a).natAbs<=1000000000:=by
  rw[Z7]
  exact ZV (abd (show u'.natAbs<=1000000 by omega) a3) (by decide)
 have us:(u'*s').natAbs<=1000000000000:=by
  rw[Z7]
  exact ZV (abd (show u'.natAbs<=1000000 by omega) (show s'.natAbs<=1000000 by omega)) (by decide)
 have U7:xA (aF b) (aF c):=(wX pl.fO).OI.G9
 refine⟨_,rfl,_,rfl,_,rfl,_,rfl,_,_,rfl,rfl,cK (by omega) (by omega),_,rfl,_,rfl,0,aF b,u'*a,aF c,rfl,B1,by omega,C1,by omega,U7,by decide,by omega,fun j1 H5 x1 g5 Xs z0 z1 e1 e2=>?_⟩
 refine⟨j1,_,_,_,rfl,rfl,aO.of Xs,rfl,_,rfl,(d6 3),fun p2 n2=>?_⟩
 have f2:=au n2 (.tup [.int x1,.int a,.int 0])
 refine⟨_,rfl,_,rfl,_,rfl,_,rfl,_,rfl,_,_,rfl,rfl,cK (by omega) (by omega),_,rfl,_,rfl,t',aF b,u'*s',aF c,rfl,B1,by omega,C1,by omega,U7,by omega,by omega,fun j2 H7 x2 g7 PC y0 y1 e3 e4=>?_⟩
 refine⟨j2,_,_,_,rfl,rfl,aO.of PC,rfl,_,rfl,(d6 3),fun p3 n3=>?_⟩
 have f3:=au n3 (.tup [.int x2,.int s',.int 1])
 refine⟨(d6 3),fun l nl=>?_⟩
 have f4:=au nl (.lst [.ref p1,.ref p2,.ref p3])
 have bc:=ER (b:=b) (c:=c) b3 c3
 have BC:=kG (b:=b) (c:=c) b3 c3
 have d1:b∣x1:=by
  have:=lK (AH e1)
  rwa[ado] at this
 obtain⟨l1,l2,U8,m⟩:=Ha (t:=t') (s:=s') d1 (lK (AH e2)) (lK (AH e3)) (lK (AH e4))
 refine q l _ _ _ _ s' t' u' _ ((g1.trans (g2.trans g3)).trans (f1.trans (g5.trans (f2.trans (g7.trans (f3.trans f4)))))) ah (.cons ((g5.trans (f2.trans (g7.trans (f3.trans f4)))) _ _ ah) (.cons ((g7.trans (f3.trans f4)) _ _ ah) (.cons (f4 _ _ ah) .nil)))
  ⟨lK hs,lK ht,lK hu,EN pl⟩ l1 l2 U8 m ⟨bc,SV,SV⟩ ⟨?_,?_,SV⟩ ⟨?_,?_,in1⟩
 ·show -1000000<=x1/\x1<=1000000
  omega
 ·show -1000000<=a/\a<=1000000
  omega
 ·show -1000000<=x2/\x2<=1000000
  omega
 ·show -1000000<=s'/\s'<=1000000
  omega
theorem mz (F:Fn K mg "evened_vectors" fE)(T:Txt K mg t)(bL:aV P w K mg base aU 1 "worth_of" ["Q","P"] (tq K))(bW:aV P w K mg base aU 1 "stretched" ["P","times"] (wU K))(fQ:aV P w K mg base aU 1 "added" ["one","other"] (qP K)):aV P w K mg base aU 2 "evened_vectors" ["Q","vectors"] (ET):=by
 refine F.ok dC (fun f aZ A outer s H vs Q E hr h=>?_)
 obtain⟨q0,l,ws,v1,v2,IU,a,b,c,s',t',u',rfl,hQ,hl,hw,a3,b3,c3,n0,F3,L1,L2,L3,hm,i1,i2,i3,q⟩:=h
 have LB:=qS
 refine⟨_,ai (bH (i:=2) dC.nd (av az (av az (aW (cw K) (pv 0) af) (aW (cw K) (pv 0) af)) (aW (cw K) (pv 0) af)))
  (ai (De (k:=3) dC.nd rfl (Or.inl rfl) rfl rfl (aM.gen (cl:=[("product",_),("Q",_)]) ["Q","product"] [0,2] [(".0",.local),("vector",.local),("worth_of",.globalImplicit),("Q",.cell),("product",.cell)] rfl) (Bh K (pv 1)) (fun C s0 H0 fp pins=>aB bE (av aQ (av de (aj bL hr aD (ae (pv 1) (ae (pv 0) ag))) (pv 2)) af) af (aA _)) (fun C s0 H0 fp pins=>pv 0) (Or.inl rfl))
  (ai (bH (i:=4) dC.nd (fC rfl (aM.gen (cl:=[("product",_),("Q",_)]) ["Q","product"] [0,2] [(".0",.local),("vector",.local),("worth_of",.globalImplicit),("Q",.cell),("product",.cell)] rfl) (Bh K (pv 1)) (fun C s0 H0 fp pins=>aB bE (av aQ (av de (aj bL hr aD (ae (pv 1) (ae (pv 0) ag))) (pv 2)) af) af (aA _)) (fun C s0 H0 fp pins=>pv 0)))
  (aq (aE (av p8 (av p8 (pv 3) (bG (ae (aj bW hr aD (ae (aW (gi K) (pv 4) af) (ae af ag))) ag))) (eH rfl (aM.gen (cl:=[("odd",_)]) ["odd"] [4] [(".0",.local),("vector",.local),("added",.globalImplicit),("odd",.cell)] rfl) (Bh K (Cz FX (pv 4) (FU af) FT)) (fun C s0 H0 fp pins=>aj fQ hr aD (ae (pv 0) (ae (aW (gi K) (pv 1) af) ag))))))))),?_⟩
 have wl:ws.length=3:=hw.len
 have bF:BF 600 (dg a b c):=(ES a3 b3 c3).mono
 have bP:∀ {i:Nat}{P:P3},[v1,v2,IU][i]?=some P->BP 600 P:=fun {i P} e=>by
  match i,e with
  | 0,e=>cases e;exact (qV i1 (by decide)).eJ
  | 1,e=>cases e;exact (qV i2 (by decide)).eJ
  | 2,e=>cases e;exact (qV i3 (by decide)).eJ
  | n+3,e=>cases e
 have pk:=ER a3 b3
 have nk:(a*b*c).natAbs<=1000000000:=by
  rw[Z7]
  exact ZV (abd (show (a*b).natAbs<=1000000 by omega) c3) (by decide)
 have kc:c.natAbs<=1000:=c3
 have kb:b.natAbs<=1000:=b3
 have ll:=nF (x:=a*b*c) (by omega)
 refine⟨_,rfl,q0,_,_,_,rfl,rfl,aO.of hQ,rfl,_,rfl,q0,_,_,_,rfl,rfl,aO.of hQ,rfl,_,_,rfl,rfl,cK (by show -(2^64)<b;omega) (by show b<2^64;omega),_,rfl,q0,_,_,_,rfl,rfl,aO.of hQ,rfl,_,_,rfl,rfl,cK (by show -(2^64)<c;omega) (by show c<2^64;omega),?_⟩
 refine⟨_,rfl,l,rfl,⟨_,aR.of hl⟩,jt (xs:=ws) (by rw[wl];decide) (Lg (Fz a b c) [v1,v2,IU]) (fun H' g'=>aR.of (g' _ _ hl)) (fun i vs=>eV H vs (([v1,v2,IU].take i).filter (Fz a b c))) .nil ?_ ?_ ?_ ?_ ?_⟩
 ·intro i x vs ex e r
  obtain⟨r',P,rfl,eP,kJ⟩:=hw.get ex
  exact EU eP kJ e r
 ·intro i x vs ex e r
  obtain⟨r',P,rfl,eP,kJ⟩:=hw.get ex
  exact EV eP e r
 ·intro i x H' Q' ex g' k
  obtain⟨r',P,rfl,eP,kJ⟩:=hw.get ex
  refine⟨_,rfl,_,rfl,q0,r',dg a b c,P,rfl,g' _ _ hQ,aO.of (g' _ _ kJ),bF,bP eP,fun H2 g2=>?_⟩
  have kk:=k H2 g2
  rw[qW eP] at kk
  exact⟨_,rfl,_,_,rfl,rfl,⟨n0,ll⟩,_,_,rfl,rfl,(by decide),rfl,_,rfl,kk⟩
 ·exact fun i x H' Q' ex g' k=>⟨_,rfl,k _ (aw.refl _)⟩
 intro el H1 L8 g1 n1 xu U9
 refine⟨_,rfl,l,rfl,⟨_,aR.of (g1 _ _ hl)⟩,jt (xs:=ws) (by rw[wl];decide) (Lg (fun v=>!Fz a b c v) [v1,v2,IU]) (fun H' g'=>aR.of (g' _ _ (g1 _ _ hl))) (fun i vs=>eV H vs (([v1,v2,IU].take i).filter fun v=>!Fz a b c v)) .nil ?_ ?_ ?_ ?_ ?_⟩
 ·intro i x vs ex e r
  obtain⟨r',P,rfl,eP,kJ⟩:=hw.get ex
  exact EU eP kJ e r
 ·intro i x vs ex e r
  obtain⟨r',P,rfl,eP,kJ⟩:=hw.get ex
  exact EV eP e r
 ·intro i x H' Q' ex g' k
  obtain⟨r',P,rfl,eP,kJ⟩:=hw.get ex
  refine⟨_,rfl,_,rfl,q0,r',dg a b c,P,rfl,(g1.trans g') _ _ hQ,aO.of ((g1.trans g') _ _ kJ),bF,bP eP,fun H2 g2=>?_⟩
  have kk:=k H2 g2
  rw[qW eP,<- Hd] at kk
  exact⟨_,rfl,_,_,rfl,rfl,⟨n0,ll⟩,_,_,rfl,rfl,(by decide),rfl,_,rfl,kk⟩
 ·exact fun i x H' Q' ex g' k=>⟨_,rfl,k _ (aw.refl _)⟩
 intro od H2 Xt g2 n2 FA Va
 obtain⟨o,os,eo,fin⟩:=KH (e:=Fz a b c) (B:=nK 1000000) (B':=nK 2000000) F3 n0 L1 L2 L3 hm (fun v hv=>Hc F3 n0 hv) i1 i2 i3 (fun x h=>by unfold nK at *;omega) (fun x h=>by unfold nK at *;simp only[Pn.mt];omega) (fun x y h h'=>by unfold nK at *;simp only[ad];omega)
 rw[wl] at U9 Va
 have Tr:eV H Xt (o::os):=eo▸Va
 have OS:eV H L8 ([v1,v2,IU].filter (Fz a b c)):=U9
 have l1:L8.length<=3:=by rw[OS.len];exact abT _ _
 have l2:(o::os).length<=3:=by rw[<- eo];exact abT _ _
 have Fe:=g1.trans g2
 have bo:∀ v∈o::os,BP 64 v:=fun v hv=>by
  rw[<- eo] at hv
  have:=(abA.mp hv).1
  simp only[ZI,aas,abE] at this
  rcases this with rfl|rfl|rfl
  ·exact qV i1 (by decide)
  ·exact qV i2 (by decide)
  ·exact qV i3 (by decide)
 cases Tr with
 | @cons ro _ P8 _ Vb Ce=>
 have lo:P8.length<=2:=by rw[Ce.len];simpa using l2
 refine⟨_,rfl,_,rfl,od,_,_,_,rfl,rfl,aR.of FA,BR,ro,o,2,rfl,aO.of (Fe _ _ Vb),(bo o (.head _)).eJ,(by unfold Bd;decide +kernel),fun z H3 g3 hz=>?_⟩
 refine⟨(d6 1),fun p1 m1=>?_⟩
 have f1:=au m1 (.lst [.ref z])
 refine⟨el,p1,_,_,rfl,rfl,(g3.trans f1) _ _ (g2 _ _ xu),ah,ZV (show L8.length+1<=4 by omega) (by decide),fun p2 m2=>?_⟩
 have f2:=au m2 (.lst (L8++[.ref z]))
 have gA:=g3.trans (f1.trans f2)
 refine⟨_,rfl,_,rfl,od,_,rfl,aR.of (gA _ _ FA),fun p3 m3=>?_⟩
 rw[SW]
 have f3:=au m3 (.lst P8)
 have gB:=gA.trans f3
 refine⟨p3,rfl,⟨_,aR.of ah⟩,ye (xs:=P8) (abh (show P8.length<=4 by omega) (by decide)) (fun H' g'=>aR.of (g' _ _ ah)) (fun j AJ H'=>eV H' AJ ((os.take j).map fun v=>ad v o)) (fun _ _=>.nil) ?_ ?_⟩
 ·intro j y AJ H4 acc Q' ey g4 h0 ha rr Xu k
  obtain⟨r2,R,rfl,eR,ym⟩:=Ce.get ey
  have gC:=Fe.trans (gB.trans g4)
  refine⟨_,rfl,_,rfl,od,_,_,_,rfl,rfl,aR.of ((gB.trans g4) _ _ FA),BR,r2,ro,R,o,rfl,aO.of (gC _ _ ym),aO.of (gC _ _ Vb),fun z2 H5 g5 Fv=>k _ _ g5 ?_⟩
  rw[abY,eR,aaw]
  exact ((rr.up g5).app (.cons Fv .nil)).put (g5 _ _ ha)
 intro la H4 AJ g4 _ Ts lw rr
 rw[Ce.len,abj] at rr
 refine⟨p2,la,_,_,rfl,rfl,g4 _ _ (f3 _ _ ah),Ts,ZV (show (L8++[V.ref z]).length+AJ.length<=10 by rw[aaN,List.length_singleton];omega) (by decide),fun p4 m4=>?_⟩
 have f4:=au m4 (.lst ((L8++[.ref z])++AJ))
 obtain⟨e1,e2,e3⟩:=fin _ rfl
 have gD:=(f1.trans f2).trans (f3.trans (g4.trans f4))
 exact q p4 _ _ _ (Fe.trans (g3.trans gD)) ah (((OS.up (Fe.trans (g3.trans gD))).app (.cons (gD _ _ hz) .nil)).app (rr.up f4)) e1 e2 e3
theorem zd (F:Fn K mg "near_to" nB)(T:Txt K mg t)(fQ:aV P w K mg base aU 1 "added" ["one","other"] (qP K))(bW:aV P w K mg base aU 1 "stretched" ["P","times"] (wU K)):aV P w K mg base aU 2 "near_to" ["vector","first","second"] (yV):=by
 refine F.ok ju (fun f aZ A outer s H vs Q E hr h=>?_)
 obtain⟨v,f',g',p,r,s',rfl,hv,hf,hg,bp,br,bs,q⟩:=h
 refine⟨_,ai (bH (i:=3) ju.nd (bG ag))
  (ai (gh aah rfl (HN K (aS (ae af (ae af (ae (fR dF af) ag))))) (sM (i:=4) ju.nd) (ai (bH (i:=5) ju.nd (aj fQ hr aD (ae (pv 0) (ae (aj bW hr aD (ae (pv 1) (ae (pv 4) ag))) ag))))
  (aq (km (vD abF PySem.F.slot_list_extend PySem.F.type_list_extend sE (pv 3) (ae (eH rfl (aM.gen (cl:=[("second",_),("beside",_)]) ["beside","second"] [5,2] [(".0",.local),("others",.local),("added",.globalImplicit),("stretched",.globalImplicit),("beside",.cell),("second",.cell)] rfl) (HN K (aS (ae af (ae af (ae (fR dF af) ag))))) (fun C s0 H0 fp pins=>aj fQ hr aD (ae (pv 1) (ae (aj bW hr aD (ae (pv 2) (ae (pv 0) ag))) ag)))) ag))))))
  (aq (aE (pv 3)))),?_⟩
 refine⟨(d6 0),fun nl nn=>?_⟩
 have g0:=au nn (.lst [])
 refine⟨_,rfl,(d6 3),fun tl Xv=>?_⟩
 have g1:=au Xv (.tup [.int 0,.int 1,.int (-1)])
 refine⟨tl,rfl,⟨_,aO.of ah⟩,tM (K:=K) (a:=tl) (xs:=[.int 0,.int 1,.int (-1)]) (fun i σ H'=>∃ (ox oy:Option V) (ws:List V),σ=[some (.ref v),some (.ref f'),some (.ref g'),some (.ref nl),ox,oy]/\aw H H'/\H' tl=some (.tup [.int 0,.int 1,.int (-1)])/\H' nl=some (.lst ws)/\eV H' ws (i7 p r s' i)/\ws.length<=3*i)
  ⟨none,none,[],rfl,g0.trans g1,ah,g1 _ _ ah,.nil,by decide⟩ (fun i σ H2 _ ⟨_,_,_,_,_,h,_⟩=>aO.of h) ?_ ?_⟩
 ·rintro i x σ H1 hx ⟨ox,oy,ws,rfl,gs,JV,IV,tw,lw⟩
  obtain⟨xi,rfl,ex,b1⟩:=IQ hx
  have hi:i<3:=(aae.mp hx).1
  refine⟨_,rfl,_,rfl,_,rfl,f',r,xi,rfl,aO.of (gs _ _ hf),br.eJ,b1.mono (by decide),fun z1 H2 g2 C8=>?_⟩
  refine⟨v,z1,p,_,rfl,aO.of ((gs.trans g2) _ _ hv),aO.of C8,fun z2 H3 g3 Fv=>?_⟩
  have IW:=g2.trans g3
  refine⟨_,rfl,.inl ⟨rfl,_,aR.of (IW _ _ IV)⟩,_,rfl,(d6 3),fun t2 Xw=>?_⟩
  have f2:=au Xw (.tup [.int 0,.int 1,.int (-1)])
  refine⟨t2,rfl,⟨_,aO.of ah⟩,Bl (xs:=[.int 0,.int 1,.int (-1)]) (HP 3) (fun H' g=>aO.of (g _ _ ah)) (fun j AJ H'=>eV H' AJ ((([0,1,-1]:List Int).take j).map fun y=>ad (ad p (mt r xi)) (mt s' y))) (fun _ _=>.nil) ?_ ?_⟩
  ·intro j y AJ H4 acc Q' ey g4 h0 ha rr Xu k
   obtain⟨yi,rfl,PB,b2⟩:=IQ ey
   have gC:=IW.trans (f2.trans g4)
   refine⟨_,rfl,_,rfl,_,rfl,g',s',yi,rfl,aO.of ((gs.trans gC) _ _ hg),bs.eJ,b2.mono (by decide),fun z3 H5 g5 Xx=>?_⟩
   refine⟨z2,z3,_,_,rfl,aO.of ((f2.trans (g4.trans g5)) _ _ Fv),aO.of Xx,fun z4 H6 g6 Xy=>k _ _ (g5.trans g6) ?_⟩
   rw[abY,PB,aaw]
   exact ((rr.up (g5.trans g6)).app (.cons Xy .nil)).put ((g5.trans g6) _ _ ha)
  ·intro la H4 AJ g4 _ Ts Vc rr
   have Tt:eV H4 AJ ((([0,1,-1]:List Int).map fun y=>ad (ad p (mt r xi)) (mt s' y))):=rr
   have gC:=IW.trans (f2.trans g4)
   have OT:=gC _ _ IV
   refine⟨nl,la,_,_,rfl,rfl,OT,Ts,ZV (show ws.length+AJ.length<=100 by have:AJ.length=3:=Vc;omega) (by decide),some (.int xi),some (.ref z2),ws++AJ,rfl,uF (gs.trans gC) nn,?_,ah,?_,by rw[aaN];have:AJ.length=3:=Vc;omega⟩
   ·rw[aG (fun z=>by subst z;rw[JV] at IV;cases IV)]
    exact gC _ _ JV
   ·have e:i7 p r s' (i+1)=i7 p r s' i++([0,1,-1]:List Int).map fun y=>ad (ad p (mt r xi)) (mt s' y):=by
     unfold i7
     rw[abY,ex]
     simp[List.flatMap_append]
    rw[e]
    exact ((tw.up gC).app Tt).put OT
 ·rintro σ H1 ⟨ox,oy,ws,rfl,gs,JV,IV,tw,lw⟩
  exact⟨_,rfl,q nl ws H1 gs IV tw⟩
theorem B7 (F:LY K mg "rising" qH t.lc)(T:Txt K mg t)(bm:BMod mg base)(bL:aV P w K mg base aU 1 "worth_of" ["Q","P"] (tq K)):aV P w K mg base aU 5 "rising" ["vectors","length"] (wY K t.lP):=by
 refine F.ok BY (fun f A outer s H vs Q E hr h=>?_)
 obtain⟨l,m,ws,Ps,L,rfl,hl,hw,hm,l2,Xz,bf,bp,rl,q⟩:=h
 refine⟨_,aq (aE (yh ⟨(Dn T.lam).1,bm⟩ rfl (iW.Wm (x:="vector") ["length"] [1] rfl) (hr.mono (aaH _)) T.qM (ae (pv 0) ag) (fun f' MO s9 H9=>aj bL (hr.in1.in1.deeper _) aD (ae (pv 1) (ae (pv 0) ag))))),?_⟩
 refine⟨_,rfl,l,ws,fun v=>wo L (ct H v),rfl,aR.of hl,by rw[hw.len];exact l2,by rw[hw.len];exact Xz,rl,fun v hv H2 k2=>?_,fun D ys H' ko nD kx XA hD=>?_⟩
 ·obtain⟨r,P,rfl,mP,kJ⟩:=hw.mem hv
  refine⟨_,rfl,_,rfl,m,r,L,P,rfl,k2 _ _ rfl hm,aO.of (k2 _ _ rfl kJ),bf,bp P mP,fun H3 g3=>⟨?_,g3⟩⟩
  rw[EO kJ]
 ·obtain⟨p1,p2⟩:=Lf hw ko
  exact q D ys _ H' kx XA hD (p1.kx kx) p2
theorem xq (F:Fn K mg "drawn_to" lF)(T:Txt K mg t)(bL:aV P w K mg base aU 1 "worth_of" ["Q","P"] (tq K))(ke:aV P w K mg base aU 1 "slopes_of" ["Q"] (K0))(kg:aV P w K mg base aU 2 "turned_by" ["table","P"] (ED K))(bV:aV P w K mg base aU 1 "row_product" ["row","P"] (AA K))(bW:aV P w K mg base aU 1 "stretched" ["P","times"] (wU K))(fQ:aV P w K mg base aU 1 "added" ["one","other"] (qP K))(eL:aV P w K mg base aU 5 "rising" ["vectors","length"] (wY K t.lP)):aV P w K mg base aU 6 "drawn_to" ["vector","other","length"] (yW K t.lP):=by
 refine F.ok j4 (fun f aZ A outer s H vs Q E hr h=>?_)
 obtain⟨v,o,m,p,w',A',B',C',rfl,hv,ho,hm,le,lp,lw,w0,rl,q⟩:=h
 have LB:=qS
 refine⟨_,ai (bH (i:=3) j4.nd (aj bL hr aD (ae (pv 2) (ae (pv 1) ag))))
  (ai (bH (i:=4) j4.nd (av de (av cW (aj bV hr aD (ae (aj kg hr aD (ae (aj ke hr aD (ae (pv 2) ag)) (ae (pv 1) ag))) (ae (pv 0) ag))) (pv 3)) (av az af (pv 3))))
  (aq (aE (aW (gi K) (aj eL hr aD (ae (bG (ae (pv 0) (ae (aj fQ hr aD (ae (pv 0) (ae (aj bW hr aD (ae (pv 1) (ae (fR dF (pv 4)) ag))) ag))) ag))) (ae (pv 2) ag))) af)))),?_⟩
 have bp:=le.bp lp
 have bw:=le.bp lw
 have bF:BF 600 (dg A' B' C'):=le.bf.mono
 refine⟨_,rfl,_,rfl,m,o,dg A' B' C',w',rfl,hm,aO.of ho,bF,bw.eJ,fun H1 g1=>?_⟩
 refine⟨_,rfl,m,dg A' B' C',rfl,g1 _ _ hm,fun sr H2 g2 hs=>?_⟩
 have Fe:=g1.trans g2
 refine⟨_,rfl,sr,o,sl (dg A' B' C'),w',rfl,hs,aO.of (Fe _ _ ho),(DX le.bf).mono (by decide),bw.eJ,fun kr H3 g3 _ hk=>?_⟩
 have IW:=Fe.trans g3
 have wm:wo (dg A' B' C') w'<=12000000000000000:=lw
 have ef:Int.fdiv (bl (dg A' B' C') w' p+wo (dg A' B' C') w') (2*wo (dg A' B' C') w')=(bl (dg A' B' C') w' p+wo (dg A' B' C') w') / (2*wo (dg A' B' C') w'):=abr _ (by omega)
 refine⟨_,rfl,kr,v,tb (sl (dg A' B' C')) w',p,rfl,hk,aO.of (IW _ _ hv),((Ik (DX le.bf) bw)).eJ,bp.eJ,_,rfl,_,_,rfl,rfl,_,rfl,_,_,rfl,rfl,L5,_,_,rfl,rfl,⟨by omega,nF (x:=2*wo (dg A' B' C') w') (by omega)⟩,?_⟩
 have hb:=Hf le bp bw
 generalize ek:(bl (dg A' B' C') w' p+wo (dg A' B' C') w') / (2*wo (dg A' B' C') w')=k at *
 have XC:Int.fdiv (rp (tb (sl (dg A' B' C')) w') p+wo (dg A' B' C') w') (2*wo (dg A' B' C') w')=k:=ef
 rw[XC]
 refine⟨_,rfl,_,rfl,_,rfl,_,rfl,_,rfl,o,w',-k,rfl,aO.of (IW _ _ ho),bw.eJ,hb.mono (by decide),fun z1 H4 g4 C8=>?_⟩
 refine⟨v,z1,p,_,rfl,aO.of ((IW.trans g4) _ _ hv),aO.of C8,fun z2 H5 g5 Fv=>?_⟩
 refine⟨(d6 2),fun l0 n0=>?_⟩
 have f0:=au n0 (.lst [.ref v,.ref z2])
 have P9:=IW.trans (g4.trans (g5.trans f0))
 have Tu:H5 z2=some (t3 (ad p (mt w' (-k)))):=Fv
 have bn:BP 600 (ad p (mt w' (-k))):=(Ew (k:=262) bp.eJ (EW hb bw)).eJ
 refine⟨_,rfl,l0,m,[.ref v,.ref z2],[p,ad p (mt w' (-k))],dg A' B' C',rfl,ah,.cons (P9 _ _ hv) (.cons (f0 _ _ Tu) .nil),P9 _ _ hm,(by show 2<=2;decide),(by show 2<64;decide),bF,fun P hP=>?_,eI.same P9 rl,fun D ys Qs H6 k6 XE hD py R=>?_⟩
 ·simp only[ZI,aas,abE] at hP
  rcases hP with rfl|rfl
  ·exact bp.eJ
  ·exact bn
 obtain⟨x,rest,rfl,alt⟩:=R.head
 cases py with
 | @cons rx _ vr _ OU _=>
 refine⟨D,_,_,_,rfl,rfl,aR.of hD,BR,q rx x H6 ((aw.kx P9).trans k6) XE OU ?_⟩
 rcases alt with ⟨rfl,JI⟩|⟨mx,lt⟩
 ·exact .inl ⟨rfl,Ea w0 ek.symm (JI _ (.head _))⟩
 ·rw[aar] at mx
  exact .inr ⟨lt,-k,mx⟩
theorem vi (F:Fn K mg "shortened" jV)(T:Txt K mg t)(ig:aV P w K mg base aU 6 "drawn_to" ["vector","other","length"] (yW K t.lP))(oa:aV P w K mg base aU 2 "near_to" ["vector","first","second"] (yV))(eL:aV P w K mg base aU 5 "rising" ["vectors","length"] (wY K t.lP)):aV P w K mg base aU 7 "shortened" ["vectors","length"] (uP K t.lP):=by
 refine F.ok gQ (fun f aZ A outer s H vs Q E hr h=>?_)
 obtain⟨l,m,ws,p,q1,r1,A',B',C',rfl,hl,hw,hm,le,lp,lq,lr,m0,rl,q⟩:=h
 refine⟨_,ai (bH (i:=2) gQ.nd (aW (gi K) (pv 0) af))
  (ai (bH (i:=3) gQ.nd (aj ig hr aD (ae (aW (gi K) (pv 0) af) (ae (pv 2) (ae (pv 1) ag)))))
  (ai (bH (i:=4) gQ.nd (aj ig hr aD (ae (aj ig hr aD (ae (aW (gi K) (pv 0) af) (ae (pv 2) (ae (pv 1) ag)))) (ae (pv 3) (ae (pv 1) ag)))))
  (aq (aE (bG (ae (pv 2) (ae (pv 3) (ae (aW (gi K) (aj eL hr aD (ae (aj oa hr aD (ae (pv 4) (ae (pv 2) (ae (pv 3) ag)))) (ae (pv 1) ag))) af) ag)))))))),?_⟩
 cases hw with
 | @cons a1 _ _ _ h1 hw=>
 cases hw with
 | @cons a2 _ _ _ h2 hw=>
 cases hw with
 | @cons a3 _ _ _ h3 hw=>
 cases hw
 have nz:=Ec m0
 have p0:=yt le.a0 le.b0 le.c0 nz.1
 refine⟨_,rfl,l,_,_,_,rfl,rfl,aR.of hl,rfl,?_⟩
 refine⟨_,rfl,l,_,_,_,rfl,rfl,aR.of hl,rfl,_,rfl,_,rfl,a2,a1,m,q1,p,A',B',C',rfl,h2,h1,hm,le,lq,lp,p0,rl,fun b2 q' H1 k1 Fi Fw d1=>?_⟩
 have Tv:=abD d1.le lq
 have XG:Nz q':=by
  obtain⟨k,rfl⟩:=d1.BJ
  exact (Ec (r:=r1) (p:=p) (by rw[Ir];exact m0)).2.1
 refine⟨_,rfl,l,_,_,_,rfl,rfl,aR.of (k1 _ _ rfl hl),rfl,_,rfl,_,rfl,a3,a1,m,r1,p,A',B',C',rfl,k1 _ _ rfl h3,k1 _ _ rfl h1,k1 _ _ rfl hm,le,lr,lp,p0,Fi,fun b3 t1 H2 k2 Tw XH d2=>?_⟩
 have Vd:=k1.trans k2
 have Ve:=abD d2.le lr
 refine⟨_,rfl,_,rfl,b3,b2,m,t1,q',A',B',C',rfl,XH,k2 _ _ rfl Fw,Vd _ _ rfl hm,le,Ve,Tv,yt le.a0 le.b0 le.c0 XG,Tw,fun b4 t2 H3 k3 Qa XI d3=>?_⟩
 have Qb:=Vd.trans k3
 have Vf:=abD d3.le Ve
 have OV:=(k2.trans k3) _ _ rfl Fw
 refine⟨_,rfl,_,rfl,_,rfl,_,rfl,_,rfl,b4,a1,b2,t2,p,q',rfl,XI,Qb _ _ rfl h1,OV,le.bp Vf,le.bp lp,le.bp Tv,fun nl wn H4 g4 IV pn=>?_⟩
 refine⟨_,rfl,nl,m,wn,i7 t2 p q' 3,dg A' B' C',rfl,IV,pn,g4 _ _ (Qb _ _ rfl hm),(by show 2<=9;decide),(by show 9<64;decide),le.bf.mono,fun P hP=>EY (le.bp Vf) (le.bp lp) (le.bp Tv) hP,eI.same g4 Qa,fun D0 Zu Qs H5 k5 Tx XJ py R=>?_⟩
 rw[yX] at R
 obtain⟨x,rest,rfl,alt⟩:=R.head
 cases py with
 | @cons rx _ vr _ OU _=>
 refine⟨D0,_,_,_,rfl,rfl,aR.of XJ,BR,(d6 3),fun D nD=>?_⟩
 have f9:=au nD (.lst [.ref a1,.ref b2,.ref rx])
 have Tz:=(aw.kx g4).trans k5
 exact q D _ q' x _ (Qb.trans (Tz.trans (aw.kx f9))) (eI.same f9 Tx) ah (.cons (f9 _ _ ((Qb.trans Tz) _ _ rfl h1)) (.cons (f9 _ _ (Tz _ _ rfl OV)) (.cons (f9 _ _ OU) .nil))) ⟨t1,t2,d1,d2,d3,Lh alt⟩
theorem lO (F:Fn K mg "settled_vectors" fh)(T:Txt K mg t)(eL:aV P w K mg base aU 5 "rising" ["vectors","length"] (wY K t.lP))(iE:aV P w K mg base aU 7 "shortened" ["vectors","length"] (uP K t.lP)):aV P w K mg base aU 8 "settled_vectors" ["vectors","length"] (qX K t.lP):=by
 refine F.ok bZ (fun f aZ A outer s H vs Q E hr h=>?_)
 obtain⟨l,m,ws,Ps,A',B',C',a,b,c,s',t',u',N',rfl,hl,hw,hm,le,F3,S,N0,rl,q⟩:=h
 have ze:=ux hr
 refine⟨_,ai (bH (i:=2) bZ.nd (aj eL hr aD (ae (pv 0) (ae (pv 1) ag))))
  (ai (bH (i:=3) bZ.nd (aj iE hr aD (ae (pv 2) (ae (pv 1) ag))))
  (ai (dE aah (aB (J1 ze) (pv 3) (pv 2) (aA _)) (ai (bH (i:=2) bZ.nd (aj eL hr aD (ae (pv 3) (ae (pv 1) ag))))
  (aq (bH (i:=3) bZ.nd (aj iE hr aD (ae (pv 2) (ae (pv 1) ag)))))))
  (aq (aE (pv 2))))),?_⟩
 have Vg:∀ {x y z:P3},xx a b c s' t' u' (dg A' B' C') MM N' [x,y,z]->me ⟨x,y,z⟩≠0:=fun {x y z} S e=>by
  have h1:me ⟨x,y,z⟩*me ⟨x,y,z⟩=N'*N':=S.mq
  rw[e] at h1
  have:=aat N0 N0
  omega
 have Vh:∀ {l:List P3},xx a b c s' t' u' (dg A' B' C') MM N' l->∀ P∈l,BP 600 P:=fun S P hP=>(le.bp (S.mem P hP).2).eJ
 refine⟨_,rfl,_,rfl,l,m,ws,Ps,dg A' B' C',rfl,hl,hw,hm,by rw[S.len];decide,by rw[S.len];decide,le.bf.mono,Vh S,rl,fun S0 ys Qs H1 k1 Fi hS py R=>?_⟩
 obtain⟨p,q1,r1,rfl,w1,w2⟩:=R.three S.len
 have S1:=S.perm R.perm
 refine⟨_,rfl,_,rfl,S0,m,ys,p,q1,r1,A',B',C',rfl,hS,py,k1 _ _ rfl hm,le,(S1.mem p (by simp)).2,(S1.mem q1 (by simp)).2,(S1.mem r1 (by simp)).2,Vg S1,Fi,fun Z0 zs q' r' H2 k2 Tw hZ pz sh=>?_⟩
 refine⟨fun n σ H'=>∃ (S0 Z0:Addr) (ys zs:List V) (p q1 r1 q' r':P3),σ=[some (.ref l),some (.ref m),some (.ref S0),some (.ref Z0)]/\Kx H H'/\RL t.lP H'/\H' S0=some (.lst ys)/\eV H' ys [p,q1,r1]/\H' Z0=some (.lst zs)/\eV H' zs [p,q',r']/\xx a b c s' t' u' (dg A' B' C') MM N' [p,q1,r1]/\wo (dg A' B' C') p<=wo (dg A' B' C') q1/\wo (dg A' B' C') q1<=wo (dg A' B' C') r1/\Eb (dg A' B' C') p q1 r1 q' r'/\n=(wsum (dg A' B' C') [p,q1,r1]).toNat,
  ⟨_,S0,Z0,ys,zs,p,q1,r1,q',r',rfl,k1.trans k2,Tw,k2 _ _ rfl hS,py.kx k2,hZ,pz,S1,w1,w2,sh,rfl⟩,?_⟩
 clear hS py hZ pz sh S1 w1 w2 R
 rintro n σ H3 ⟨S0,Z0,ys,zs,p,q1,r1,q',r',rfl,kx,Qa,hS,py,hZ,pz,S1,w1,w2,sh,rfl⟩
 refine⟨_,rfl,_,rfl,_,_,.lst hZ (IS pz),.lst hS (IS py),rfl,rfl,_,rfl,bJ (fun c'=>?_) (fun c'=>?_)⟩
 ·have ne:=wZ.mp c'
  have less:=sh.less ne
  have S2:=S1.shr F3 sh
  refine⟨fun σ' H'=>∃ (S0 Z0:Addr) (ys zs:List V) (p2 q2 r2 q3 r3:P3),σ'=[some (.ref l),some (.ref m),some (.ref S0),some (.ref Z0)]/\Kx H H'/\RL t.lP H'/\H' S0=some (.lst ys)/\eV H' ys [p2,q2,r2]/\H' Z0=some (.lst zs)/\eV H' zs [p2,q3,r3]/\xx a b c s' t' u' (dg A' B' C') MM N' [p2,q2,r2]/\wo (dg A' B' C') p2<=wo (dg A' B' C') q2/\wo (dg A' B' C') q2<=wo (dg A' B' C') r2/\Eb (dg A' B' C') p2 q2 r2 q3 r3/\(wsum (dg A' B' C') [p2,q2,r2]).toNat<(wsum (dg A' B' C') [p,q1,r1]).toNat,?_,?_⟩
  ·rintro _ _ ⟨S0,Z0,ys,zs,p2,q2,r2,q3,r3,rfl,a1,a2,a3,a4,a5,a6,a7,a8,a9,Nk,lt⟩
   exact⟨_,lt,S0,Z0,ys,zs,p2,q2,r2,q3,r3,rfl,a1,a2,a3,a4,a5,a6,a7,a8,a9,Nk,rfl⟩
  refine⟨_,rfl,_,rfl,Z0,m,zs,[p,q',r'],dg A' B' C',rfl,hZ,pz,kx _ _ rfl hm,(by show 2<=3;decide),(by show 3<64;decide),le.bf.mono,Vh S2,Qa,fun S4 Vi Qs H4 k4 TB Vj Vk R=>?_⟩
  obtain⟨p2,q2,r2,rfl,v1,v2⟩:=R.three rfl
  have OW:=S2.perm R.perm
  refine⟨_,rfl,_,rfl,S4,m,Vi,p2,q2,r2,A',B',C',rfl,Vj,Vk,(kx.trans k4) _ _ rfl hm,le,(OW.mem p2 (by simp)).2,(OW.mem q2 (by simp)).2,(OW.mem r2 (by simp)).2,Vg OW,TB,fun Z5 XM q3 r3 H5 k5 Tx XN XO XQ=>?_⟩
  refine⟨S4,Z5,Vi,XM,p2,q2,r2,q3,r3,rfl,kx.trans (k4.trans k5),Tx,k5 _ _ rfl Vj,Vk.kx k5,XN,XO,OW,v1,v2,XQ,?_⟩
  rw[Hg R.perm]
  simp only[wsum]
  have n1:=EZ le p
  have n2:=EZ le q'
  have n3:=EZ le r'
  omega
 ·have e:q'=q1/\r'=r1:=aaK fun z=>c' (wZ.mpr z)
  obtain⟨rfl,rfl⟩:=e
  exact⟨_,rfl,q S0 ys p q' r' H3 kx Qa hS py S1 (sh.done w1 w2)⟩
theorem rE (F:Fn K mg "small_point" iL)(T:Txt K mg t)(fk:aV P w K mg base (XF P w) 6 "bad_places" ["a","b","c"] (qU t.c4))(gG:JM P w K mg base 1 t.i5 ["self","place"] (zL t.c6 "place"))(fJ:aV P w K mg base aU 9 "fitted_vectors" ["a","b","c"] (yS))(fL:aV P w K mg base aU 2 "evened_vectors" ["Q","vectors"] (ET))(fm:aV P w K mg base aU 8 "settled_vectors" ["vectors","length"] (qX K t.lP))(bL:aV P w K mg base aU 1 "worth_of" ["Q","P"] (tq K))(ij:aV P w K mg base aU 3 "lowest_point" ["P"] (yL K)):aV P w K mg base (XB P w) 10 "small_point" ["a","b","c"] (mv K t.lP t.c6 t.c4):=by
 obtain⟨Cf,pB,pC⟩:=id gG
 replace fk:=fk.up (CX':=XB P w) fun _ _ _ _ _ _ z=>.inr z
 refine F.M7 dQ (fun f aZ A outer s H vs Q E hr h=>?_)
 obtain⟨a,b,c,rfl,a3,b3,c3,rl,qg,qb,qn⟩:=h
 have ze:=ux hr
 refine⟨_,ai (bH (i:=3) dQ.nd (aj fk hr M6 (ae (pv 0) (ae (pv 1) (ae (pv 2) ag)))))
  (ai (aY (aB (vT ze) (pv 3) (bG ag) (aA _)) (aq (PS.up (CX:=XD P w) (A9 T.wO pB (hr.mono (show 1+1<=9 by decide)) pC T.lH rfl (ae (aW (gi K) (pv 3) af) ag)) (fun _ _ _ _ _ _ z=>.inl z))) aK)
  (ai (PS.vt (bH (i:=4) dQ.nd (aS (ae (pv 0) (ae (pv 1) (ae (pv 2) (ae af (ae af (ae af ag)))))))))
  (ai (PS.vt (bH (i:=5) dQ.nd (aS (ae (aJ bQ rfl T.fW fX (ae (pv 0) ag)) (ae (aJ bQ rfl T.fW fX (ae (pv 1) ag)) (ae (aJ bQ rfl T.fW fX (ae (pv 2) ag)) (ae af (ae af (ae af ag)))))))))
  (ai (PS.vt (bH (i:=6) dQ.nd (aj fm hr aD (ae (aj fL hr aD (ae (pv 4) (ae (aj fJ hr aD (ae (pv 0) (ae (pv 1) (ae (pv 2) ag)))) ag))) (ae (pv 5) ag)))))
  (aq (PS.vt (aE (aj ij hr aD (ae (aW (gi K) (fC rfl (aM.gen (cl:=[("Q",_)]) ["Q"] [4] [(".0",.local),("vector",.local),("worth_of",.globalImplicit),("Q",.cell)] rfl) (Bh K (pv 6)) (fun C s0 H0 fp pins=>aB bE (aj bL hr aD (ae (pv 1) (ae (pv 0) ag))) af (aA _)) (fun C s0 H0 fp pins=>pv 0)) af) ag))))))))),?_⟩
 have six:∀ {n:Int},K3 n->mF n:=fun {n} h=>by unfold K3 at h;unfold mF;omega
 refine⟨_,rfl,_,rfl,_,rfl,a,b,c,rfl,six a3,six b3,six c3,fun pl OX bs H1 g1 Vl Zv up mem=>?_,fun nP H1 g1=>qn nP H1 g1⟩
 refine⟨_,rfl,(d6 0),fun e1 ne1=>?_⟩
 have f1:=au ne1 (.lst [])
 have g2:=g1.trans f1
 refine⟨OX,e1,bs,rfl,rfl,f1 _ _ Vl,ah,_,rfl,?_⟩
 cases bs with
 | cons x rest=>
  refine jK ?_
  refine⟨_,rfl,OX,_,_,_,rfl,rfl,aR.of (f1 _ _ Vl),BR,(d6 1),fun e he=>⟨e,_,rfl,ah,fun dx H3 Vm oY kk=>⟨rfl,dx,Vm,?_⟩⟩⟩
  have ne:dx≠e:=fun z=>by subst z;rw[Vm] at oY;cases oY
  refine qb pl x ((mem x).mp (.head _)) (fun y hy=>?_) dx _ (fun y o hy=>?_) (by rw[cX ne];exact oY)
  ·rcases ZI.mp ((mem y).mpr hy) with rfl|z
   ·exact aaV _
   ·exact Z1 ((aaY.mp up).1 y z)
  ·have Vn:=g2 _ _ hy
   have nb:=aI Vn he
   rw[cX nb]
   exact kk y o nb (by rw[aG nb];exact Vn)
 | nil=>
  have nb:∀ x,¬ Jc.fV a b c x:=fun x z=>by
   have:=(mem x).mpr z
   cases this
  have le:=Li a3 b3 c3 pl.a0 pl.b0 pl.c0
  refine ik ?_
  refine⟨_,rfl,_,rfl,_,rfl,(d6 6),fun qa nq=>?_⟩
  have f2:=au nq (.tup [.int a,.int b,.int c,.int 0,.int 0,.int 0])
  refine⟨_,rfl,_,rfl,_,rfl,_,rfl,_,rfl,_,rfl,(d6 6),fun la nl=>?_⟩
  have f3:=au nl (.tup [.int (aF a),.int (aF b),.int (aF c),.int 0,.int 0,.int 0])
  have g4:=g2.trans (f2.trans f3)
  refine⟨_,rfl,_,rfl,_,rfl,_,rfl,a,b,c,rfl,a3,b3,c3,pl,nb,fun l ws v1 v2 IU s' t' u' H5 g5 hl pt F3 L1 L2 L3 hm i1 i2 i3=>?_⟩
  have Vo:S6 H5 qa (dg a b c):=g5 _ _ (f3 _ _ ah)
  have XR:S6 H5 la (dg (aF a) (aF b) (aF c)):=g5 _ _ ah
  refine⟨qa,l,ws,v1,v2,IU,a,b,c,s',t',u',rfl,Vo,hl,pt,a3,b3,c3,abU (abU pl.a0 pl.b0) pl.c0,F3,L1,L2,L3,hm,i1,i2,i3,fun r ys Ps H6 g6 kJ py XS Vp XT=>?_⟩
  have S0:xx a b c s' t' u' (dg (aF a) (aF b) (aF c)) MM (2*(aF a*aF b*aF c)) Ps:=⟨XS,fun p hp=>⟨(Vp p hp).1,by
   obtain⟨x1,y1,z1⟩:=(Vp p hp).2
   exact abD (Ee (m:=1000) (M:=2000000) le.a0 le.b0 le.c0 le.a1 le.b1 le.c1 x1 y1 z1) (by decide)⟩,by rw[XT];exact Lj a b c⟩
  have N0:0<2*(aF a*aF b*aF c):=by
   have:=aat (aat le.a0 le.b0) le.c0
   omega
  refine⟨_,rfl,r,la,ys,Ps,_,_,_,a,b,c,s',t',u',_,rfl,kJ,py,g6 _ _ XR,le,F3,S0,N0,eI.same (g4.trans (g5.trans g6)) rl,fun D yd p q1 r1 H7 k7 XU hD pd S1 St=>?_⟩
  obtain⟨x,rest,ef,x0,xN,mx⟩:=pick pl nb le S1 St
  have XW:=k7 _ _ rfl (g6 _ _ Vo)
  have bx:∀ {i:Nat}{P:P3},[p,q1,r1][i]?=some P->BP 600 P:=fun {i P} e=>(le.bp (S1.mem P (aau e)).2).eJ
  refine⟨_,rfl,D,rfl,⟨_,aR.of hD⟩,jt (xs:=yd) (by rw[pd.len];show 3<sizeLine;decide) (Lg (Hh a b c) [p,q1,r1]) (fun H' g'=>aR.of (g' _ _ hD)) (fun i vs=>eV H7 vs (([p,q1,r1].take i).filter (Hh a b c))) .nil ?_ ?_ ?_ ?_ ?_⟩
  ·intro i x vs ex e r
   obtain⟨r',P,rfl,eP,kJ⟩:=pd.get ex
   exact EU eP kJ e r
  ·intro i x vs ex e r
   obtain⟨r',P,rfl,eP,kJ⟩:=pd.get ex
   exact EV eP e r
  ·intro i x H' Q' ex g' k
   obtain⟨r',P,rfl,eP,kJ⟩:=pd.get ex
   refine⟨_,rfl,_,rfl,qa,r',dg a b c,P,rfl,g' _ _ XW,aO.of (g' _ _ kJ),(ES a3 b3 c3).mono,bx eP,fun H2 g2=>?_⟩
   have kk:=k H2 g2
   rw[qW eP] at kk
   exact⟨rfl,_,rfl,kk⟩
  ·exact fun i x H' Q' ex g' k=>⟨_,rfl,k _ (aw.refl _)⟩
  intro fl H8 XX g8 _ t5 rr
  rw[pd.len] at rr
  have Tt:eV H7 XX (x::rest):=ef▸rr
  cases Tt with
  | @cons rx _ vr _ OU _=>
  have XY:=S1.nz N0 x mx
  refine⟨fl,_,_,_,rfl,rfl,aR.of t5,BR,false,rx,x.x,x.y,x.z,rfl,aO.of (g8 _ _ OU),KY (le.bp (S1.mem x mx).2).eJ,XY,fun rz H9 x' y' z' d g9 hz o3 p3 d0 ex ey ez=>?_⟩
  exact qg pl nb rz x' y' z' H9 ((aw.kx (g4.trans (g5.trans g6))).trans (k7.trans (aw.kx (g8.trans g9)))) (eI.same (g8.trans g9) XU) hz (Hi le x0 xN o3 p3 d0 ex ey ez)
theorem rF (F:Fn K mg "_law_plain_drawn" bD)(T:Txt K mg t)(dc:aV P w K mg base aU 1 "_law_drawn" ["_law_cell","_law_prime","_law_many"] (mr)):aV P w K mg base aU 2 "_law_plain_drawn" ["_law_cell","_law_most"] (uR):=by
 refine F.ok cO (fun f aZ A outer s H vs Q E hr h=>?_)
 obtain⟨c,m,rfl,m1,m2,q⟩:=h
 obtain⟨es,e1,e2,TC,e⟩:∃ (es:List Expr) (e1 e2:Pos),qo es [(2,7937),(3,7949),(5,7951),(7,7963)]/\aP bD=[(aP bD).getD 0 (.Pass ⟨0,0,0,0⟩),.For (WA ((aP bD).getD 1 (.Pass ⟨0,0,0,0⟩))) (.List es e1) (WB ((aP bD).getD 1 (.Pass ⟨0,0,0,0⟩))) (WC ((aP bD).getD 1 (.Pass ⟨0,0,0,0⟩))) e2,(aP bD).getD 2 (.Pass ⟨0,0,0,0⟩),(aP bD).getD 3 (.Pass ⟨0,0,0,0⟩)]:=
  ⟨_,_,_,.cons (.cons (.cons (.cons .nil))),rfl⟩
 rw[e]
 refine⟨_,ai (bH (i:=2) cO.nd (bG (ae af (ae af (ae af ag)))))
  (ai (gh aah rfl (Bh K (bG (Ds TC))) (Px K (cM (sM (i:=4) cO.nd) (cM (sM (i:=5) cO.nd) kq))) (ai (bH (i:=6) cO.nd (aj dc hr aD (ae (pv 0) (ae (pv 5) (ae af ag)))))
  (aq (aY (PW.pt (kR (aB jJ (pv 6) af (aA _)) (jg (aB vA (av az (aW (gi K) (pv 2) (pv 6)) (pv 4)) (pv 1) (aA _))))) (aq (jI (av az (aW (gi K) (pv 2) (pv 6)) (pv 4)) (mQ (pv 2) (pv 6) set_list))) aK))))
  (ai (bH (i:=3) cO.nd (aj dc hr aD (ae (pv 0) (ae af (ae af ag)))))
  (aq (aE (dW rQ rfl T.Au Aw (ae (eH rfl (aM.gen (cl:=[("_law_signs",_),("_law_found",_)]) ["_law_found","_law_signs"] [2,3] [(".0",.local),("_law_k",.local),("_law_found",.cell),("_law_signs",.cell)] rfl) (eQ rfl T.iD (ae af ag)) (fun C s0 H0 fp pins=>av az (aW (gi K) (pv 1) (pv 0)) (av d8 af (av az af (av Jv (av Ju (pv 2) (pv 0)) af))))) ag)))))),?_⟩
 refine⟨(d6 3),fun fl Vq=>?_⟩
 have f0:=au Vq (.lst [.int 1,.int 1,.int 1])
 refine fun rs H0 g0 pr=>?_
 cases pr with
 | @cons p1 _ _ _ w1 pr=>
 cases pr with
 | @cons p2 _ _ _ w2 pr=>
 cases pr with
 | @cons p3 _ _ _ w3 pr=>
 cases pr with
 | @cons p4 _ _ _ w4 pr=>
 cases pr
 refine⟨(d6 4),fun pl G5=>?_⟩
 have f5:=au G5 (.lst [.ref p1,.ref p2,.ref p3,.ref p4])
 have h1:=f5 _ _ w1
 have h2:=f5 _ _ w2
 have h3:=f5 _ _ w3
 have h4:=f5 _ _ w4
 have t5:=(g0.trans f5) fl _ ah
 have gA:=f0.trans (g0.trans f5)
 have ir:(upd H0 pl (.lst [.ref p1,.ref p2,.ref p3,.ref p4])) pl=some (.lst [.ref p1,.ref p2,.ref p3,.ref p4]):=ah
 generalize XZ:(upd H0 pl (.lst [.ref p1,.ref p2,.ref p3,.ref p4]):Hp)=H1 at *
 have TF:upd H0 pl (.lst ([p1,p2,p3,p4].map V.ref))=H1:=XZ
 rw[TF]
 have X0:pl≠fl:=fun z=>by
  rw[z,t5] at ir
  cases ir
 have row:∀ (i:Nat) (x:V),([.ref p1,.ref p2,.ref p3,.ref p4]:List V)[i]?=some x->∃ (r:Addr) (pr rk:Int),x=.ref r/\H1 r=some (.tup [.int pr,.int rk])/\pr=qs i/\i<4/\0<rk/\rk<100000:=fun i x ex=>by
  match i,ex with
  | 0,ex=>exact⟨p1,2,7937,(ZG ex).symm,h1,rfl,by decide,by omega,by omega⟩
  | 1,ex=>exact⟨p2,3,7949,(ZG ex).symm,h2,rfl,by decide,by omega,by omega⟩
  | 2,ex=>exact⟨p3,5,7951,(ZG ex).symm,h3,rfl,by decide,by omega,by omega⟩
  | 3,ex=>exact⟨p4,7,7963,(ZG ex).symm,h4,rfl,by decide,by omega,by omega⟩
  | n+4,ex=>cases ex
 refine⟨pl,rfl,⟨_,aR.of ir⟩,gY (xs:=[.ref p1,.ref p2,.ref p3,.ref p4]) (fun i σ H'=>∃ (o4 o5 o6:Option V) (x y z:Int),σ=[some (.int c),some (.int m),some (.ref fl),none,o4,o5,o6]/\(∀ b o,b≠fl->H1 b=some o->H' b=some o)/\H' fl=some (.lst [.int x,.int y,.int z])/\PD i m x y z)
  ⟨none,none,none,1,1,1,rfl,fun _ _ _ h=>h,t5,Hj m1⟩ ?_ ?_ ?_⟩
 ·rintro i σ H' hi ⟨o4,o5,o6,x,y,z,rfl,k,_⟩
  exact aR.of (k _ _ X0 ir)
 ·rintro i v σ H' ev ⟨o4,o5,o6,x,y,z,rfl,k,hf,pp⟩
  obtain⟨r,pr,rk,rfl,hr,rfl,i4,a3,a4⟩:=row i v ev
  have X1:r≠fl:=fun w=>by
   rw[w,t5] at hr
   cases hr
  have kJ:=k _ _ X1 hr
  have a1:=(AI i4).2.2.2.2.1
  have a2:=(AI i4).2.2.2.2.2
  have ix:=pp.ix
  have iy:=pp.iy
  have iz:=pp.iz
  have kp:∀ (o:HO) b u,b≠fl->H1 b=some u->upd H' fl o b=some u:=fun o b u nb e=>by
   rw[aG nb]
   exact k b u nb e
  refine⟨r,_,rfl,aO.of kJ,rfl,_,_,rfl,_,_,rfl,rfl,?_⟩
  refine⟨_,rfl,_,rfl,c,rk,5,rfl,a3,a4,by decide,fun n n0 n1=>?_⟩
  refine⟨_,rfl,_,_,rfl,rfl,_,rfl,bJ (fun c1=>?_) (fun c1=>?_)⟩
  ·have lt:n<3:=bX c1
   obtain rfl|rfl|rfl:n=0\/n=1\/n=2:=by omega
   ·refine⟨_,rfl,_,rfl,fl,_,_,_,rfl,rfl,aR.of hf,rfl,_,rfl,_,_,rfl,rfl,kO (by omega) (by omega),_,rfl,_,_,rfl,rfl,_,rfl,bJ (fun c2=>?_) (fun c2=>?_)⟩
    ·refine⟨_,rfl,_,rfl,fl,_,_,_,rfl,rfl,aR.of hf,rfl,_,rfl,_,_,rfl,rfl,kO (by omega) (by omega),_,rfl,_,rfl,fl,_,_,0,rfl,rfl,hf,rfl,?_⟩
     exact⟨_,_,_,x*qs i,y,z,rfl,kp _,ah,pp.put i4 (bX c2)⟩
    ·exact⟨_,_,_,x,y,z,rfl,k,hf,pp.skip i4⟩
   ·refine⟨_,rfl,_,rfl,fl,_,_,_,rfl,rfl,aR.of hf,rfl,_,rfl,_,_,rfl,rfl,kO (by omega) (by omega),_,rfl,_,_,rfl,rfl,_,rfl,bJ (fun c2=>?_) (fun c2=>?_)⟩
    ·refine⟨_,rfl,_,rfl,fl,_,_,_,rfl,rfl,aR.of hf,rfl,_,rfl,_,_,rfl,rfl,kO (by omega) (by omega),_,rfl,_,rfl,fl,_,_,1,rfl,rfl,hf,rfl,?_⟩
     exact⟨_,_,_,x,y*qs i,z,rfl,kp _,ah,(pp.fO.put i4 (bX c2)).fO.fO⟩
    ·exact⟨_,_,_,x,y,z,rfl,k,hf,pp.skip i4⟩
   ·refine⟨_,rfl,_,rfl,fl,_,_,_,rfl,rfl,aR.of hf,rfl,_,rfl,_,_,rfl,rfl,kO (by omega) (by omega),_,rfl,_,_,rfl,rfl,_,rfl,bJ (fun c2=>?_) (fun c2=>?_)⟩
    ·refine⟨_,rfl,_,rfl,fl,_,_,_,rfl,rfl,aR.of hf,rfl,_,rfl,_,_,rfl,rfl,kO (by omega) (by omega),_,rfl,_,rfl,fl,_,_,2,rfl,rfl,hf,rfl,?_⟩
     exact⟨_,_,_,x,y,z*qs i,rfl,kp _,ah,(pp.fO.fO.put i4 (bX c2)).fO⟩
    ·exact⟨_,_,_,x,y,z,rfl,k,hf,pp.skip i4⟩
  ·exact⟨_,_,_,x,y,z,rfl,k,hf,pp.skip i4⟩
 ·rintro σ H' ⟨o4,o5,o6,x,y,z,rfl,k,hf,pp⟩
  have Qc:PD 4 m x y z:=pp
  have gE:aw H H':=fun b o e=>k b o (aI e Vq) (gA b o e)
  have ix:=Qc.ix
  have iy:=Qc.iy
  have iz:=Qc.iz
  refine⟨_,rfl,c,8009,8,rfl,by decide,by decide,by decide,fun sg s0 s1=>?_⟩
  refine⟨3,rfl,by decide,by decide,kZ 3 (by decide) (fun i vs _=>∃ ms:List Int,vs=ms.map V.int/\ms.length=i/\∀ (j:Nat) (w:Int),ms[j]?=some w->∃ v,[x,y,z][j]?=some v/\(w=v\/w=-v)) (fun _ _=>⟨[],rfl,rfl,fun _ _ h=>by cases h⟩) ?_ ?_⟩
  ·intro i vs H2 acc Q' hi g h0 ha r hl kk
   have Si:=g _ _ hf
   obtain⟨ms,rfl,ml,mb⟩:=r
   obtain⟨w,ew,X2,w1,w2⟩:∃ w:Int,pZ [V.int x,.int y,.int z] (0+(i:Int))=some (.int w)/\[x,y,z][i]?=some w/\1<=w/\w<=m:=by
    obtain rfl|rfl|rfl:=UX hi
    ·exact⟨x,rfl,rfl,ix⟩
    ·exact⟨y,rfl,rfl,iy⟩
    ·exact⟨z,rfl,rfl,iz⟩
   refine⟨_,rfl,_,rfl,fl,_,_,_,rfl,rfl,aR.of Si,ew,_,rfl,_,rfl,_,_,rfl,rfl,(by show (0:Int)<=0+(i:Int);omega),_,_,rfl,rfl,_,_,rfl,rfl,L5,_,_,rfl,rfl,_,_,rfl,rfl,?_,?_⟩
   ·exact kO (by omega) (by omega)
   ·refine kk _ _ (aw.refl _) ⟨ms++[_],by rw[aaw];rfl,by simp[ml],fun j u hu=>?_⟩
    by_cases jl:j<ms.length
    ·rw[List.getElem?_append_left jl] at hu
     exact mb j u hu
    ·rw[acK (by omega)] at hu
     have j0:j-ms.length=0:=by
      by_cases z:j-ms.length=0
      ·exact z
      ·rw[List.getElem?_eq_none (by simp;omega)] at hu
       cases hu
     rw[j0] at hu
     have X3:=ZG hu
     obtain rfl:j=i:=by omega
     exact⟨w,X2,OK (OB (sg / 2^(0+(j:Int)).toNat)) X3.symm⟩
  ·intro l H2 vs g nl hl _ r
   obtain⟨ms,rfl,ml,mb⟩:=r
   match ms,ml,mb with
   | [u,v,w],_,mb=>
    obtain⟨_,e1,X4⟩:=mb 0 u rfl
    obtain⟨_,e2,X5⟩:=mb 1 v rfl
    obtain⟨_,e3,X6⟩:=mb 2 w rfl
    cases e1
    cases e2
    cases e3
    obtain⟨d1,d2,d3,d4,d5⟩:=Ln Qc X4 X5 X6
    exact⟨l,_,rfl,.inl ⟨aR.of hl,fun zz nz=>q zz _ u v w (gE.trans (g.trans (au nz _))) ah d1 d2 d3 d4 d5⟩⟩
theorem Fj (F:Fn K mg "_law_great" gO)(T:Txt K mg t)(di:aV P w K mg base aU 2 "_law_plain_drawn" ["_law_cell","_law_most"] (uR))(dc:aV P w K mg base aU 1 "_law_drawn" ["_law_cell","_law_prime","_law_many"] (mr)):aV P w K mg base aU 3 "_law_great" ["_law_cell","_law_other"] (Lo):=by
 refine F.ok ja (fun f aZ A outer s H vs Q E hr h=>?_)
 obtain⟨c,o,rfl,q⟩:=h
 obtain⟨es,e1,e2,e3,TC,e⟩:∃ (es:List Expr) (e1 e2 e3:Pos),vJ es OL/\aP gO=[(aP gO).getD 0 (.Pass ⟨0,0,0,0⟩),(aP gO).getD 1 (.Pass ⟨0,0,0,0⟩),(aP gO).getD 2 (.Pass ⟨0,0,0,0⟩),.Assign [.Name "_law_primes_here" e1] (.List es e2) e3,(aP gO).getD 4 (.Pass ⟨0,0,0,0⟩),(aP gO).getD 5 (.Pass ⟨0,0,0,0⟩)]:=
  ⟨_,_,_,_,.cons (.cons (.cons (.cons (.cons (.cons (.cons (.cons (.cons (.cons (.cons (.cons .nil))))))))))),rfl⟩
 rw[e]
 refine⟨_,ai (bH (i:=2) ja.nd (dW lU rfl T.Er Es (ae (aj di hr aD (ae (pv 0) (ae af ag))) ag)))
  (ai (bH (i:=3) ja.nd (aj dc hr aD (ae (pv 1) (ae af (ae af ag)))))
  (cu (jI (av az (aW (gi K) (pv 2) (pv 3)) (aW (gi K) (bG (ae af (ae af ag))) (aj dc hr aD (ae (pv 1) (ae af (ae af ag)))))) (mQ (pv 2) (pv 3) set_list))
  (ai (bH (i:=4) ja.nd (bG (F1 TC)))
  (ai (gh aah rfl (eQ rfl T.iD (ae af ag)) (sM (i:=5) ja.nd) (ai (bH (i:=3) ja.nd (av cW af (aj dc hr aD (ae (av cW (pv 1) (av az af (pv 5))) (ae af (ae af ag))))))
  (aq (aY (PW.pt (kR (aB jJ (pv 3) af (aA _)) (jg (aB vA (av az (aJ bQ rfl T.fW fX (ae (aW (gi K) (pv 2) (pv 3)) ag)) (aW (gi K) (pv 4) (pv 5))) af (aA _))))) (aq (jI (av az (aW (gi K) (pv 2) (pv 3)) (aW (gi K) (pv 4) (pv 5))) (mQ (pv 2) (pv 3) set_list))) aK))))
  (aq (aE (pv 2))))))),?_⟩
 refine⟨_,rfl,c,2,rfl,by decide,by decide,fun r H1 a b d g1 IT gd ba bb Qd _=>?_⟩
 refine⟨r,_,rfl,.inr (aO.of IT),fun l nl=>?_⟩
 have nH:H l=none:=g1.free nl
 have f0:=au nl (.lst [.int a,.int b,.int d])
 have a2:a.natAbs<=2:=ba
 have b2:b.natAbs<=2:=bb
 have d2:d.natAbs<=2:=Qd
 have g3:GD 3 a b d:=⟨gd.pl,qY gd.pl.a0 a2,qY gd.pl.b0 b2,qY gd.pl.c0 d2⟩
 refine⟨_,rfl,o,7951,2,rfl,by decide,by decide,by decide,fun n n0 n1=>?_⟩
 refine⟨fun σ' H'=>∃ a' b':Int,σ'=[some (.int c),some (.int o),some (.ref l),some (.int n),none,none]/\aw H H'/\H' l=some (.lst [.int a',.int b',.int d])/\GD 5 a' b' d/\a'.natAbs<=6/\b'.natAbs<=6,?_,?_⟩
 ·obtain⟨w,ew,hw⟩:∃ w:Int,pZ [V.int a,.int b,.int d] n=some (.int w)/\((n=0/\w=a)\/(n=1/\w=b)):=by
   obtain rfl|rfl:n=0\/n=1:=by omega
   ·exact⟨a,rfl,.inl ⟨rfl,rfl⟩⟩
   ·exact⟨b,rfl,.inr ⟨rfl,rfl⟩⟩
  refine⟨_,rfl,_,rfl,l,_,_,_,rfl,rfl,aR.of ah,ew,(d6 2),fun p2 m2=>⟨_,rfl,o,7963,2,rfl,by decide,by decide,by decide,fun k k0 k1=>?_⟩⟩
  have f2:=au m2 (.lst [.int 1,.int 3])
  have P7:=f2 _ _ (ah (H:=H1) (a:=l) (o:=.lst [.int a,.int b,.int d]))
  obtain⟨y,ey,hy⟩:∃ y:Int,pZ [V.int 1,.int 3] k=some (.int y)/\(y=1\/y=3):=by
   obtain rfl|rfl:k=0\/k=1:=by omega
   ·exact⟨1,rfl,.inl rfl⟩
   ·exact⟨3,rfl,.inr rfl⟩
  refine⟨p2,_,_,_,rfl,rfl,aR.of ah,ey,_,_,rfl,rfl,cK (by omega) (by omega),_,rfl,_,rfl,?_⟩
  have gS:∀ o:HO,aw H (upd (upd (upd H1 l (.lst [.int a,.int b,.int d])) p2 (.lst [.int 1,.int 3])) l o):=fun o=>uF (g1.trans (f0.trans f2)) nH
  have lim:∀ {x:Int},x.natAbs<=2->(x*y).natAbs<=6:=fun {x} hx=>by
   rw[Z7]
   exact ZV (abd hx (show y.natAbs<=3 by omega)) (by decide)
  rcases hw with ⟨rfl,rfl⟩|⟨rfl,rfl⟩
  ·exact⟨l,_,_,0,rfl,rfl,P7,rfl,w*y,b,rfl,gS _,ah,UZ g3 hy,lim a2,by omega⟩
  ·exact⟨l,_,_,1,rfl,rfl,P7,rfl,a,w*y,rfl,gS _,ah,(UZ g3.fO hy).fO.fO,by omega,lim b2⟩
 rintro _ H2 ⟨a',b',rfl,g2,tR,X7,a6,b6⟩
 refine⟨(d6 12),fun pl G5=>?_⟩
 have f3:=au G5 (.lst (OL.map V.int))
 refine⟨12,rfl,by decide,by decide,mR (fun i σ H'=>∃ (a b d n:Int) (ok:Option V),σ=[some (.int c),some (.int o),some (.ref l),some (.int n),some (.ref pl),ok]/\aw H H'/\H' l=some (.lst [.int a,.int b,.int d])/\H' pl=some (.lst (OL.map V.int))/\GD (Hk i) a b d/\a.natAbs<=6/\b.natAbs<=1000/\d.natAbs<=1000) ⟨a',b',d,n,none,rfl,g2.trans f3,f3 _ _ tR,ah,X7,a6,by omega,by omega⟩ ?_ ?_⟩
 ·rintro i σ H3 hi ⟨x,y,z,nn,ok,rfl,gs,oU,ir,L9,bx,rk,bz⟩
  have Cb:i<12:=hi
  obtain⟨l5,lt,l9⟩:=SY i Cb
  have Vr:=SX i Cb
  have pp:=OM Cb
  have OY:pl≠l:=fun e=>by rw[e,oU] at ir;cases ir
  refine⟨_,rfl,_,rfl,_,_,rfl,rfl,kO (by decide) (by decide),_,_,rfl,rfl,_,7993,4,rfl,by decide,by decide,by decide,fun k k0 k1=>?_⟩
  refine⟨_,_,rfl,rfl,_,rfl,_,_,rfl,rfl,_,rfl,bJ (fun c1=>?_) (fun c1=>?_)⟩
  ·have U8:1+k<3:=bX c1
   obtain⟨w,ew,wb,hw⟩:∃ w:Int,pZ [V.int x,.int y,.int z] (1+k)=some (.int w)/\w.natAbs<=1000/\((k=0/\w=y)\/(k=1/\w=z)):=by
    obtain rfl|rfl:k=0\/k=1:=by omega
    ·exact⟨y,rfl,rk,.inl ⟨rfl,rfl⟩⟩
    ·exact⟨z,rfl,bz,.inr ⟨rfl,rfl⟩⟩
   refine⟨_,rfl,_,rfl,l,_,_,_,rfl,rfl,aR.of oU,ew,_,rfl,_,rfl,_,rfl,pl,_,_,_,rfl,rfl,aR.of ir,Vr,_,_,rfl,rfl,cK (by omega) (by omega),_,_,rfl,rfl,_,rfl,bJ (fun c2=>?_) (fun c2=>?_)⟩
   ·have le:=mul_k (x:=w) (bX c2) (by omega)
    refine⟨_,rfl,_,rfl,l,_,_,_,rfl,rfl,aR.of oU,ew,_,rfl,_,rfl,pl,_,_,_,rfl,rfl,aR.of ir,Vr,_,_,rfl,rfl,cK (by omega) (by omega),_,rfl,_,rfl,?_⟩
    rcases hw with ⟨rfl,rfl⟩|⟨rfl,rfl⟩
    ·exact⟨l,_,_,1,rfl,rfl,oU,rfl,x,w*Hk i,z,1+0,_,rfl,uF gs nH,ah,(by rw[aG OY];exact ir),(L9.fO.mul pp lt).fO.fO,bx,le,bz⟩
    ·exact⟨l,_,_,2,rfl,rfl,oU,rfl,x,y,w*Hk i,1+1,_,rfl,uF gs nH,ah,(by rw[aG OY];exact ir),(L9.fO.fO.mul pp lt).fO,bx,rk,le⟩
   ·exact⟨x,y,z,1+k,_,rfl,gs,oU,ir,L9.mono (by omega),bx,rk,bz⟩
  ·exact⟨x,y,z,1+k,_,rfl,gs,oU,ir,L9.mono (by omega),bx,rk,bz⟩
 ·rintro σ H3 ⟨x,y,z,nn,ok,rfl,gs,oU,ir,L9,bx,rk,bz⟩
  exact⟨_,rfl,q l H3 x y z gs nH oU L9 bx rk bz⟩
theorem B8 (F:Fn K mg "_law_triple" qL)(T:Txt K mg t)(dc:aV P w K mg base aU 1 "_law_drawn" ["_law_cell","_law_prime","_law_many"] (mr))(vj:aV P w K mg base aU 1 "_law_of" ["_law_script","_law_k"] (K7 K))(di:aV P w K mg base aU 2 "_law_plain_drawn" ["_law_cell","_law_most"] (uR))(vk:aV P w K mg base aU 3 "_law_great" ["_law_cell","_law_other"] (Lo)):aV P w K mg base aU 4 "_law_triple" ["_law_script"] (E4 K):=by
 refine F.ok gU (fun f aZ A outer s H vs Q E hr h=>?_)
 obtain⟨sa,ns,rfl,hS,q⟩:=h
 refine⟨_,ai (bH (i:=1) gU.nd (aj dc hr aD (ae (aj vj hr aD (ae (pv 0) (ae af ag))) (ae af (ae af ag)))))
  (ai (bH (i:=2) gU.nd (dW lU rfl T.Er Es (ae (aj di hr aD (ae (aj vj hr aD (ae (pv 0) (ae af ag))) (ae (aW (gi K) (bG (ae af (ae af ag))) (dW ku rfl T.wN wQ (ae (bM iq (pv 1) af (aA _)) ag))) ag))) ag)))
  (cu (aY (aB iq (pv 1) af (aA _)) (aq (bH (i:=2) gU.nd (aj vk hr aD (ae (aj vj hr aD (ae (pv 0) (ae af ag))) (ae (aj vj hr aD (ae (pv 0) (ae af ag))) ag))))) aK)
  (cu (aY (PW.pt (kR (aB bE (aj dc hr aD (ae (aj vj hr aD (ae (pv 0) (ae af ag))) (ae af (ae af ag)))) af (aA _)) (jg (aB bE (bM iq (aW (gi K) (pv 2) af) af (aA _)) (bM iq (aW (gi K) (pv 2) af) af (aA _)) (aA _))))) (aq (jI (av az (aJ bQ rfl T.fW fX (ae (aW (gi K) (pv 2) af) ag)) (av d8 af (av az af (dW ku rfl T.wN wQ (ae (bM iq (aW (gi K) (pv 2) af) af (aA _)) ag))))) (mQ (pv 2) af set_list))) aK)
  (ai (bH (i:=3) gU.nd (aj dc hr aD (ae (aj vj hr aD (ae (pv 0) (ae af ag))) (ae af (ae af ag)))))
  (cu (aY (aB bE (pv 1) af (aA _)) (aq (jI af (mQ (pv 2) (pv 3) set_list))) aK)
  (cu (aY (aB bE (pv 1) af (aA _)) (aq (jI (av az (aW (gi K) (pv 2) (pv 3)) (aW (gi K) (bG (ae af (ae af ag))) (aj dc hr aD (ae (aj vj hr aD (ae (pv 0) (ae af ag))) (ae af (ae af ag)))))) (mQ (pv 2) (pv 3) set_list))) aK)
  (cu (aY (aB bE (pv 1) af (aA _)) (aq (bH (i:=2) gU.nd (eH rfl (aM.gen (cl:=[("_law_triple_here",_),("_law_at",_)]) ["_law_at","_law_triple_here"] [3,2] [(".0",.local),("_law_k",.local),("int",.globalImplicit),("_law_at",.cell),("_law_triple_here",.cell)] rfl) (eQ rfl T.iD (ae af ag)) (fun C s0 H0 fp pins=>av az (aW (gi K) (pv 2) (pv 0)) (aW (gi K) (bG (ae af (ae af ag))) (dW ku rfl T.wN wQ (ae (bM bE (pv 0) (pv 1) (aA _)) ag))))))) aK)
  (aq (aE (aS (ae (pv 2) (ae (bM iq (pv 1) af (aA _)) ag)))))))))))),?_⟩
 refine⟨_,rfl,sa,ns,0,rfl,hS,by decide,by decide,fun n0=>⟨_,7933,18,rfl,by decide,by decide,by decide,fun kd k0 k1=>?_⟩⟩
 obtain⟨m,em,m1,m2,X8⟩:∃ m:Int,pZ [V.int 90,.int 210] (if decide (kd > 2)=true then 1 else 0)=some (.int m)/\1<=m/\m<=210/\(kd<=2->m=90):=by
  by_cases h:kd > 2
  ·exact⟨210,by rw[aay h];rfl,by decide,by decide,fun z=>by omega⟩
  ·exact⟨90,by rw[aao h];rfl,by decide,by decide,fun _=>rfl⟩
 refine⟨_,rfl,sa,ns,1,rfl,hS,by decide,by decide,fun n1=>⟨(d6 2),fun p2 LR=>⟨_,rfl,_,_,rfl,rfl,.inr ⟨_,rfl,p2,_,_,_,rfl,rfl,aR.of ah,em,_,m,rfl,m1,m2,fun r H1 a b d g1 IT gd ba bb Qd bp=>?_⟩⟩⟩⟩
 have f0:=au LR (.lst [.int 90,.int 210])
 have Qe:=f0.trans g1
 refine⟨r,_,rfl,.inr (aO.of IT),fun l nl=>?_⟩
 have nH:H l=none:=Qe.free nl
 have f1:=au nl (.lst [.int a,.int b,.int d])
 have LW:Hl 0 kd a b d:=by
  refine⟨by unfold K3;omega,by unfold K3;omega,by unfold K3;omega,fun z=>by omega,fun _=>⟨gd.mono (by decide),by omega,fun z=>?_⟩⟩
  have:=X8 z
  subst this
  exact⟨ba,bb,Qd⟩
 refine⟨fun σ' H'=>∃ (l:Addr) (x y z:Int),σ'=[some (.ref sa),some (.int kd),some (.ref l),none]/\aw H H'/\H l=none/\H' l=some (.lst [.int x,.int y,.int z])/\Hl 0 kd x y z,?_,?_⟩
 ·refine⟨_,rfl,_,_,rfl,rfl,_,rfl,bJ (fun c1=>?_) (fun c1=>?_)⟩
  ·have gA:=Qe.trans f1
   refine⟨_,rfl,sa,ns,1,rfl,gA.seq hS,by decide,by decide,fun u1=>⟨_,rfl,sa,ns,3,rfl,gA.seq hS,by decide,by decide,fun u2=>⟨_,_,rfl,fun l2 H2 x y z g2 n2 tR X9 bx rk bz=>?_⟩⟩⟩
   have k9:kd > 9:=bX c1
   refine⟨l2,x,y,z,rfl,gA.trans g2,gA.free n2,tR,by unfold K3;omega,by unfold K3;omega,by unfold K3;omega,fun w=>by omega,fun _=>⟨X9,?_,fun w=>by omega⟩⟩
   rw[Z7,Z7]
   exact ZV (abd (abd bx rk) bz) (by decide)
  ·exact⟨l,a,b,d,rfl,Qe.trans f1,nH,ah,LW⟩
 clear nl nH f1 LW gd ba bb Qd bp IT Qe g1
 rintro _ H2 ⟨l,x,y,z,rfl,g2,nH,hl,st⟩
 refine⟨fun σ' H'=>∃ z':Int,σ'=[some (.ref sa),some (.int kd),some (.ref l),none]/\aw H H'/\H' l=some (.lst [.int x,.int y,.int z'])/\Hl 0 kd x y z',?_,?_⟩
 ·refine⟨_,rfl,sa,ns,0,rfl,g2.seq hS,by decide,by decide,fun u1=>⟨_,7927,2,rfl,by decide,by decide,by decide,fun u v0 v1=>⟨rfl,_,rfl,bJ (fun c1=>?_) (fun c1=>?_)⟩⟩⟩
  ·refine⟨_,rfl,l,_,_,_,rfl,rfl,aR.of hl,rfl,_,_,rfl,rfl,_,rfl,l,_,_,_,rfl,rfl,aR.of hl,rfl,_,_,rfl,rfl,rfl,_,rfl,bJ (fun c2=>?_) (fun c2=>?_)⟩
   ·refine⟨_,rfl,l,_,_,_,rfl,rfl,aR.of hl,rfl,_,rfl,_,rfl,l,_,_,_,rfl,rfl,aR.of hl,rfl,_,_,rfl,rfl,.inr ⟨_,rfl,_,_,rfl,rfl,L5,_,_,rfl,rfl,_,_,rfl,rfl,?_,_,rfl,l,_,_,2,rfl,rfl,hl,rfl,_,rfl,uF g2 nH,ah,?_⟩⟩
    ·exact cK (by split<;>decide) (by split<;>decide)
    ·obtain⟨h1,h2,h3,h4,h5⟩:=st
     obtain⟨g5,b5,k5⟩:=h5 k0
     have sg:=S7 (z:=z) (s:=if decide (x > 0)=true then 1 else 0) (by split<;>simp)
     unfold aF at sg
     generalize (if z<0 then -z else z)*(1-2*if decide (x > 0)=true then 1 else 0)=z' at *
     have ez:z'.natAbs=z.natAbs:=by omega
     refine⟨h1,h2,by unfold K3 at *;omega,fun w=>by omega,fun _=>⟨(g5.fO.fO.P4 sg).fO,?_,fun w=>by have:=k5 w;omega⟩⟩
     rw[Z7,ez,<- Z7]
     exact b5
   ·exact⟨z,rfl,g2,hl,st⟩
  ·exact⟨z,rfl,g2,hl,st⟩
 rintro _ H3 ⟨z',rfl,g3,oU,LF⟩
 clear hl st
 refine⟨_,rfl,sa,ns,2,rfl,g3.seq hS,by decide,by decide,fun u1=>⟨_,7937,3,rfl,by decide,by decide,by decide,fun n v0 v1=>?_⟩⟩
 -- TH
 refine⟨fun σ' H'=>∃ x y z:Int,σ'=[some (.ref sa),some (.int kd),some (.ref l),some (.int n)]/\aw H H'/\H' l=some (.lst [.int x,.int y,.int z])/\Hl 1 kd x y z,?_,?_⟩
 ·refine⟨_,rfl,rfl,_,rfl,bJ (fun c1=>?_) (fun c1=>?_)⟩
  ·have e0:kd=0:=aL (bX c1)
   obtain⟨h1,h2,h3,h4,h5⟩:=LF
   refine⟨_,rfl,_,rfl,?_⟩
   obtain rfl|rfl|rfl:n=0\/n=1\/n=2:=by omega
   ·exact⟨l,_,_,0,rfl,rfl,oU,rfl,0,y,z',rfl,uF g3 nH,ah,by unfold K3;decide,h2,h3,fun _ P=>P.a0 rfl,fun w=>by omega⟩
   ·exact⟨l,_,_,1,rfl,rfl,oU,rfl,x,0,z',rfl,uF g3 nH,ah,h1,by unfold K3;decide,h3,fun _ P=>P.b0 rfl,fun w=>by omega⟩
   ·exact⟨l,_,_,2,rfl,rfl,oU,rfl,x,y,0,rfl,uF g3 nH,ah,h1,h2,by unfold K3;decide,fun _ P=>P.c0 rfl,fun w=>by omega⟩
  ·exact⟨x,y,z',rfl,g3,oU,LF.up fun e=>du c1 (aai V.int e)⟩
 rintro _ H4 ⟨x1,y1,z1,rfl,g4,Ma,Gb⟩
 clear oU LF
 -- a square
 refine⟨fun σ' H'=>∃ x y z:Int,σ'=[some (.ref sa),some (.int kd),some (.ref l),some (.int n)]/\aw H H'/\H' l=some (.lst [.int x,.int y,.int z])/\Hl 2 kd x y z,?_,?_⟩
 ·refine⟨_,rfl,rfl,_,rfl,bJ (fun c1=>?_) (fun c1=>?_)⟩
  ·have e1:kd=1:=aL (bX c1)
   obtain⟨h1,h2,h3,h4,h5⟩:=Gb
   obtain⟨_,_,b5⟩:=h5 (by omega)
   obtain⟨bx,rk,bz⟩:=b5 (by omega)
   obtain⟨w,ew,hw⟩:∃ w:Int,pZ [V.int x1,.int y1,.int z1] n=some (.int w)/\((n=0/\w=x1)\/(n=1/\w=y1)\/(n=2/\w=z1)):=by
    obtain rfl|rfl|rfl:n=0\/n=1\/n=2:=by omega
    ·exact⟨x1,rfl,.inl ⟨rfl,rfl⟩⟩
    ·exact⟨y1,rfl,.inr (.inl ⟨rfl,rfl⟩)⟩
    ·exact⟨z1,rfl,.inr (.inr ⟨rfl,rfl⟩)⟩
   refine⟨_,rfl,_,rfl,l,_,_,_,rfl,rfl,aR.of Ma,ew,(d6 2),fun p4 m4=>?_⟩
   have f4:=au m4 (.lst [.int 4,.int 9])
   have Fl:=f4 _ _ Ma
   refine⟨_,rfl,sa,ns,2,rfl,(g4.trans f4).seq hS,by decide,by decide,fun u2=>⟨_,7949,2,rfl,by decide,by decide,by decide,fun k Zw Zx=>?_⟩⟩
   obtain⟨v,ev,pr,TJ,ve,vb⟩:∃ v:Int,pZ [V.int 4,.int 9] k=some (.int v)/\∃ p:Int,Pr.bU p/\v=p*p/\v.natAbs<=11:=by
    obtain rfl|rfl:k=0\/k=1:=by omega
    ·exact⟨4,rfl,2,GN,rfl,by decide⟩
    ·exact⟨9,rfl,3,S5,rfl,by decide⟩
   refine⟨p4,_,_,_,rfl,rfl,aR.of ah,ev,_,_,rfl,rfl,cK (by omega) (by omega),_,rfl,_,rfl,?_⟩
   have gS:∀ o:HO,aw H (upd (upd H4 p4 (.lst [.int 4,.int 9])) l o):=fun o=>uF (g4.trans f4) nH
   rcases hw with ⟨rfl,rfl⟩|⟨rfl,rfl⟩|⟨rfl,rfl⟩
   ·exact⟨l,_,_,0,rfl,rfl,Fl,rfl,w*v,y1,z1,rfl,gS _,ah,nM bx vb,h2,h3,fun _=>(E5 TJ ve).1,fun w=>by omega⟩
   ·exact⟨l,_,_,1,rfl,rfl,Fl,rfl,x1,w*v,z1,rfl,gS _,ah,h1,nM rk vb,h3,fun _=>(E5 TJ ve).2.1,fun w=>by omega⟩
   ·exact⟨l,_,_,2,rfl,rfl,Fl,rfl,x1,y1,w*v,rfl,gS _,ah,h1,h2,nM bz vb,fun _=>(E5 TJ ve).2.2,fun w=>by omega⟩
  ·exact⟨x1,y1,z1,rfl,g4,Ma,Gb.up fun e=>du c1 (aai V.int e)⟩
 rintro _ H5 ⟨x2,y2,z2,rfl,g5,B9,LG⟩
 clear Ma Gb
 -- a prime in two of Ya
 refine⟨fun σ' H'=>∃ (l:Addr) (x y z:Int),σ'=[some (.ref sa),some (.int kd),some (.ref l),some (.int n)]/\aw H H'/\H' l=some (.lst [.int x,.int y,.int z])/\Hl 3 kd x y z,?_,?_⟩
 ·refine⟨_,rfl,rfl,_,rfl,bJ (fun c1=>?_) (fun c1=>?_)⟩
  ·have e2:kd=2:=aL (bX c1)
   obtain⟨h1,h2,h3,h4,h5⟩:=LG
   obtain⟨_,_,b5⟩:=h5 (by omega)
   obtain⟨bx,rk,bz⟩:=b5 (by omega)
   refine⟨3,rfl,by decide,by decide,kZ 3 (by decide) (fun i vs _=>vs=(List.range i).map fun j=>V.int ([x2,y2,z2].getD j 0*(if (0+(j:Int))=n then 1 else 11))) (fun _ _=>rfl) ?_ ?_⟩
   ·intro i vs H6 acc Q' hi g6 h0 ha r6 Qf kk
    subst r6
    have ew:pZ [V.int x2,.int y2,.int z2] (0+(i:Int))=some (.int ([x2,y2,z2].getD i 0)):=by
     obtain rfl|rfl|rfl:=UX hi<;>rfl
    refine⟨_,rfl,_,rfl,l,_,_,_,rfl,rfl,aR.of (g6 _ _ B9),ew,(d6 2),fun p6 m6=>?_⟩
    have f6:=au m6 (.lst [.int 11,.int 1])
    have ev:pZ [V.int 11,.int 1] (if decide (V.int (0+(i:Int))=V.int n)=true then 1 else 0)=some (.int (if (0+(i:Int))=n then 1 else 11)):=by
     by_cases e:(0+(i:Int))=n
     ·rw[e,aay rfl,aag rfl,aag rfl];rfl
     ·rw[aao (fun w=>e (aL w)),Z4 (by decide),Z4 e];rfl
    refine⟨_,rfl,_,rfl,rfl,.inr ⟨_,rfl,p6,_,_,_,rfl,rfl,aR.of ah,ev,_,_,rfl,rfl,?_,kk _ _ f6 ?_⟩⟩
    ·exact cK (by split<;>decide) (by split<;>decide)
    ·rw[adR,aaw]
     rfl
   ·intro l6 H6 vs g6 n6 Qf _ r6
    subst r6
    have Lu:H6 l6=some (.lst [.int (x2*(if (0+((0:Nat):Int))=n then 1 else 11)),.int (y2*(if (0+((1:Nat):Int))=n then 1 else 11)),.int (z2*(if (0+((2:Nat):Int))=n then 1 else 11))]):=Qf
    have fb:∀ i:Int,(if i=n then (1:Int) else 11).natAbs<=11:=fun i=>by split<;>decide
    refine⟨l6,_,_,_,rfl,g5.trans g6,Lu,nM bx (fb _),nM rk (fb _),nM bz (fb _),fun _ P=>?_,fun w=>by omega⟩
    obtain rfl|rfl|rfl:n=0\/n=1\/n=2:=by omega
    ·exact P.bc 11 E6 (aab _ _) (aab _ _)
    ·exact P.ca 11 E6 (aab _ _) (aab _ _)
    ·exact P.ab 11 E6 (aab _ _) (aab _ _)
  ·exact⟨l,x2,y2,z2,rfl,g5,B9,LG.up fun e=>du c1 (aai V.int e)⟩
 rintro _ H6 ⟨l7,x3,y3,z3,rfl,g6,Yb,Yc⟩
 refine⟨_,rfl,_,rfl,_,_,rfl,rfl,(d6 2),fun p9 m9=>?_⟩
 have f9:=au m9 (.tup [.ref l7,.bl (decide (kd > 2))])
 obtain⟨h1,h2,h3,h4,h5⟩:=Yc
 exact q p9 l7 _ x3 y3 z3 _ (g6.trans f9) ah (f9 _ _ Yb) h1 h2 h3 (fun w=>have k3:kd > 2:=acq w;⟨(h5 (by omega)).1.pl,(h5 (by omega)).2.1⟩) (fun w=>h4 (by have:¬ kd > 2:=of_decide_eq_false w;omega))
theorem zf (F:Fn K mg "_law_refused" nE)(T:Txt K mg t)(bO:aV P w K mg base (XB P w) 10 "small_point" ["a","b","c"] (mv K t.lP t.c6 t.c4)):aV P w K mg base aU 11 "_law_refused" ["_law_triple_here"] (uS t.lP):=by
 refine F.ok ic (fun f aZ A outer s H vs Q E hr h=>?_)
 obtain⟨l,a,b,c,rfl,hl,a3,b3,c3,rl,ex,qn,qb⟩:=h
 refine⟨_,ai (bH (i:=1) ic.nd (bG (ae gH (ae gH (ae xE ag)))))
  (ai (Dp (i:=2) (C1:=t.c6) (C2:=t.c4) bO hr (ae (aW (gi K) (pv 0) af) (ae (aW (gi K) (pv 0) af) (ae (aW (gi K) (pv 0) af) ag))) T.lH T.js T.lG T.lI T.Ou ic.nd (fun ea o u=>aq (bH (i:=1) ic.nd (bG (ae (aJ (iV (K:=K) rfl) rfl T.cD oO (ae (pv 2) (ae (tI (v:=.ref t.c4) rfl T.lG rfl) ag))) (ae (aJ (iV (K:=K) rfl) rfl T.cD oO (ae (pv 2) (ae (tI (v:=.ref t.c5) rfl T.BS rfl) ag))) (ae (CT K (pv 2)) ag)))))) (fun ea=>aq (bH (i:=1) ic.nd (bG (ae gH (ae (aJ (iV (K:=K) rfl) rfl T.cD oO (ae (pv 2) (ae (tI (v:=.ref t.c6) rfl T.lH rfl) ag))) (ae xE ag)))))))
  (aq (aE (pv 1)))),?_⟩
 refine⟨(d6 3),fun p0 n0=>?_⟩
 have f0:=au n0 (.lst [.bl false,.bl false,.eB])
 have TK:=f0 _ _ hl
 refine⟨_,rfl,l,_,_,_,rfl,rfl,aR.of TK,rfl,_,rfl,l,_,_,_,rfl,rfl,aR.of TK,rfl,_,rfl,l,_,_,_,rfl,rfl,aR.of TK,rfl,a,b,c,rfl,a3,b3,c3,eI.same f0 rl,fun pl nb=>?_,fun pl x hx mn dx H2 g2 oY=>.inl ⟨dx,rfl,rfl,fun e o he=>?_⟩,fun nP H2 g2=>.inr ⟨rfl,rfl,fun e he=>?_⟩⟩
 ·obtain⟨x,hx⟩:=ex pl
  exact absurd hx (nb x)
 ·have g3:=au he (.mK o (.ext (jz t.c6 e dx)))
  have rd:Rd (upd H2 e (.mK o (.ext (jz t.c6 e dx)))) e (.ext (jz t.c6 e dx)):=.inr ⟨o,ah⟩
  refine⟨_,rfl,_,_,_,_,rfl,.inl ⟨_,rfl⟩,.exc T.exc rd,T.W6,_,rfl,_,_,_,_,rfl,.inl ⟨_,rfl⟩,.exc T.exc rd,T.W7,_,rfl,e,t.c6,dx,_,_,rfl,rd,g3 _ _ oY,T.mj,rfl,(d6 3),fun r nr=>?_⟩
  exact⟨_,rfl,qb pl x hx mn r _ (f0.trans (g2.trans (g3.trans (au nr _)))) ah⟩
 ·have g3:=au he (.ext (ExcAt t.c4 e))
  refine⟨_,rfl,_,_,_,_,rfl,.inl ⟨_,rfl⟩,.of (.exc T.IF ah),T.Ot,(d6 3),fun r nr=>?_⟩
  exact⟨_,rfl,qn nP r _ (f0.trans (g2.trans (g3.trans (au nr _)))) ah⟩
theorem mB (F:Fn K mg "_law_refused_by_any" fF)(T:Txt K mg t)(bO:aV P w K mg base (XB P w) 10 "small_point" ["a","b","c"] (mv K t.lP t.c6 t.c4)):aV P w K mg base aU 11 "_law_refused_by_any" ["_law_triple_here"] (uT t.lP):=by
 refine F.ok cE (fun f aZ A outer s H vs Q E hr h=>?_)
 obtain⟨l,a,b,c,rfl,hl,a3,b3,c3,rl,ex,q⟩:=h
 refine⟨_,ai (bH (i:=1) cE.nd gH)
  (ai (Dq (i:=2) (C1:=t.c6) (C2:=t.c4) bO hr (ae (aW (gi K) (pv 0) af) (ae (aW (gi K) (pv 0) af) (ae (aW (gi K) (pv 0) af) ag))) T.mh T.ur T.js T.yH T.lI T.yI cE.nd (fun ea o u=>aq (bH (i:=1) cE.nd (aJ (iV (K:=K) rfl) rfl T.cD oO (ae (pv 2) (ae (lR (v:=.ty "ValueError") rfl T.mi mm rfl) ag))))) (fun ea=>aq (bH (i:=1) cE.nd (aJ (iV (K:=K) rfl) rfl T.cD oO (ae (pv 2) (ae (lR (v:=.ty "ValueError") rfl T.mi mm rfl) ag))))))
  (aq (aE (pv 1)))),?_⟩
 refine⟨_,rfl,l,_,_,_,rfl,rfl,aR.of hl,rfl,_,rfl,l,_,_,_,rfl,rfl,aR.of hl,rfl,_,rfl,l,_,_,_,rfl,rfl,aR.of hl,rfl,a,b,c,rfl,a3,b3,c3,rl,fun pl nb=>?_,fun pl x hx mn dx H2 g2 oY=>.inl ⟨dx,rfl,rfl,fun e o he=>?_⟩,fun nP H2 g2=>.inr ⟨rfl,rfl,fun e he=>?_⟩⟩
 ·obtain⟨x,hx⟩:=ex pl
  exact absurd hx (nb x)
 ·have g3:=au he (.mK o (.ext (jz t.c6 e dx)))
  refine⟨_,rfl,_,_,_,_,rfl,.inr ⟨_,rfl⟩,.exc T.exc (.inr ⟨o,ah⟩),T.Sv,?_⟩
  exact⟨_,rfl,q _ (g2.trans g3)⟩
 ·have g3:=au he (.ext (ExcAt t.c4 e))
  refine⟨_,rfl,_,_,_,_,rfl,.inr ⟨_,rfl⟩,.of (.exc T.IF ah),T.KQ,?_⟩
  exact⟨_,rfl,q _ (g2.trans g3)⟩
theorem Fm (F:Fn K mg "_law_small" uq)(T:Txt K mg t)(kh:qh P w K mg base 3 "_law_is_lowest" ["_law_point"] (uG)):aV P w K mg base aU 4 "_law_small" ["_law_triple_here","_law_point"] (y6):=by
 refine F.ok rg (fun f aZ A outer s H vs Q E hr h=>?_)
 obtain⟨l,r,a,b,c,x,y,z,rfl,hl,hp,a3,b3,c3,G,q⟩:=h
 refine⟨_,ai (aY (kT (fA (kv kh hr.q (ae (pv 1) ag)) (fun _=>rfl))) (aq (aE gH)) aK)
  (ai (aY (aB iS (aJ (vV rfl) rfl T.IC IG (ae (eH rfl (aM.gen (cl:=[("_law_triple_here",_),("_law_point",_)]) ["_law_point","_law_triple_here"] [1,0] [(".0",.local),("_law_k",.local),("_law_point",.cell),("_law_triple_here",.cell)] rfl) (eQ rfl T.iD (ae af ag)) (fun C s0 H0 fp pins=>av az (av az (aW (gi K) (pv 2) (pv 0)) (aW (cw K) (pv 1) (pv 0))) (aW (cw K) (pv 1) (pv 0)))) ag)) af (aA _)) (aq (aE gH)) aK)
  (ai (bH (i:=2) rg.nd (eH rfl (aM.gen (cl:=[]) [] [] [(".0",.local),("_law_number",.local)] rfl) (HN K (pv 1)) (fun C s0 H0 fp pins=>av az (pv 0) (pv 0))))
  (ai (bH (i:=3) rg.nd (eH rfl (aM.gen (cl:=[("_law_triple_here",_)]) ["_law_triple_here"] [0] [(".0",.local),("_law_k",.local),("abs",.globalImplicit),("_law_triple_here",.cell)] rfl) (eQ rfl T.iD (ae af ag)) (fun C s0 H0 fp pins=>aJ bQ rfl T.fW fX (ae (av az (aW (gi K) (pv 1) (av d8 (pv 0) af)) (aW (gi K) (pv 1) (av d8 (pv 0) af))) ag))))
  (aq (aE (aJ (lX rfl) rfl T.Av Ax (ae (eH rfl (aM.gen (cl:=[("_law_squares",_),("_law_products",_)]) ["_law_products","_law_squares"] [3,2] [(".0",.local),("_law_k",.local),("_law_products",.cell),("_law_squares",.cell)] rfl) (eQ rfl T.iD (ae af ag)) (fun C s0 H0 fp pins=>bM vA (aW (gi K) (pv 2) (pv 0)) (aW (gi K) (pv 1) (pv 0)) (aA _))) ag))))))),?_⟩
 have bx:=qZ (abD G.sx (kG b3 c3))
 have rk:=qZ (abD G.sy (kG a3 c3))
 have bz:=qZ (abD G.sz (kG a3 b3))
 unfold K3 at a3 b3 c3
 refine⟨_,rfl,r,x,y,z,rfl,hp,G.one,G.pos,fun H1 g1=>⟨_,rfl,ik ?_⟩⟩
 have xy:=g1 _ _ hl
 have Hm:=g1 _ _ hp
 refine⟨3,rfl,by decide,by decide,jM 3 (by decide) (fun j=>.int ([a*x*x,b*y*y,c*z*z].getD j 0)) ?_ ?_⟩
 ·intro j H5 Q5 hj g5 k5
  have B9:=g5 _ _ xy
  have Mb:=g5 _ _ Hm
  obtain rfl|rfl|rfl:j=0\/j=1\/j=2:=by omega
  ·exact⟨_,rfl,_,rfl,l,_,_,_,rfl,rfl,aR.of B9,rfl,_,rfl,_,rfl,r,_,_,_,rfl,rfl,aO.of Mb,rfl,_,_,rfl,rfl,cK (by omega) (by omega),_,rfl,_,rfl,r,_,_,_,rfl,rfl,aO.of Mb,rfl,_,_,rfl,rfl,cK (by omega) (by omega),k5 _ (aw.refl _)⟩
  ·exact⟨_,rfl,_,rfl,l,_,_,_,rfl,rfl,aR.of B9,rfl,_,rfl,_,rfl,r,_,_,_,rfl,rfl,aO.of Mb,rfl,_,_,rfl,rfl,cK (by omega) (by omega),_,rfl,_,rfl,r,_,_,_,rfl,rfl,aO.of Mb,rfl,_,_,rfl,rfl,cK (by omega) (by omega),k5 _ (aw.refl _)⟩
  ·exact⟨_,rfl,_,rfl,l,_,_,_,rfl,rfl,aR.of B9,rfl,_,rfl,_,rfl,r,_,_,_,rfl,rfl,aO.of Mb,rfl,_,_,rfl,rfl,cK (by omega) (by omega),_,rfl,_,rfl,r,_,_,_,rfl,rfl,aO.of Mb,rfl,_,_,rfl,rfl,cK (by omega) (by omega),k5 _ (aw.refl _)⟩
 intro l2 H2 g2 _ tR
 refine⟨l2,[a*x*x,b*y*y,c*z*z],rfl,tR,?_⟩
 rw[R5]
 have e1:a*x*x+b*y*y+c*z*z=0:=by rw[Z3,Z3,Z3];exact G.on
 rw[e1]
 refine⟨rfl,_,rfl,ik ?_⟩
 have oU:=g2 _ _ xy
 have Lq:=g2 _ _ Hm
 refine⟨_,rfl,r,rfl,⟨_,aO.of Lq⟩,mY (xs:=[.int x,.int y,.int z]) (aO.of Lq) (HP 3) W9 (fun H' g=>aO.of (g _ _ Lq)) ?_ ?_⟩
 ·intro i v H' Q' hv g kk
  obtain⟨n,rfl,hn⟩:=IP hv
  have bn:-1000000<=n/\n<=1000000:=by rcases hn with rfl|rfl|rfl<;>assumption
  exact⟨_,rfl,_,rfl,_,_,rfl,rfl,cK (by omega) (by omega),kk _ (aw.refl _)⟩
 intro l4 H4 g4 _ Ma
 have Fl:H4 l4=some (.lst [.int (x*x),.int (y*y),.int (z*z)]):=Ma
 refine⟨3,rfl,by decide,by decide,jM 3 (by decide) (fun j=>.int ([aF (c*b),aF (a*c),aF (b*a)].getD j 0)) ?_ ?_⟩
 ·intro j H5 Q5 hj g5 k5
  have B9:=(g4.trans g5) _ _ oU
  obtain rfl|rfl|rfl:j=0\/j=1\/j=2:=by omega
  ·exact⟨_,rfl,_,rfl,_,_,rfl,rfl,l,_,_,_,rfl,rfl,aR.of B9,rfl,_,rfl,_,rfl,_,_,rfl,rfl,l,_,_,_,rfl,rfl,aR.of B9,rfl,_,_,rfl,rfl,cK (by omega) (by omega),_,rfl,k5 _ (aw.refl _)⟩
  ·exact⟨_,rfl,_,rfl,_,_,rfl,rfl,l,_,_,_,rfl,rfl,aR.of B9,rfl,_,rfl,_,rfl,_,_,rfl,rfl,l,_,_,_,rfl,rfl,aR.of B9,rfl,_,_,rfl,rfl,cK (by omega) (by omega),_,rfl,k5 _ (aw.refl _)⟩
  ·exact⟨_,rfl,_,rfl,_,_,rfl,rfl,l,_,_,_,rfl,rfl,aR.of B9,rfl,_,rfl,_,rfl,_,_,rfl,rfl,l,_,_,_,rfl,rfl,aR.of B9,rfl,_,_,rfl,rfl,cK (by omega) (by omega),_,rfl,k5 _ (aw.refl _)⟩
 intro l6 H6 g6 _ Qf
 have Lu:H6 l6=some (.lst [.int (aF (c*b)),.int (aF (a*c)),.int (aF (b*a))]):=Qf
 have sx:x*x<=aF (c*b):=by rw[q5,ZX (aF c)];exact G.sx
 have sy:y*y<=aF (a*c):=by rw[q5];exact G.sy
 have P5:z*z<=aF (b*a):=by rw[q5,ZX (aF b)];exact G.sz
 have TM:=g6 _ _ Fl
 refine⟨3,rfl,by decide,by decide,jM 3 (by decide) (fun j=>.bl true) ?_ ?_⟩
 ·intro j H7 Q7 hj g7 k7
  have h4:=g7 _ _ TM
  have h6:=g7 _ _ Lu
  have kt:=k7 _ (aw.refl _)
  obtain rfl|rfl|rfl:j=0\/j=1\/j=2:=by omega
  ·refine⟨_,rfl,_,rfl,l4,_,_,_,rfl,rfl,aR.of h4,rfl,_,rfl,_,rfl,l6,_,_,_,rfl,rfl,aR.of h6,rfl,_,_,rfl,rfl,?_⟩
   rw[aay sx]
   exact kt
  ·refine⟨_,rfl,_,rfl,l4,_,_,_,rfl,rfl,aR.of h4,rfl,_,rfl,_,rfl,l6,_,_,_,rfl,rfl,aR.of h6,rfl,_,_,rfl,rfl,?_⟩
   rw[aay sy]
   exact kt
  ·refine⟨_,rfl,_,rfl,l4,_,_,_,rfl,rfl,aR.of h4,rfl,_,rfl,_,rfl,l6,_,_,_,rfl,rfl,aR.of h6,rfl,_,_,rfl,rfl,?_⟩
   rw[aay P5]
   exact kt
 intro l8 H8 g8 _ Yd
 exact⟨l8,[true,true,true],rfl,Yd,q _ (g1.trans (g2.trans (g4.trans (g6.trans g8))))⟩
theorem Lv {f:Addr}{fd:FuncData}(F:zF K "law" "law" Ep f fd)(T:Txt K mg t)(rG:aV P w K mg base aU 4 "_law_triple" ["_law_script"] (E4 K))(kH:aV P w K mg base aU 11 "_law_refused" ["_law_triple_here"] (uS t.lP))(dZ:aV P w K mg base aU 11 "_law_refused_by_any" ["_law_triple_here"] (uT t.lP))(iQ:aV P w K mg base aU 3 "_law_bad_places" ["_law_triple_here","_law_number"] (E3))(vm:aV P w K mg base aU 4 "_law_small" ["_law_triple_here","_law_point"] (y6))(bO:aV P w K mg base (XB P w) 10 "small_point" ["a","b","c"] (mv K t.lP t.c6 t.c4)):ji P w K mg base aU 12 f fd ["_law_script"] (w9 K t.lP):=by
 refine F.ok uY (fun vs H Q E h=>?_) (fun aZ A outer s H vs Q E hr h=>?_)
 ·obtain⟨a,ns,rfl,_⟩:=h
  rfl
 obtain⟨sa,ns,rfl,hS,Zy,hb,hT,q⟩:=h
 have ze:=ux hr
 refine⟨_,ai (jI (aj rG hr aD (ae (pv 0) ag)) (Px K (cM (sM (i:=2) uY.nd) (cM (sM (i:=3) uY.nd) kq))))
  (ai (aY (kT (fA (pv 3) (fun _=>rfl))) (aq (aE (tK (bM (Dr ze) (aj kH hr aD (ae (pv 2) ag)) (bG (ae gH (ae gH (ae xE ag)))) (aA _)) (mM (aj dZ hr aD (ae (pv 2) ag)))))) aK)
  (ai (bH (i:=1) uY.nd (aj iQ hr aD (ae (pv 2) (ae (av az (av az (aW (gi K) (pv 2) af) (aW (gi K) (pv 2) af)) (aW (gi K) (pv 2) af)) ag))))
  (ai (aY (aB (vT ze) (pv 1) (bG ag) (aA _)) (aq (aE (tK (bM (Dr ze) (aj kH hr aD (ae (pv 2) ag)) (bG (ae gH (ae gH (ae (aW (gi K) (pv 1) af) ag)))) (aA _)) (mM (aj dZ hr aD (ae (pv 2) ag)))))) aK)
  (aq (aE (aj vm hr aD (ae (pv 2) (ae (aj bO hr JQ (ae (aW (gi K) (pv 2) af) (ae (aW (gi K) (pv 2) af) (ae (aW (gi K) (pv 2) af) ag)))) ag)))))))),?_⟩
 have rl:RL t.lP H:=.inl hT
 have fin:∀ {H':Hp},RL t.lP H'->Q (.bl true) H':=fun {H'} h=>by
  obtain⟨ps,hp⟩:=Lp h
  exact q ps H' hp
 refine⟨_,rfl,sa,ns,rfl,hS,fun r l t' a b c H1 g1 IT hl a3 b3 c3 ht hf=>?_⟩
 have Fi:RL t.lP H1:=eI.same g1 rl
 refine⟨r,_,rfl,aO.of IT,rfl,_,_,rfl,_,_,rfl,rfl,?_⟩
 cases t' with
 | false=>
  have nP:=hf rfl
  refine⟨_,rfl,_,rfl,jK ?_⟩
  refine⟨_,rfl,l,a,b,c,rfl,hl,a3,b3,c3,Fi,fun P=>absurd P nP,fun _ r2 H2 g2 h2=>?_,fun P=>absurd P nP⟩
  refine⟨(d6 3),fun p3 n3=>?_⟩
  have f3:=au n3 (.lst [.bl true,.bl false,.eB])
  refine⟨r2,p3,true,false,.eB,rfl,rfl,f3 _ _ h2,ah,.inl rfl,_,rfl,jK ?_⟩
  exact⟨_,rfl,l,a,b,c,rfl,(g2.trans f3) _ _ hl,a3,b3,c3,eI.same (g2.trans f3) Fi,fun P=>absurd P nP,fun H4 g4=>fin (eI.same (g2.trans (f3.trans g4)) Fi)⟩
 | true=>
  obtain⟨pl,pb⟩:=ht rfl
  have Zz:a.natAbs<=1000:=a3
  have ZA:b.natAbs<=1000:=b3
  have ZC:c.natAbs<=1000:=c3
  refine⟨_,rfl,_,rfl,ik ?_⟩
  refine⟨_,rfl,_,rfl,l,_,_,_,rfl,rfl,aR.of hl,rfl,_,rfl,l,_,_,_,rfl,rfl,aR.of hl,rfl,_,_,rfl,rfl,cK (by omega) (by omega),_,rfl,l,_,_,_,rfl,rfl,aR.of hl,rfl,_,_,rfl,rfl,cK (by omega) (by omega),?_⟩
  refine⟨l,a,b,c,a*b*c,rfl,hl,pl,by omega,by omega,by omega,abU (abU pl.a0 pl.b0) pl.c0,pb,fun OX ks H2 g2 _ Vs st mk=>?_⟩
  have mem:∀ x,x∈ks↔Jc.fV a b c x:=fun x=>by
   rw[mk]
   refine⟨(·.2),fun h=>⟨?_,h⟩⟩
   rcases h with h|h|h
   ·exact .inl h.1
   ·exact .inr (.inl h.1)
   ·refine .inr (.inr ⟨h.1,?_⟩)
    rcases h.2.2 with z|z|z
    ·exact aaf z.1 (aaf (aaX a b) (aaX _ c))
    ·exact aaf z.1 (aaf (aab a b) (aaX _ c))
    ·exact aaf z.1 (aab _ c)
  refine⟨_,rfl,(d6 0),fun e1 ne1=>?_⟩
  have f1:=au ne1 (.lst [])
  have g3:=g2.trans f1
  refine⟨OX,e1,ks,rfl,rfl,f1 _ _ Vs,ah,_,rfl,?_⟩
  cases ks with
  | cons x rest=>
   refine jK ?_
   have hx:=(mem x).mp (.head _)
   have mn:∀ y,Jc.fV a b c y->x<=y:=fun y hy=>by
    rcases ZI.mp ((mem y).mpr hy) with rfl|z
    ·exact aaV _
    ·exact Z1 ((aaY.mp st).1 y z)
   refine⟨_,rfl,l,a,b,c,rfl,g3 _ _ hl,a3,b3,c3,eI.same g3 Fi,fun _=>⟨x,hx⟩,fun nP=>absurd pl nP,fun _ x' vw Ye r2 H4 g4 h4=>?_⟩
   obtain rfl:x'=x:=Int.le_antisymm (Ye x hx) (mn x' vw)
   refine⟨_,rfl,OX,_,_,_,rfl,rfl,aR.of (g4 _ _ (f1 _ _ Vs)),BR,(d6 3),fun p3 n3=>?_⟩
   have f3:=au n3 (.lst [.bl false,.bl false,.int x'])
   refine⟨r2,p3,false,false,.int x',rfl,rfl,f3 _ _ h4,ah,.inr ⟨_,rfl⟩,_,rfl,jK ?_⟩
   have gE:=g3.trans (g4.trans f3)
   exact⟨_,rfl,l,a,b,c,rfl,gE _ _ hl,a3,b3,c3,eI.same gE Fi,fun _=>⟨x',hx⟩,fun H5 g5=>fin (eI.same (gE.trans g5) Fi)⟩
  | nil=>
   refine ik ?_
   have nb:∀ x,¬ Jc.fV a b c x:=fun x z=>by
    have:=(mem x).mpr z
    cases this
   have oU:=g3 _ _ hl
   refine⟨_,rfl,_,rfl,l,_,_,_,rfl,rfl,aR.of oU,rfl,_,rfl,l,_,_,_,rfl,rfl,aR.of oU,rfl,_,rfl,l,_,_,_,rfl,rfl,aR.of oU,rfl,a,b,c,rfl,a3,b3,c3,eI.same g3 Fi,fun _ _ r2 x y z H4 k4 TB h4 G=>?_,fun _ x hx=>absurd hx (nb x),fun nP=>absurd pl nP⟩
   exact⟨l,r2,a,b,c,x,y,z,rfl,k4 _ _ rfl oU,h4,a3,b3,c3,G,fun H5 g5=>fin (eI.same g5 TB)⟩
end
theorem all_mk {l:W.OpenLaw}{w:World}{K:W.Frag}{h:Heap}{mg:Str->Option Value}{fa FC Qg Qh Qi Qj rK Qk mG eO Ql OZ:Addr}(X:K.In h)(G:h.Ns mainGlobals mg)(Yf:mg "law"=some (.ref fa))
  {TN TQ:Option Addr}{TR:Array (Option Value)}{TU TV TX TY O0 TZ:Value}
  (n1:Fn K mg "taken_out" jQ)
  (n2:Fn K mg "divisor_after" gu)
  (n3:Fn K mg "prime_parts" iG)
  (n4:Fn K mg "core_of" ng)
  (n5:Fn K mg "row_less" lA)
  (n6:Fn K mg "shares_of" jR)
  (n7:Fn K mg "slopes_of" jS)
  (n8:Fn K mg "stretched" jU)
  (n9:Fn K mg "row_product" iK)
  (Yg:Fn K mg "turned_by" jT)
  (Yh:Fn K mg "worth_of" lD)
  (Yi:Fn K mg "added" uk)
  (Yj:Fn K mg "lowest_point" ia)
  (Yk:Fn K mg "_law_of" KN)
  (Yl:Fn K mg "_law_drawn" um)
  (Ym:Fn K mg "_law_shared" qJ)
  (Yn:Fn K mg "_law_whole" uo)
  (Yo:Fn K mg "_law_wholes" qI)
  (Yp:Fn K mg "_law_is_lowest" jW)
  (Yq:Fn K mg "sign_of_two" iH)
  (Yr:Fn K mg "sign_of_turn" hJ)
  (Ys:Fn K mg "sign_by" nt)
  (Yt:Fn K mg "sign_at_two" iJ)
  (Yu:Fn K mg "sign_at_odd" iI)
  (Yv:Fn K mg "sign_at" nv)
  (Yw:Fn K mg "places_in_question" dI)
  (Yx:Fn K mg "places_without_point" cZ)
  (Yy:Fn K mg "_law_no_square" jX)
  (Yz:Fn K mg "_law_none_by_8" jY)
  (YA:Fn K mg "_law_bad" Eo)
  (YB:Fn K mg "_law_primes" qK)
  (YC:Fn K mg "_law_bad_places" iM)
  (YD:Fn K mg "is_without_squares" dH)
  (YE:Fn K mg "is_plain" lB)
  (YF:Fn K mg "bad_places" jr)
  (YG:Fn K mg "power_by" lu)
  (YH:Fn K mg "has_root" lC)
  (YI:Fn K mg "least_without_root" dJ)
  (YJ:Fn K mg "root_by_odd_prime" eh)
  (YK:Fn K mg "root_by_prime" gw)
  (YL:Fn K mg "back_by" nA)
  (YM:Fn K mg "joined_rests" hX)
  (YN:Fn K mg "root_or_prime" gv)
  (YO:Fn K mg "ratio_by" lE)
  (YQ:Fn K mg "fitted_vectors" fD)
  (YR:Fn K mg "evened_vectors" fE)
  (YS:Fn K mg "near_to" nB)
  (YT:LY K mg "rising" qH Ql)
  (YU:Fn K mg "drawn_to" lF)
  (YV:Fn K mg "shortened" jV)
  (YW:Fn K mg "settled_vectors" fh)
  (YX:Fn K mg "small_point" iL)
  (YY:Fn K mg "_law_plain_drawn" bD)
  (YZ:Fn K mg "_law_great" gO)
  (Y0:Fn K mg "_law_triple" qL)
  (Y1:Fn K mg "_law_refused" nE)
  (Y2:Fn K mg "_law_refused_by_any" fF)
  (Y3:Fn K mg "_law_small" uq)
  (Y4:Fn K mg "law" Ep)
  {O1:Value}{O2:Option Addr}{O3:Array (Option Value)}{O4 O5:Str}{O6 O7 O8:List Value}{IX:Addr}{O9 Pa Pb:Bool}{Pc:List Str}{Pd:Option Bool}
  (o44:K.lookup mG=some ⟨O1,O2,.cls ⟨O4,O6,O7,IX,O5,O9,Pc,O8,Pa,Pd,Pb⟩,O3⟩)
  (a44:W.nsIn K IX "__init__"=some (some (.ref eO))) (l44:K.lookup eO=some ⟨TU,TN,.func (W.fnOf "__init__" "BadPlace.__init__" (fM cm) (aP cm) (ar cm) .none TV TX TY TQ O0 TZ),TR⟩) (g44:W.codeIn K O0 "BadPlace.__init__"=true) (k44:W.keepIn K (.ref eO)=true)
  (xm_CurveError:W.nsIn K mainGlobals "CurveError"=some (some (.ref FC)))
  (xm_NoNumber:W.nsIn K mainGlobals "NoNumber"=some (some (.ref Qg)))
  (xm_NoBack:W.nsIn K mainGlobals "NoBack"=some (some (.ref Qh)))
  (xm_NoJoin:W.nsIn K mainGlobals "NoJoin"=some (some (.ref Qi)))
  (xm_NoSign:W.nsIn K mainGlobals "NoSign"=some (some (.ref Qj)))
  (xm_NotPlain:W.nsIn K mainGlobals "NotPlain"=some (some (.ref rK)))
  (xm_NoPlace:W.nsIn K mainGlobals "NoPlace"=some (some (.ref Qk)))
  (xm_BadPlace:W.nsIn K mainGlobals "BadPlace"=some (some (.ref mG)))
  (xi_ce:W.kitOne K (.ref mG) (.ref FC)=some true)
  (xi_0:W.kitOne K (.ref mG) (.ref Qg)=some false)
  (xi_1:W.kitOne K (.ref mG) (.ref Qh)=some false)
  (xi_2:W.kitOne K (.ref mG) (.ref Qi)=some false)
  (xi_3:W.kitOne K (.ref mG) (.ref Qj)=some false)
  (xi_4:W.kitOne K (.ref mG) (.ref rK)=some false)
  (xi_5:W.kitOne K (.ref mG) (.ref Qk)=some false)
  (xi_6:W.kitOne K (.ref mG) (.ref mG)=some true)
  (xi_ve:W.kitOne K (.ref mG) (.type "ValueError")=some true)
  (xe0:(W.clsIn K mG).isSome=true)
  (xe1:W.findIn K (.ref mG) "__getattribute__"=some (some (.builtin "BaseException.__getattribute__")))
  (xe2:W.findIn K (.ref mG) "__getattr__"=some none)
  (xe3:W.findIn K (.ref mG) "__class__"=some (some (.builtin "object.__class__")))
  (xe4:W.specialIn K (.builtin "object.__class__") "__get__"=some (some (.builtin "getset_descriptor.__get__")))
  (xe5:W.takesIn K (.builtin "object.__class__")=some true)
  (xe6:W.mroIn K mG (.type "object")=some true)
  (xe7:W.mroIn K mG (.type "BaseException")=some true)
  (xx_BadPlace:fB K mG eO=true)
  (xxf_BadPlace:W.isFn K (.ref eO)=true)
  (xxn_BadPlace:W.findIn K (.ref mG) "place"=some none)
  (xxd_BadPlace:(W.clsIn K mG).map (·.hasDict)=some true)
  (xxs_BadPlace:W.findIn K (.ref mG) "__setattr__"=some (some (.builtin "object.__setattr__")))
  (xxo_BadPlace:(W.clsIn K mG).any (fun cd=>qe cd.mro)=true)
  (xi_ce_2:W.kitOne K (.ref rK) (.ref FC)=some true)
  (xi_0_2:W.kitOne K (.ref rK) (.ref Qg)=some false)
  (xi_1_2:W.kitOne K (.ref rK) (.ref Qh)=some false)
  (xi_2_2:W.kitOne K (.ref rK) (.ref Qi)=some false)
  (xi_3_2:W.kitOne K (.ref rK) (.ref Qj)=some false)
  (xi_4_2:W.kitOne K (.ref rK) (.ref rK)=some true)
  (xi_5_2:W.kitOne K (.ref rK) (.ref Qk)=some false)
  (xi_6_2:W.kitOne K (.ref rK) (.ref mG)=some false)
  (xi_ve_2:W.kitOne K (.ref rK) (.type "ValueError")=some true)
  (xe0_2:(W.clsIn K rK).isSome=true)
  (xe1_2:W.findIn K (.ref rK) "__getattribute__"=some (some (.builtin "BaseException.__getattribute__")))
  (xe2_2:W.findIn K (.ref rK) "__getattr__"=some none)
  (xe3_2:W.findIn K (.ref rK) "__class__"=some (some (.builtin "object.__class__")))
  (xe4_2:W.specialIn K (.builtin "object.__class__") "__get__"=some (some (.builtin "getset_descriptor.__get__")))
  (xe5_2:W.takesIn K (.builtin "object.__class__")=some true)
  (xe6_2:W.mroIn K rK (.type "object")=some true)
  (xe7_2:W.mroIn K rK (.type "BaseException")=some true)
  (xx_NotPlain:W.excIn K rK eG "ValueError.__new__"=true)
  (xy1:W.specialIn K (.ref FC) "__getattribute__"=some (some (.builtin "type.__getattribute__")))
  (xy2:W.readsIn K FC (.type "type")=true)
  (xy3:W.findCls K (.ref FC) (.type "type") "__init__"=some (.val (.builtin "ValueError.__init__")))
  (xx_CurveError:W.excIn K FC eG "ValueError.__new__"=true)
  (xu_BadPlace:W.mroIn K mG (.ref FC)=some true)
  (xu_NotPlain:W.mroIn K rK (.ref FC)=some true)
  (xno_np:W.mroIn K rK (.ref mG)=some false)
  (xlam:z7 K Ql OZ=true)
  (xi_ib:W.kitOne K (.type "int") (.type "bool")=some false)
  (xz_isinstance:W.nsIn K mainGlobals "isinstance"=some none)
  (xz_int:W.nsIn K mainGlobals "int"=some none)
  (xz_bool:W.nsIn K mainGlobals "bool"=some none)
  (xz_len:W.nsIn K mainGlobals "len"=some none)
  (xz_range:W.nsIn K mainGlobals "range"=some none)
  (xz_tuple:W.nsIn K mainGlobals "tuple"=some none)
  (xz_all:W.nsIn K mainGlobals "all"=some none)
  (xz_abs:W.nsIn K mainGlobals "abs"=some none)
  (xz_sum:W.nsIn K mainGlobals "sum"=some none)
  (xz_zip:W.nsIn K mainGlobals "zip"=some none)
  (xz_max:W.nsIn K mainGlobals "max"=some none)
  (xz_min:W.nsIn K mainGlobals "min"=some none)
  (xz_list:W.nsIn K mainGlobals "list"=some none)
  (xz_sorted:W.nsIn K mainGlobals "sorted"=some none)
  (xz_set:W.nsIn K mainGlobals "set"=some none)
  (xz_ValueError:W.nsIn K mainGlobals "ValueError"=some none)
 :(∃ c,W.codeHdIn K c OZ=true/\K.lookup OZ=none)/\∃ fd:FuncData,(∀ (s:Shared) (v:Value),BindsTo s fd ⟨[v],[]⟩ [("_law_script",v)])/\∀ base:Heap,K.In base->base.Ns mainGlobals mg->BMod mg base->ji l.prog w K mg base aU 12 fa fd ["_law_script"] (w9 K OZ):=by
 obtain⟨fl,fd,Vt,ml⟩:=Y4
 cases Yf.symm.trans ml
 have T:Txt K mg ⟨FC,Qg,Qh,Qi,Qj,rK,Qk,mG,eO,Ql,OZ⟩:=⟨adA X G xm_CurveError,adA X G xm_NoNumber,adA X G xm_NoBack,adA X G xm_NoJoin,adA X G xm_NoSign,adA X G xm_NotPlain,adA X G xm_NoPlace,adA X G xm_BadPlace,xi_ce,xi_0,xi_1,xi_2,xi_3,xi_4,xi_5,xi_6,xi_ve,xe0,xe1,xe2,xe3,xe4,xe5,xe6,xe7,xx_BadPlace,xxf_BadPlace,xxn_BadPlace,xxd_BadPlace,xxs_BadPlace,xxo_BadPlace,xi_ce_2,xi_0_2,xi_1_2,xi_2_2,xi_3_2,xi_4_2,xi_5_2,xi_6_2,xi_ve_2,xe0_2,xe1_2,xe2_2,xe3_2,xe4_2,xe5_2,xe6_2,xe7_2,xx_NotPlain,xy1,xy2,xy3,xx_CurveError,xu_BadPlace,xu_NotPlain,xno_np,xlam,xi_ib,aa2 X G xz_isinstance,aa2 X G xz_int,aa2 X G xz_bool,aa2 X G xz_len,aa2 X G xz_range,aa2 X G xz_tuple,aa2 X G xz_all,aa2 X G xz_abs,aa2 X G xz_sum,aa2 X G xz_zip,aa2 X G xz_max,aa2 X G xz_min,aa2 X G xz_list,aa2 X G xz_sorted,aa2 X G xz_set,aa2 X G xz_ValueError⟩
 have Vu:=xQ (st:=cm) l44 g44 k44
 have Y5:=Vu.binds (ps:=["self","place"]) fun _ _ _ _ _ _=>Bg fun _ _=>rfl
 have lk:=Dn T.lam
 refine⟨⟨Ql,lk.1,lk.2⟩,?_⟩
 refine⟨fd,fun s v=>?_,fun base _ _ bm=>?_⟩
 ·obtain⟨oc,od,kV,doc,pm,an,aZ,ct,pF,rfl,lk,pD⟩:=Vt.ex
  exact .of_eq rfl
 have bu:=uZ (P:=l.prog) (w:=w) (base:=base) n1 T
 have gy:=nR (P:=l.prog) (w:=w) (base:=base) n2 T
 have bN:=rh n3 T gy bu
 have nV:=y7 n4 T bN
 have lM:=xj (P:=l.prog) (w:=w) (base:=base) n5 T
 have bA:=u3 n6 T lM
 have ke:=u7 (P:=l.prog) (w:=w) (base:=base) n7 T
 have bW:=u9 (P:=l.prog) (w:=w) (base:=base) n8 T
 have bV:=rj (P:=l.prog) (w:=w) (base:=base) n9 T
 have kg:=vc Yg T bV
 have bL:=xk (P:=l.prog) (w:=w) (base:=base) Yh T
 have fQ:=Fd (P:=l.prog) (w:=w) (base:=base) Yi T
 have ij:=ph Yj T bA
 have vj:=OO (P:=l.prog) (w:=w) (base:=base) Yk T
 have dc:=Ff (P:=l.prog) (w:=w) (base:=base) Yl T
 have rn:=B3 (P:=l.prog) (w:=w) (base:=base) Ym T
 have vd:=Fb (P:=l.prog) (w:=w) (base:=base) Yn T
 have rm:=B5 Yo T vd
 have kh:=vf Yp T rm rn
 have cJ:=rq (P:=l.prog) (w:=w) (base:=base) Yq T
 have cQ:=pj (P:=l.prog) (w:=w) (base:=base) Yr T
 have eU:=y9 Ys T bu cJ cQ
 have iO:=rA Yt T cJ cQ
 have iP:=rB Yu T eU
 have nU:=zb Yv T bu iO iP
 have dR:=jC Yw T bN
 have c9:=jb Yx T dR nU
 have j8:=vg (P:=l.prog) (w:=w) (base:=base) Yy T
 have j7:=vh (P:=l.prog) (w:=w) (base:=base) Yz T
 have Fh:=Ls YA T j7 j8
 have rD:=B6 (P:=l.prog) (w:=w) (base:=base) YB T
 have iQ:=rC YC T rD Fh
 have dS:=jD YD T nV
 have lN:=xl YE T dS bA
 have fk:=sd YF T lN c9
 have fH:=xn (P:=l.prog) (w:=w) (base:=base) YG T
 have fG:=xo YH T eU
 have dU:=jE YI T fG
 have ei:=j9 YJ T bu fH dU
 have gz:=nW YK T ei
 have nZ:=zc YL T bA
 have b9:=pA YM T bA
 have gF:=nX YN T bN fG b9 gz
 have gG:JM l.prog w K mg base 1 eO ["self","place"] (zL mG "place"):=⟨_,nY Vu T ,Y5⟩
 have ie:=xp YO T gF nZ
 have fJ:=mw YQ T ie b9
 have fL:=mz YR T bL bW fQ
 have oa:=zd YS T fQ bW
 have eL:=B7 YT T bm bL
 have ig:=xq YU T bL ke kg bV bW fQ eL
 have iE:=vi YV T ig oa eL
 have fm:=lO YW T eL iE
 have bO:=rE YX T fk gG fJ fL fm bL ij
 have di:=rF YY T dc
 have vk:=Fj YZ T di dc
 have rG:=B8 Y0 T dc vj di vk
 have kH:=zf Y1 T bO
 have dZ:=mB Y2 T bO
 have vm:=Fm Y3 T kh
 exact Lv Vt T rG kH dZ iQ vm bO
theorem walk {l:W.OpenLaw}{q:Program}{loose:List Str}{XP:(Str->Option Value)->Heap->Prop}{YP:World->Heap->Prop}{d:DefRec}{K:Params->W.Frag}(hn:l.most=some 63)(z6:d.params.defaults=[])
  {T:Addr} (hY:∀ (w:World) (h:Heap),YP w h->(K w.params).In h) (hT:∀ (w:World) (h:Heap),YP w h->h.get? T=some (W.tabObj #[]))
  (F:∀ (w:World) (mg:Str->Option Value) (fa:Addr) (h:Heap),(K w.params).In h->h.Ns mainGlobals mg->mg d.name=some (.ref fa) ->
   (∃ c,W.codeHdIn (K w.params) c T=true/\(K w.params).lookup T=none)/\∃ fd:FuncData,(∀ (s:Shared) (u:Value),BindsTo s fd ⟨[u],[]⟩ [("_law_script",u)])/\∀ base:Heap,(K w.params).In base->base.Ns mainGlobals mg->L2.BMod mg base->ji l.prog w (K w.params) mg base aU 12 fa fd ["_law_script"] (w9 (K w.params) T)) :
  W.WalkO q loose XP YP l.row.toRowW d [] (fun f vs=>PySem.call f vs):=
 L2.Gq (n:=63) (k:=12) (x:="_law_script") (CX:=fun _=>aU) (sp:=fun w=>w9 (K w.params) T) hn (by decide) z6 ⟨rfl,by decide,by decide⟩ hY hT F (fun _ _ a ns hl hb hS hT=>⟨a,ns,rfl,hS,hl,hb,hT,fun ps H' h=>⟨rfl,ps,h⟩⟩) fun _ _ _ _ _ z=>z
end P0
namespace PySem.W.Fast
def tw8359013235900003752:Unit:=()
def tw461709323632614786:Unit:=()
def tw7348007799992475693:Unit:=()
def tw8547799669935026460:Unit:=()
def tw18184686858200635943:Unit:=()
def tw3071566312982159358:Unit:=()
def tw11460230322674095510:Unit:=()
def tw15230630530363560018:Unit:=()
def tw10085362320985485998:Unit:=()
def tw3782433375034398845:Unit:=()
def tw12086061920300392337:Unit:=()
def tw17779528634424765212:Unit:=()
def tw6915050387637864587:Unit:=()
def tw3405647042762413421:Unit:=()
def tw12737198102937312968:Unit:=()
def tw4476325611820825655:Unit:=()
def tw14104785965439887114:Unit:=()
def tw18087433361107267088:Unit:=()
def tw2400930278785654611:Unit:=()
def tw12576927113306096975:Unit:=()
def tw3846569597790468962:Unit:=()
def tw12919308701099767576:Unit:=()
def tw15481447442847945442:Unit:=()
def tw12907804458718944015:Unit:=()
def tw14490679021687691358:Unit:=()
def tw2558302124629945656:Unit:=()
def tw11551477389612407911:Unit:=()
def tw12602585732333891615:Unit:=()
def tw14889987261455803901:Unit:=()
def tw13996774133731160493:Unit:=()
def tw12128671681423433500:Unit:=()
def tw13063672973239440185:Unit:=()
def tw7224407266636961224:Unit:=()
def tw11165557702099132084:Unit:=()
def tw1516288092213657974:Unit:=()
def tw8413502010684174704:Unit:=()
def tw10925272197293035200:Unit:=()
def tw3764159085092418230:Unit:=()
def tw3018065476875623063:Unit:=()
def tw15819295624652146543:Unit:=()
def tw15329499568209793340:Unit:=()
def tw7663975145447005130:Unit:=()
def tw10001109187781643578:Unit:=()
def tw1879696744178153623:Unit:=()
def tw7488571019328926926:Unit:=()
def tw13410875356210280329:Unit:=()
def tw1099333205683012141:Unit:=()
def tw1157432393111366926:Unit:=()
def tw12656021176419620221:Unit:=()
def tw10351218444394039254:Unit:=()
def tw7512433815228138355:Unit:=()
def tw1197359284636121505:Unit:=()
def tw11773057961626862764:Unit:=()
def tw11957281708719233122:Unit:=()
def tw6626965058464660992:Unit:=()
def tw1001419284743780452:Unit:=()
def tw17266259086481456014:Unit:=()
def tw4296379638639283097:Unit:=()
def tw9043364711790011584:Unit:=()
def tw13699184739757108706:Unit:=()
def tw10725746461792441413:Unit:=()
def tw6472680645904430225:Unit:=()
def tw9609835356081459390:Unit:=()
def tw8883076856663524359:Unit:=()
def tw16083830880936795360:Unit:=()
def tw16090118087426775750:Unit:=()
def tw14612847529443765709:Unit:=()
def tw6307912593266418252:Unit:=()
def tw5771991325103908692:Unit:=()
def tw11560608280866270617:Unit:=()
def tw15789019815494795457:Unit:=()
def tw16649023412919479924:Unit:=()
def tw10881353266223370240:Unit:=()
def tw13821911373296317106:Unit:=()
def tw5873924218397495727:Unit:=()
def tw2606909443375705873:Unit:=()
def tw3319352687852469514:Unit:=()
def tw4125995549541895649:Unit:=()
def tw8605603564992683776:Unit:=()
def tw12464518238059957244:Unit:=()
def tw6298409220538604749:Unit:=()
def tw446739382561089133:Unit:=()
def tw6019166616519979046:Unit:=()
def tw6763527230936267328:Unit:=()
def tw15976498847189074423:Unit:=()
def tw8705768398403561406:Unit:=()
def tw7788557541762497521:Unit:=()
def tw17600056888379284703:Unit:=()
def tw9050685218276679572:Unit:=()
def tw5879213278467885409:Unit:=()
def tw9359576915779132381:Unit:=()
def tw2194116779092623413:Unit:=()
def tw12667000394134450916:Unit:=()
def tw12213819757765094318:Unit:=()
def tw8191260536979831339:Unit:=()
def tw4227537917799844649:Unit:=()
def tw15106725265934390352:Unit:=()
def tw4310530972485687267:Unit:=()
def tw87246754200126660:Unit:=()
def tw16130968464318232521:Unit:=()
def tw9453166792376544130:Unit:=()
def tw17109004373516470705:Unit:=()
def tw10075128789817025904:Unit:=()
def tw11422115801631756557:Unit:=()
def tw9731388599190582977:Unit:=()
def tw1610433273470569932:Unit:=()
def tw3604402427256364962:Unit:=()
def tw9778084068581729923:Unit:=()
def tw15734881963681246769:Unit:=()
def tw2189749892280717628:Unit:=()
def tw17206422140385524829:Unit:=()
def tw4011222334813562294:Unit:=()
def tw12166722287162022022:Unit:=()
def tw3756822267349219590:Unit:=()
def tw18356459511741549242:Unit:=()
def tw8616672049206750863:Unit:=()
def tw13848394560757970696:Unit:=()
def tw16932566100164132082:Unit:=()
def tw12652085679599480484:Unit:=()
def tw13501971365184286961:Unit:=()
def tw7297853074703727752:Unit:=()
def tw2581763953560223979:Unit:=()
def tw17686924176596825921:Unit:=()
def tw11749304674156099852:Unit:=()
def tw2764618764976665632:Unit:=()
def tw3529652037895425497:Unit:=()
def tw13415927274768519039:Unit:=()
def tw7561829835586320053:Unit:=()
def tw17433439533690886127:Unit:=()
def tw14310572327083841108:Unit:=()
def tw2291844128847986014:Unit:=()
def tw6911401291103803894:Unit:=()
def tw7486628151150770962:Unit:=()
def tw4801747160789164606:Unit:=()
def tw10956377331006957856:Unit:=()
def tw8497891221812336185:Unit:=()
def tw17256618142621936190:Unit:=()
def tw1109206817353840393:Unit:=()
def tw7093386855727311019:Unit:=()
def tw18132942063983864772:Unit:=()
def tw9649525264191406435:Unit:=()
def tw10268648262436589655:Unit:=()
def tw14402266032135304635:Unit:=()
def tw2651556980519014726:Unit:=()
def tw4860184977828133520:Unit:=()
def tw8447184979779175482:Unit:=()
def tw4151940250166772781:Unit:=()
def tw7651546390066996252:Unit:=()
def tw3862637741996457771:Unit:=()
def tw6411098302224674986:Unit:=()
def tw9873398956549134726:Unit:=()
def tw11857612752105006850:Unit:=()
def tw11730165129856819273:Unit:=()
def tw14367551641647296026:Unit:=()
def tw16842726760167637682:Unit:=()
def tw11268138640170649749:Unit:=()
def tw7275903662541739688:Unit:=()
def tw15419859748567042466:Unit:=()
def tw15073628696177314304:Unit:=()
def tw16089292364724928943:Unit:=()
def tw10982952873230196822:Unit:=()
def tw5837003346747158224:Unit:=()
def tw10396392985019805757:Unit:=()
def tw13557860740804290767:Unit:=()
def tw18296974048753344991:Unit:=()
def tw11624414258967711640:Unit:=()
def tw4976335982667315164:Unit:=()
def tw17511804879386660109:Unit:=()
def tw3934547171580264002:Unit:=()
def tw7510664553927876212:Unit:=()
def tw812941830305316726:Unit:=()
def tw5310500283671474868:Unit:=()
def tw3602916113919278438:Unit:=()
def tw17382677209404089628:Unit:=()
def tw13819620233909564593:Unit:=()
def tw2649653041722422511:Unit:=()
def tw15922987826940711683:Unit:=()
def tw1573463832849616074:Unit:=()
def tw4228987011725626959:Unit:=()
def tw1729328287841999665:Unit:=()
def tw13552455316173099968:Unit:=()
def tw263243864697618092:Unit:=()
def tw3292350883096077100:Unit:=()
def tw11748845061464458767:Unit:=()
def tw15206338786232618858:Unit:=()
def tw13647851067497429577:Unit:=()
def tw17547555537144614195:Unit:=()
def tw13218374311650863415:Unit:=()
def tw7811900047349631787:Unit:=()
def tw14613127357416989467:Unit:=()
def tw11854128656784039367:Unit:=()
def tw15323852644743049320:Unit:=()
def tw12151154907529753601:Unit:=()
def tw5905954492528876278:Unit:=()
def tw10684784781462501010:Unit:=()
def tw3039876882085903214:Unit:=()
def tw10541711274864539510:Unit:=()
def tw2038113532651699109:Unit:=()
def tw2826066113501708530:Unit:=()
def tw11990461061240925086:Unit:=()
def tw13294935337712464620:Unit:=()
def tw7118319069020368491:Unit:=()
def tw4885129695918590215:Unit:=()
def tw15677966494258327120:Unit:=()
def tw15771419383536516383:Unit:=()
def tw6994040791858807675:Unit:=()
def tw7268384037844961695:Unit:=()
def tw6007715952887462610:Unit:=()
def tw11434622590468534511:Unit:=()
def tw7873211777872192149:Unit:=()
def tw16713716196557116402:Unit:=()
def tw212955537626861697:Unit:=()
def tw5242599951179987438:Unit:=()
def tw7190006215446951371:Unit:=()
def tw5740839078188569786:Unit:=()
def tw6533925367875729720:Unit:=()
def tw7857148104795773230:Unit:=()
def tw12153196873647277467:Unit:=()
def tw13997491766426935179:Unit:=()
def tw6816594113675623147:Unit:=()
def tw7620711101368977477:Unit:=()
def tw14048530460474475787:Unit:=()
def tw16438203194460103831:Unit:=()
def tw687857751842493417:Unit:=()
def tw7047572684468722767:Unit:=()
def tw9160687369621477798:Unit:=()
def tw3411229788747732762:Unit:=()
def tw2131380064366770908:Unit:=()
def tw17122478775867751148:Unit:=()
def tw4683106566197201935:Unit:=()
def tw9318344435479021006:Unit:=()
def tw6686395721231245392:Unit:=()
def tw17006348659695613510:Unit:=()
def tw10268174884368118124:Unit:=()
def tw10446287122137430187:Unit:=()
def tw9029336320026613001:Unit:=()
def tw5059468767177331176:Unit:=()
def tw7541658544560557931:Unit:=()
def tw11379266720753508950:Unit:=()
def tw8368577366957799903:Unit:=()
def tw9474907368126586998:Unit:=()
def tw2381480834103318306:Unit:=()
def tw7547164235941894174:Unit:=()
def tw9999687933626835450:Unit:=()
def tw17577248607805941364:Unit:=()
def tw3838169854114874707:Unit:=()
def tw12365804133587014812:Unit:=()
def tw16369762558068658813:Unit:=()
def tw17126172017094902504:Unit:=()
def tw4358255048963713440:Unit:=()
def tw4400117782505350662:Unit:=()
def tw5753779864427794046:Unit:=()
def tw7385350021785073191:Unit:=()
def tw2338739110277389511:Unit:=()
def tw14191287057959169954:Unit:=()
def tw3854216583317281944:Unit:=()
def tw1789655647040124281:Unit:=()
def tw3963160868321498019:Unit:=()
def tw12377816339197128983:Unit:=()
def tw1707696477407090487:Unit:=()
def tw14980720667937562307:Unit:=()
def tw4668730088011748885:Unit:=()
def tw14184718345927082001:Unit:=()
def tw6060760083102860038:Unit:=()
def tw3486229380194745639:Unit:=()
def tw6325727649718926886:Unit:=()
def tw13523899042703957569:Unit:=()
def tw12668296447356466239:Unit:=()
def tw1454400245538511934:Unit:=()
def tw9323618606433987625:Unit:=()
def tw1775417749765028951:Unit:=()
def tw16211098980096492788:Unit:=()
def tw9037406006611533776:Unit:=()
def tw561742433596449142:Unit:=()
def tw10576705019278922564:Unit:=()
def tw8411172488710119033:Unit:=()
def tw3616608482764624085:Unit:=()
def tw597137526345621304:Unit:=()
def tw15170773342207500824:Unit:=()
def tw8299724539310948069:Unit:=()
def tw3498115825314217173:Unit:=()
def tw3105534970580838970:Unit:=()
def tw10806324416659563109:Unit:=()
def tw5619810632349356507:Unit:=()
def tw10204747440909756526:Unit:=()
def tw5082113190300364021:Unit:=()
def tw15429525012330841855:Unit:=()
def tw5282321167668474649:Unit:=()
def tw9342589094198963080:Unit:=()
def tw9663077014548064415:Unit:=()
def tw12823909264592000456:Unit:=()
def tw937050681441392313:Unit:=()
def tw8471112912524051991:Unit:=()
def tw4732928423332641001:Unit:=()
def tw17630416960208182462:Unit:=()
def tw12749671841128609629:Unit:=()
def tw7416940283977241674:Unit:=()
def tw14736456027516576263:Unit:=()
def tw17931814228141818578:Unit:=()
def tw10768937798757602322:Unit:=()
def tw14647370713016531045:Unit:=()
def tw4186317790309988884:Unit:=()
def tw12369378572349256978:Unit:=()
def tw17516162190655749335:Unit:=()
def tw15780764293084897386:Unit:=()
def tw1213957481365276574:Unit:=()
def tw8680561287634008415:Unit:=()
def tw17272635861262804336:Unit:=()
def tw15908308971094654625:Unit:=()
def tw5527274111223559986:Unit:=()
def tw2399180171251281393:Unit:=()
def tw11385312587054824439:Unit:=()
def tw2978787363730479571:Unit:=()
def tw11561684425566025070:Unit:=()
def tw13783707302026069462:Unit:=()
def tw17832078524938613760:Unit:=()
def tw11730362450674927298:Unit:=()
def tw106566025362638698:Unit:=()
def tw13884831449435448596:Unit:=()
def tw3417915417590707139:Unit:=()
def tw488482183758437290:Unit:=()
def tw13527038535382074881:Unit:=()
def tw16192915952500080514:Unit:=()
def tw3957782463101438968:Unit:=()
def tw16078431236149284727:Unit:=()
def tw15623049616869715962:Unit:=()
def tw15371107261264806671:Unit:=()
def tw3087823205795612308:Unit:=()
def tw1468227792742147738:Unit:=()
def tw17036987433992249923:Unit:=()
def tw5615926055420557630:Unit:=()
def tw7778245613031363013:Unit:=()
def tw12073672975902313736:Unit:=()
def tw9866656835294559332:Unit:=()
def tw16421242863926838532:Unit:=()
def tw6450037549508656497:Unit:=()
def tw10381764146217264687:Unit:=()
def tw12518955012022718460:Unit:=()
def tw14932147237125536730:Unit:=()
def tw16656189270480208711:Unit:=()
def tw7380852610883173827:Unit:=()
def tw163444865232647556:Unit:=()
def tw2260689343343557131:Unit:=()
def tw14544821739423880025:Unit:=()
def tw4524432145062189314:Unit:=()
def tw760369735065536364:Unit:=()
def tw3164485034337374143:Unit:=()
def tw16293425419414477640:Unit:=()
def tw4436647051866626337:Unit:=()
def tw1017795650266597066:Unit:=()
def tw2264325180951405626:Unit:=()
def tw9591101699186574966:Unit:=()
def tw6591714205515237789:Unit:=()
def tw261989096909104767:Unit:=()
def tw15681298827462899633:Unit:=()
def tw16592684854856465057:Unit:=()
def tw17977849209037074624:Unit:=()
def tw2730095696789175233:Unit:=()
def tw16657184306983843367:Unit:=()
def tw8561244120084642130:Unit:=()
def tw10025020102067483495:Unit:=()
def tw1372562601254119054:Unit:=()
def tw8871704514697689852:Unit:=()
def tw10376674955794803319:Unit:=()
def tw18018178846941324752:Unit:=()
def tw2217543914198753847:Unit:=()
def tw11231127861792264241:Unit:=()
def tw17578377038597334718:Unit:=()
def tw2902839437532457024:Unit:=()
def tw1844173763298110215:Unit:=()
def tw12929612590178132672:Unit:=()
def tw17347139673503502341:Unit:=()
def tw16564646559292781847:Unit:=()
def tw6490040944578385636:Unit:=()
def tw14498221977635477960:Unit:=()
def tw387631135690786604:Unit:=()
def tw14155876567842107106:Unit:=()
def tw15106589842072641214:Unit:=()
def tw1772818545993895207:Unit:=()
def tw18199024995048088376:Unit:=()
def tw11145521823088799519:Unit:=()
def tw11328782304609583902:Unit:=()
def tw14690477784288121269:Unit:=()
def tw5736964067955872266:Unit:=()
def tw16802529297311384016:Unit:=()
def tw6008516537109936008:Unit:=()
def tw1535290001281612401:Unit:=()
def tw11013922878453299112:Unit:=()
def tw15094322895439492147:Unit:=()
def tw4995179761996989753:Unit:=()
def tw10417107812048036751:Unit:=()
def tw13917285521597886468:Unit:=()
def tw3945944850644244670:Unit:=()
def tw12093816004180756367:Unit:=()
def tw14091145636514084799:Unit:=()
def tw14780165494769590226:Unit:=()
def tw18208116525168896776:Unit:=()
def tw5161978888560223903:Unit:=()
def tw18192184881979667914:Unit:=()
def tw13990463196916161847:Unit:=()
def tw16062979787593361451:Unit:=()
def tw11513842250723261826:Unit:=()
def tw5985811491800481276:Unit:=()
def tw11166998388902697292:Unit:=()
def tw14396002446953230098:Unit:=()
def tw5406872944226748556:Unit:=()
def tw6973771362838687019:Unit:=()
def tw10443062282177653540:Unit:=()
def tw16055305021094918612:Unit:=()
def tw14960397673109621367:Unit:=()
def tw4009486029665049581:Unit:=()
def tw17991651046293508924:Unit:=()
def tw10284818520322042919:Unit:=()
def tw7390494271216091694:Unit:=()
def tw12798021352416476251:Unit:=()
def tw9994776990685621682:Unit:=()
def tw9337842732990725597:Unit:=()
def tw948177346812308124:Unit:=()
def tw17952211139011072990:Unit:=()
def tw752097696093533421:Unit:=()
def tw7988840770956439863:Unit:=()
def tw17413181798352454965:Unit:=()
def tw8534014035934703042:Unit:=()
def tw3472436049152606324:Unit:=()
def tw4844827863132819056:Unit:=()
def tw7631445450471054229:Unit:=()
def tw4117352364163490569:Unit:=()
def tw11228021462258818649:Unit:=()
def tw886889970295947723:Unit:=()
def tw8607624718693806476:Unit:=()
def tw244846085144434239:Unit:=()
def tw4108360852123003869:Unit:=()
def tw3520843391504868503:Unit:=()
def tw11777398607399330752:Unit:=()
def tw2861547045057530745:Unit:=()
def tw10228172514720927679:Unit:=()
def tw12893475783142127685:Unit:=()
def tw215224300785192475:Unit:=()
def tw16853753430271494271:Unit:=()
def tw1619294002736072940:Unit:=()
def tw12620291630868051755:Unit:=()
def tw12430653089973107285:Unit:=()
def tw8897787831665718902:Unit:=()
def tw13943664869993338537:Unit:=()
def tw10670639108005041173:Unit:=()
def tw7880413844448185961:Unit:=()
def tw162517856968360688:Unit:=()
def tw11211213061450144332:Unit:=()
def tw11996976982196072338:Unit:=()
def tw735514686753767090:Unit:=()
def tw14795288157694321350:Unit:=()
def tw12141330438659967219:Unit:=()
def tw15712206014343169051:Unit:=()
def tw1083545735125401270:Unit:=()
def tw2585378821481515102:Unit:=()
def tw2402533422212533547:Unit:=()
def tw13099959706201909527:Unit:=()
def tw2798827738484825028:Unit:=()
def tw7520479303751818658:Unit:=()
def tw7557926968708481366:Unit:=()
def tw7012976876988164582:Unit:=()
def tw12185196455793138611:Unit:=()
def tw17445890215412252699:Unit:=()
def tw353479049061038475:Unit:=()
def tw7921058526485003074:Unit:=()
def tw2726225944360048663:Unit:=()
def tw11555072849342061388:Unit:=()
def tw4947718884991964699:Unit:=()
def tw3020831197157038377:Unit:=()
def tw8221720562672390222:Unit:=()
def tw17573356868443642977:Unit:=()
def tw3067806494528222405:Unit:=()
def tw12122118382582140741:Unit:=()
def tw15761504059819206160:Unit:=()
def tw2730410141746787878:Unit:=()
def tw3189144631461779319:Unit:=()
def tw16256447322816046912:Unit:=()
def tw4088999861393462421:Unit:=()
def tw4023239377821777086:Unit:=()
def tw5496360608670331481:Unit:=()
def tw6141418520093317539:Unit:=()
def tw13008812977158097922:Unit:=()
def tw15815835379934250403:Unit:=()
def tw7027504251896452949:Unit:=()
def tw2130635664480258768:Unit:=()
def tw3249692462534287930:Unit:=()
def tw1692070243974949636:Unit:=()
def tw9634712271658740849:Unit:=()
def tw4993202607156086795:Unit:=()
end PySem.W.Fast
open PySem PySem.W PyProof.Rows
theorem fK {K:Frag}{mg:Str->Option Value}{x:Str}{st:Stmt}{h:Heap}{f:Addr}{oc:Value}{od an:Option Addr}{pF:Array (Option Value)}{kV doc pm aZ ct:Value}(X:K.In h)(G:h.Ns mainGlobals mg)(a:nsIn K mainGlobals x=some (some (.ref f)):=by k_is)
  (l:K.lookup f=some ⟨oc,od,.func (fnOf x x (L2.fM st) (L2.aP st) (L2.ar st) .none kV doc pm an aZ ct),pF⟩:=by k_is) (c:codeIn K aZ x=true:=by k_is) (k:keepIn K (.ref f)=true:=by k_is):L2.Fn K mg x st:=L2.V0 X G a l c k
theorem Y6 {K:Frag}{mg:Str->Option Value}{x:Str}{st:Stmt}{h:Heap}{f c:Addr}{oc:Value}{od an:Option Addr}{pF:Array (Option Value)}{kV doc pm ct:Value}(X:K.In h)(G:h.Ns mainGlobals mg)(a:nsIn K mainGlobals x=some (some (.ref f)):=by k_is)
  (l:K.lookup f=some ⟨oc,od,.func (fnOf x x (L2.fM st) (L2.aP st) (L2.ar st) .none kV doc pm an (.ref c) ct),pF⟩:=by k_is) (d:codeIn K (.ref c) x=true:=by k_is) (k:keepIn K (.ref f)=true:=by k_is):L2.LY K mg x st c:=⟨f,oc,od,an,pF,kV,doc,pm,ct,l,d,k,adA X G a⟩
set_option maxRecDepth 100000 in
set_option maxHeartbeats 0 in
theorem PySem.Challenge.cw_conicplaces_k44_small_points_holds : PySem.Challenge.rw_conicplaces_k44_small_points.Holds := by
 w_on; o_law; k_head; (case hw => w_witness2)
 k_fill
 refine P0.walk (l := PySem.Challenge.rw_conicplaces_k44_small_points) rfl rfl (fun w h Y => by first | exact W.kIn_of Y | exact W.km_in_of Y) (fun w h Y => W.km_tabs_of Y _ (List.Mem.head _)) ?F
 case F =>
  intro w mg fa h KX G RU
  refine' P0.all_mk KX G RU (fK KX G) (fK KX G) (fK KX G) (fK KX G) (fK KX G) (fK KX G) (fK KX G) (fK KX G) (fK KX G) (fK KX G) (fK KX G) (fK KX G) (fK KX G) (fK KX G) (fK KX G) (fK KX G) (fK KX G) (fK KX G) (fK KX G) (fK KX G) (fK KX G) (fK KX G) (fK KX G) (fK KX G) (fK KX G) (fK KX G) (fK KX G) (fK KX G) (fK KX G) (fK KX G) (fK KX G) (fK KX G) (fK KX G) (fK KX G) (fK KX G) (fK KX G) (fK KX G) (fK KX G) (fK KX G) (fK KX G) (fK KX G) (fK KX G) (fK KX G) (fK KX G) (fK KX G) (fK KX G) (fK KX G) (Y6 KX G) (fK KX G) (fK KX G) (fK KX G) (fK KX G) (fK KX G) (fK KX G) (fK KX G) (fK KX G) (fK KX G) (fK KX G) (fK KX G) ?o44 ?a44 ?l44 ?g44 ?k44 ?xm_CurveError ?xm_NoNumber ?xm_NoBack ?xm_NoJoin ?xm_NoSign ?xm_NotPlain ?xm_NoPlace ?xm_BadPlace ?xi_ce ?xi_0 ?xi_1 ?xi_2 ?xi_3 ?xi_4 ?xi_5 ?xi_6 ?xi_ve ?xe0 ?xe1 ?xe2 ?xe3 ?xe4 ?xe5 ?xe6 ?xe7 ?xx_BadPlace ?xxf_BadPlace ?xxn_BadPlace ?xxd_BadPlace ?xxs_BadPlace ?xxo_BadPlace ?xi_ce_2 ?xi_0_2 ?xi_1_2 ?xi_2_2 ?xi_3_2 ?xi_4_2 ?xi_5_2 ?xi_6_2 ?xi_ve_2 ?xe0_2 ?xe1_2 ?xe2_2 ?xe3_2 ?xe4_2 ?xe5_2 ?xe6_2 ?xe7_2 ?xx_NotPlain ?xy1 ?xy2 ?xy3 ?xx_CurveError ?xu_BadPlace ?xu_NotPlain ?xno_np ?xlam ?xi_ib ?xz_isinstance ?xz_int ?xz_bool ?xz_len ?xz_range ?xz_tuple ?xz_all ?xz_abs ?xz_sum ?xz_zip ?xz_max ?xz_min ?xz_list ?xz_sorted ?xz_set ?xz_ValueError
  (case xm_CurveError => k_is)
  (case xm_NoNumber => k_is)
  (case xm_NoBack => k_is)
  (case xm_NoJoin => k_is)
  (case xm_NoSign => k_is)
  (case xm_NotPlain => k_is)
  (case xm_NoPlace => k_is)
  (case xm_BadPlace => k_is)
  (case o44 => k_is)
  (case a44 => k_is)
  (case l44 => k_is)
  (case g44 => k_is)
  (case k44 => k_is)
  (case xi_ce => kernel_rfl)
  (case xi_0 => kernel_rfl)
  (case xi_1 => kernel_rfl)
  (case xi_2 => kernel_rfl)
  (case xi_3 => kernel_rfl)
  (case xi_4 => kernel_rfl)
  (case xi_5 => kernel_rfl)
  (case xi_6 => kernel_rfl)
  (case xi_ve => kernel_rfl)
  (case xe0 => kernel_rfl)
  (case xe1 => kernel_rfl)
  (case xe2 => kernel_rfl)
  (case xe3 => kernel_rfl)
  (case xe4 => kernel_rfl)
  (case xe5 => kernel_rfl)
  (case xe6 => kernel_rfl)
  (case xe7 => kernel_rfl)
  (case xx_BadPlace => kernel_rfl)
  (case xxf_BadPlace => kernel_rfl)
  (case xxn_BadPlace => kernel_rfl)
  (case xxd_BadPlace => kernel_rfl)
  (case xxs_BadPlace => kernel_rfl)
  (case xxo_BadPlace => kernel_rfl)
  (case xi_ce_2 => kernel_rfl)
  (case xi_0_2 => kernel_rfl)
  (case xi_1_2 => kernel_rfl)
  (case xi_2_2 => kernel_rfl)
  (case xi_3_2 => kernel_rfl)
  (case xi_4_2 => kernel_rfl)
  (case xi_5_2 => kernel_rfl)
  (case xi_6_2 => kernel_rfl)
  (case xi_ve_2 => kernel_rfl)
  (case xe0_2 => kernel_rfl)
  (case xe1_2 => kernel_rfl)
  (case xe2_2 => kernel_rfl)
  (case xe3_2 => kernel_rfl)
  (case xe4_2 => kernel_rfl)
  (case xe5_2 => kernel_rfl)
  (case xe6_2 => kernel_rfl)
  (case xe7_2 => kernel_rfl)
  (case xx_NotPlain => kernel_rfl)
  (case xy1 => kernel_rfl)
  (case xy2 => kernel_rfl)
  (case xy3 => kernel_rfl)
  (case xx_CurveError => kernel_rfl)
  (case xu_BadPlace => kernel_rfl)
  (case xu_NotPlain => kernel_rfl)
  (case xno_np => kernel_rfl)
  (case xlam => kernel_rfl)
  (case xi_ib => kernel_rfl)
  (case xz_isinstance => k_is)
  (case xz_int => k_is)
  (case xz_bool => k_is)
  (case xz_len => k_is)
  (case xz_range => k_is)
  (case xz_tuple => k_is)
  (case xz_all => k_is)
  (case xz_abs => k_is)
  (case xz_sum => k_is)
  (case xz_zip => k_is)
  (case xz_max => k_is)
  (case xz_min => k_is)
  (case xz_list => k_is)
  (case xz_sorted => k_is)
  (case xz_set => k_is)
  (case xz_ValueError => k_is)
