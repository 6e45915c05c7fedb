import PyProof.Rows.All
import Wide.All
import OpenK.AllK
import Wide.FinOn
import Lean
import PyProof.EqAt
import PyProof.EqKinds
import PyProof.TupleCall
import PyProof.CompFree
import PyProof.ConsumeWalk
import PyProof.CompMap
import KE.IntBitsLaws
import KE.KDictSum
import PyProof.Rows.EqDataRows
import PyProof.Rows.SortWalk
import KE.KLcPair
import PyProof.Cells
import PyProof.SumAny
import PyProof.ZipIter
import PyProof.Rows.ZipGen
import PyProof.Rows.FactsT2
import PyProof.WalkInts
import PyProof.SeqI3
import KE.KEqSeq
import PyProof.Rows.Range3
import PyProof.Rows.ChunkLeaf
import PyProof.InstStoreFacts
import PyProof.ExcClass3
import PyProof.ExcInit
import PyProof.Rows.InDataRows
import PySem.Challenge.RW_conicplaces_k15_plain_or_not
set_option Elab.async false
set_option linter.all false
set_option maxRecDepth 100000
set_option maxHeartbeats 4000000
namespace L2
open PySem PySem.Spec PyProof.Rows

abbrev Key := Sum Int Str
def keyIs : Key → Value → Bool
  | .inl k, v => Value.isInt k v
  | .inr x, v => Value.isStrOf x v
def keyH (w : World) : Key → Int
  | .inl k => hashInt k
  | .inr x => hashStr w x
theorem keyIs_shape : ∀ {k : Key} {v : Value}, keyIs k v = true → (∃ i t, k = Sum.inl i ∧ v = Value.int i t) ∨ (∃ x t, k = Sum.inr x ∧ v = Value.str x t)
  | .inl i, v, h => by
    obtain ⟨t, e⟩ := Value.isInt_shape (k := i) (v := v) h
    exact .inl ⟨i, t, rfl, e⟩
  | .inr x, v, h => by
    obtain ⟨t, e⟩ := Value.isStrOf_shape (x := x) (v := v) h
    exact .inr ⟨x, t, rfl, e⟩
theorem key_ll (a b : Int) : decide ((Sum.inl a : Key) = Sum.inl b) = (a == b) := by
  by_cases e : a = b
  · subst e; simp
  · have h : ¬ (Sum.inl a : Key) = Sum.inl b := fun q => e (Sum.inl.inj q)
    rw [decide_eq_false h]
    exact (beq_eq_false_iff_ne.mpr e).symm
theorem key_rr (a b : Str) : decide ((Sum.inr a : Key) = Sum.inr b) = decide (a = b) := by
  by_cases e : a = b
  · subst e; simp
  · have h : ¬ (Sum.inr a : Key) = Sum.inr b := fun q => e (Sum.inr.inj q)
    rw [decide_eq_false h, decide_eq_false e]
theorem key_lr (a : Int) (b : Str) : decide ((Sum.inl a : Key) = Sum.inr b) = false := decide_eq_false (fun q => nomatch q)
theorem key_rl (a : Str) (b : Int) : decide ((Sum.inr a : Key) = Sum.inl b) = false := decide_eq_false (fun q => nomatch q)

def mixKind (prog : Program) (w : World) : PySem.KeyKind prog w Key where
  is := keyIs
  hash := keyH w
  inj := fun v a b ha hb => by
    rcases keyIs_shape ha with ⟨i, t, rfl, rfl⟩ | ⟨x, t, rfl, rfl⟩
    · rcases keyIs_shape hb with ⟨j, u, rfl, e⟩ | ⟨y, u, rfl, e⟩
      · injection e with e1 _; rw [e1]
      · exact nomatch e
    · rcases keyIs_shape hb with ⟨j, u, rfl, e⟩ | ⟨y, u, rfl, e⟩
      · exact nomatch e
      · injection e with e1 _; rw [e1]
  byValue := fun k v h => by
    rcases keyIs_shape h with ⟨i, t, rfl, rfl⟩ | ⟨x, t, rfl, rfl⟩ <;> rfl
  pyHash := fun hv h => by
    rcases keyIs_shape hv with ⟨i, t, rfl, rfl⟩ | ⟨x, t, rfl, rfl⟩
    · exact wpAny_pyHash_int h
    · exact wpAny_pyHash_str h
  eqBool := fun hu hv h => by
    rcases keyIs_shape hu with ⟨i, t, rfl, rfl⟩ | ⟨x, t, rfl, rfl⟩
    · rcases keyIs_shape hv with ⟨j, u, rfl, rfl⟩ | ⟨y, u, rfl, rfl⟩
      · rw [key_ll] at h; exact wpAny_eqBool_int h
      · rw [key_lr] at h; exact SeqAt.EqAt.int_str i t y u _ _ _ _ h
    · rcases keyIs_shape hv with ⟨j, u, rfl, rfl⟩ | ⟨y, u, rfl, rfl⟩
      · rw [key_rl] at h; exact SeqAt.EqAt.str_int x t j u _ _ _ _ h
      · rw [key_rr] at h; exact wpAny_eqBool_str h
  «strs» := fun k x t v h => by
    rcases keyIs_shape h with ⟨i, u, rfl, e⟩ | ⟨y, u, rfl, e⟩
    · exact nomatch e
    · injection e with e1 _
      subst e1
      cases v <;> rfl

end L2

namespace L2
open PySem PySem.Spec PyProof.Rows

inductive V where
  | non | bl (b : Bool) | int (i : Int) | str (x : Str) | byt (b : Array UInt8) | flt (b : UInt64) | ref (a : Addr) | ty (n : String)
  deriving DecidableEq

def RelV : V → Value → Prop
  | .non, u => u = Value.none
  | .bl b, u => u = Value.bool b
  | .int i, u => ∃ t, u = Value.int i t
  | .str x, u => ∃ t, u = Value.str x t
  | .byt b, u => ∃ t, u = Value.bytes b t
  | .flt b, u => ∃ t, u = Value.float b t
  | .ref a, u => u = Value.ref a
  | .ty n, u => u = Value.type n

abbrev Vals : List V → List Value → Prop := Paired RelV
theorem Vals.length {xs : List V} {us : List Value} (r : Vals xs us) : xs.length = us.length := Paired.length r
theorem Vals.get : ∀ {xs : List V} {us : List Value} {i : Nat} {x : V}, Vals xs us → xs[i]? = some x → ∃ u, us[i]? = some u ∧ RelV x u
  | _, _, _, _, .nil, e => by simp at e
  | _, _, 0, _, .cons r _, e => by simp at e; subst e; exact ⟨_, rfl, r⟩
  | _, _, i + 1, x, .cons _ t, e => by
    obtain ⟨u, h1, h2⟩ := Vals.get (i := i) (x := x) t (by simpa using e)
    exact ⟨u, by simpa using h1, h2⟩
theorem Vals.set {x : V} {u : Value} (r : RelV x u) : ∀ {xs : List V} {us : List Value} (i : Nat), Vals xs us → Vals (xs.set i x) (us.set i u)
  | _, _, _, .nil => .nil
  | _, _, 0, .cons _ t => .cons r t
  | _, _, i + 1, .cons q t => .cons q (Vals.set r i t)
theorem Vals.append : ∀ {xs ys : List V} {us ws : List Value}, Vals xs us → Vals ys ws → Vals (xs ++ ys) (us ++ ws)
  | _, _, _, _, .nil, s => s
  | _, _, _, _, .cons r t, s => .cons r (Vals.append t s)
theorem Vals.none_of : ∀ {xs : List V} {us : List Value} {i : Nat}, Vals xs us → xs[i]? = none → us[i]? = none := fun {xs us i} r e => by
  have h1 := r.length
  have h2 : xs.length ≤ i := List.getElem?_eq_none_iff.mp e
  exact List.getElem?_eq_none_iff.mpr (by omega)

def RelO : Option V → Option Value → Prop
  | some v, some u => RelV v u
  | none, none => True
  | _, _ => False
def KV {κ : Type} : List (κ × V) → List (κ × Value) → Prop := Paired fun (p : κ × V) (q : κ × Value) => p.1 = q.1 ∧ RelV p.2 q.2

def kV : Key → V
  | .inl i => .int i
  | .inr x => .str x

inductive HO where
  /-- a list -/
  | lst (xs : List V)
  /-- a tuple (never changes) -/
  | tup (xs : List V)
  /-- a dict whose keys are ints and texts; one whose keys are tuples of ints and texts (the empty one is both) -/
  | dK (kvs : List (Key × V)) | dT (kvs : List (List Key × V))
  /-- a set of ints: its members, its size -/
  | set (S : Int → Bool) (n : Nat)
  /-- an instance of the class at C, its dict at dx, its attributes -/
  | ins (C dx : Addr) (fs : List (Str × V))
  /-- the dict of the instance at x -/
  | own (x : Addr)
  /-- the dict of an exception -/
  | xd (fs : List (Str × V))
  /-- a bound method, f of x -/
  | met (f x : Addr)
  /-- a range object lo, lo + 1, .. below hi -/
  | rng (lo hi : Int)
  /-- a thing that is known to the object (the script; a dict while a loop walks it): read, never written while it is so -/
  | frz (o : Obj) (u : HO)
  /-- a code object's table -/
  | tbl (ps : Array Value)
  /-- any other thing, by what is true of its one object (a def of one's own: SetO a S n := HO.ext fun h => ..) -/
  | ext (φ : Heap → Prop)

abbrev Hp := Addr → Option HO
def upd (H : Hp) (a : Addr) (o : HO) : Hp := fun b => if b = a then some o else H b
theorem upd_same {H : Hp} {a : Addr} {o : HO} : upd H a o a = some o := by unfold upd; rw [if_pos rfl]
theorem upd_ne {H : Hp} {a b : Addr} {o : HO} (h : b ≠ a) : upd H a o b = H b := by unfold upd; rw [if_neg h]
theorem ne_of_none {H : Hp} {a b : Addr} {o : HO} (h : H a = some o) (h' : H b = none) : a ≠ b := by
  intro e; subst e; rw [h] at h'; cases h'

section
variable (P : Program) (w : World)
def ObjOk (H : Hp) (h : Heap) (a : Addr) : HO → Prop
  | .lst xs => xs.length ≤ sizeLine ∧ ∃ (its : List Value) (n : Nat), Vals xs its ∧ h.get? a = some { cls := .type "list", data := .seq its.toArray n }
  | .tup xs => xs.length ≤ sizeLine ∧ ∃ its : List Value, Vals xs its ∧ IsTup h a its.toArray
  | .dK kvs => kvs.length ≤ sizeLine ∧ (a == sysModules) = false ∧ ∃ vs, KV kvs vs ∧ h.DictOf (mixKind P w) a vs
  | .dT kvs => kvs.length ≤ sizeLine ∧ (a == sysModules) = false ∧ ∃ xs : List (List Key × Addr × Value),
      Paired (fun (p : List Key × V) (q : List Key × Addr × Value) => p.1 = q.1 ∧ H q.2.1 = some (.tup (p.1.map kV)) ∧ RelV p.2 q.2.2) kvs xs ∧
      ∃ o es ep, h.get? a = some o ∧ o.ExactDict ∧ o.data = .dict es ep ∧ es.toList = xs.map (entryOfKey (tupleKind (mixKind P w))) ∧ (xs.map (·.1)).Nodup
  | .set S n => h.SetOf (intKind P w) a S n
  | .ins C dx fs => H dx = some (.own a) ∧ fs.length ≤ 1000 ∧ dx ≠ a ∧ h.get? a = some (PySem.W.instObj C dx) ∧
      ∃ mA, h.Ns1 dx mA ∧ (∀ f, RelO (fs.lookup f) (mA f)) ∧ PySem.Within mA (fs.map (·.1))
  | .own _ => ∃ o, h.get? a = some o
  | .xd fs => ∃ mA, h.Ns1 a mA ∧ ∀ f, RelO (fs.lookup f) (mA f)
  | .rng lo hi => ∃ t u v, h.get? a = some { cls := .type "range", data := .fields #[.int lo t, .int hi u, .int 1 v] }
  | .frz o u => h.get? a = some o ∧ ObjOk H h a u
  | .tbl ps => h.get? a = some { cls := .none, data := .fields ps }
  | .met f x => h.get? a = some (PySem.W.methodObj (.ref f) (.ref x))
  | .ext φ => φ h ∧ (∃ o, h.get? a = some o) ∧ ∀ h1 h2 : Heap, φ h1 → (∀ o, h1.get? a = some o → h2.get? a = some o) → φ h2
def HOk (H : Hp) (h : Heap) : Prop := ∀ a o, H a = some o → ObjOk P w H h a o
end

section
variable {P : Program} {w : World} {H H' : Hp} {h h' : Heap} {a : Addr} {o : HO}
theorem ObjOk.lt (x : ObjOk P w H h a o) : a < h.objs.size := by
  cases o with
  | lst xs => obtain ⟨_, _, _, _, e⟩ := x; exact Heap.lt_size e
  | tup xs => obtain ⟨_, _, _, p⟩ := x; exact p.lt
  | dK kvs => obtain ⟨_, _, _, _, o, _, _, e, _⟩ := x; exact Heap.lt_size e
  | dT kvs => obtain ⟨_, _, _, _, o, _, _, e, _⟩ := x; exact Heap.lt_size e
  | set S n => obtain ⟨o, _, _, _, e, _⟩ := x; exact Heap.lt_size e
  | ins C dx fs => obtain ⟨_, _, _, e, _⟩ := x; exact Heap.lt_size e
  | own y => obtain ⟨_, e⟩ := x; exact Heap.lt_size e
  | xd fs => obtain ⟨_, ⟨_, _, _, e, _⟩, _⟩ := x; exact Heap.lt_size e
  | rng lo hi => obtain ⟨_, _, _, e⟩ := x; exact Heap.lt_size e
  | frz ob u => obtain ⟨e, _⟩ := x; exact Heap.lt_size e
  | tbl ps => exact Heap.lt_size (show h.get? a = some _ from x)
  | met f y => exact Heap.lt_size (show h.get? a = some _ from x)
  | ext φ => obtain ⟨_, ⟨_, e⟩, _⟩ := x; exact Heap.lt_size e
theorem Paired.mapP {α β : Type} {F G : α → β → Prop} : ∀ {l₁ : List α} {l₂ : List β}, Paired F l₁ l₂ → (∀ a b, F a b → G a b) → Paired G l₁ l₂
  | _, _, .nil, _ => .nil
  | _, _, .cons r t, f => .cons (f _ _ r) (Paired.mapP t f)
theorem ObjOk.stay (x : ObjOk P w H h a o) (k : ∀ b u, (b = a ∨ H b = some (.own a)) → h.get? b = some u → h'.get? b = some u)
    (ho : ∀ b, H b = some (.own a) → H' b = some (.own a)) (ht : ∀ b xs, H b = some (.tup xs) → H' b = some (.tup xs)) : ObjOk P w H' h' a o := by
  induction o with
  | lst xs => obtain ⟨z, its, n, r, e⟩ := x; exact ⟨z, its, n, r, k _ _ (.inl rfl) e⟩
  | tup xs => obtain ⟨z, its, r, ob, e, c⟩ := x; exact ⟨z, its, r, ob, k _ _ (.inl rfl) e, c⟩
  | dK kvs => obtain ⟨z, y, vs, r, ob, es, ep, e, c⟩ := x; exact ⟨z, y, vs, r, ob, es, ep, k _ _ (.inl rfl) e, c⟩
  | dT kvs =>
    obtain ⟨z, y, xs, r, ob, es, ep, e, c⟩ := x
    exact ⟨z, y, xs, Paired.mapP r fun p q z => ⟨z.1, ht _ _ z.2.1, z.2.2⟩, ob, es, ep, k _ _ (.inl rfl) e, c⟩
  | set S n => obtain ⟨ob, es, ep, t, e, c⟩ := x; exact ⟨ob, es, ep, t, k _ _ (.inl rfl) e, c⟩
  | ins C dx fs =>
    obtain ⟨d, z, ne, e, mA, ⟨od, es, ep, e2, c⟩, r⟩ := x
    exact ⟨ho _ d, z, ne, k _ _ (.inl rfl) e, mA, ⟨od, es, ep, k _ _ (.inr d) e2, c⟩, r⟩
  | own y => obtain ⟨ob, e⟩ := x; exact ⟨ob, k _ _ (.inl rfl) e⟩
  | xd fs => obtain ⟨mA, ⟨od, es, ep, e, c⟩, r⟩ := x; exact ⟨mA, ⟨od, es, ep, k _ _ (.inl rfl) e, c⟩, r⟩
  | rng lo hi => obtain ⟨t, u, v, e⟩ := x; exact ⟨t, u, v, k _ _ (.inl rfl) e⟩
  | frz ob u ih => obtain ⟨e, q⟩ := x; exact ⟨k _ _ (.inl rfl) e, ih q⟩
  | tbl ps =>
    have e : h.get? a = some { cls := .none, data := .fields ps } := x
    show h'.get? a = some { cls := .none, data := .fields ps }
    exact k a _ (.inl rfl) e
  | met f y =>
    have e : h.get? a = some (PySem.W.methodObj (.ref f) (.ref y)) := x
    show h'.get? a = some (PySem.W.methodObj (.ref f) (.ref y))
    exact k a _ (.inl rfl) e
  | ext φ => obtain ⟨p, ⟨o, e⟩, st⟩ := x; exact ⟨st _ _ p fun o q => k _ _ (.inl rfl) q, ⟨o, k _ _ (.inl rfl) e⟩, st⟩
theorem HOk.lt (x : HOk P w H h) (e : H a = some o) : a < h.objs.size := (x a o e).lt
theorem HOk.fresh (x : HOk P w H h) (e : h.objs.size ≤ a) : H a = none := by
  cases q : H a with
  | none => rfl
  | some u => exact absurd (Nat.lt_of_lt_of_le (x.lt q) e) (Nat.lt_irrefl _)
theorem HOk.kept (x : HOk P w H h) (k : ∀ b u, h.get? b = some u → h'.get? b = some u) : HOk P w H h' := fun a o e =>
  (x a o e).stay (fun b u _ q => k b u q) (fun _ q => q) fun _ _ q => q
theorem HOk.laid (x : HOk P w H h) (k : ∀ b u, h.get? b = some u → h'.get? b = some u) (hp : h.objs.size ≤ a) (new : ObjOk P w (upd H a o) h' a o) : HOk P w (upd H a o) h' := fun b u e => by
  have hn := x.fresh hp
  by_cases hb : b = a
  · subst hb; rw [upd_same] at e; cases e; exact new
  · rw [upd_ne hb] at e
    exact (x b u e).stay (fun c v _ q => k c v q) (fun c q => by rw [upd_ne (ne_of_none q hn)]; exact q) fun c xs q => by rw [upd_ne (ne_of_none q hn)]; exact q
end

def Rd (H : Hp) (a : Addr) (u : HO) : Prop := H a = some u ∨ ∃ o, H a = some (.frz o u)
theorem Rd.ok {P : Program} {w : World} {H : Hp} {h : Heap} {a : Addr} {u : HO} (r : Rd H a u) (x : HOk P w H h) : ObjOk P w H h a u := by
  rcases r with r | ⟨o, r⟩
  · exact x a u r
  · obtain ⟨_, q⟩ := x a _ r
    exact q
def Mut : Option HO → Prop
  | some (.lst _) => True
  | some (.dK _) => True
  | some (.dT _) => True
  | some (.set _ _) => True
  | some (.ins _ _ _) => True
  | some (.ext _) => True
  | _ => False
section
variable {P : Program} {w : World} {H : Hp} {h h' : Heap} {x e : Addr} {o' : HO}
theorem HOk.write (ok : HOk P w H h) (mu : Mut (H x)) (he : e = x ∨ H e = some (.own x)) (k : ∀ b u, b ≠ e → h.get? b = some u → h'.get? b = some u) (heo : ∃ u, h'.get? e = some u)
    (new : ObjOk P w (upd H x o') h' x o') : HOk P w (upd H x o') h' := fun b u q => by
  have nown : ∀ c y, H c = some (.own y) → c ≠ x := fun c y r z => by subst z; rw [r] at mu; exact mu
  have ntup : ∀ c xs, H c = some (.tup xs) → c ≠ x := fun c xs r z => by subst z; rw [r] at mu; exact mu
  by_cases hb : b = x
  · subst hb; rw [upd_same] at q; cases q; exact new
  · rw [upd_ne hb] at q
    by_cases hbe : b = e
    · have q' : H b = some (.own x) := by
        rcases he with z | z
        · exact absurd (hbe.trans z) hb
        · rw [hbe]; exact z
      rw [q] at q'; cases q'
      obtain ⟨v, hv⟩ := heo
      exact ⟨v, by rw [hbe]; exact hv⟩
    · refine (ok b u q).stay (fun c v hc r => k c v ?_ r) (fun c r => by rw [upd_ne (nown c b r)]; exact r) fun c xs r => by rw [upd_ne (ntup c xs r)]; exact r
      rcases hc with rfl | hc
      · exact hbe
      · rintro rfl
        rcases he with z | z
        · exact nown c b hc z
        · rw [hc] at z; cases z; exact hb rfl
end

structure Un (fs ex : List Addr) (H H' : Hp) (h h' : Heap) : Prop where
  keep : ∀ b o, h.get? b = some o → H b = none → b ∉ fs → b ∉ ex → h'.get? b = some o
  slot : ∀ b o, h.get? b = some o → H b = none → b ∈ fs → b ∉ ex → ∃ sl, h'.get? b = some { o with slots := sl }
  free : ∀ b o, h.get? b = some o → H b = none → b ∉ ex → H' b = none
  there : ∀ b o, h.get? b = some o → b ∉ ex → ∃ o', h'.get? b = some o'
  tups : ∀ b xs, H b = some (.tup xs) → H' b = some (.tup xs)
  frzs : ∀ b o u, H b = some (.frz o u) → H' b = some (.frz o u)
  tbls : ∀ b ps, H b = some (.tbl ps) → ∃ more, H' b = some (.tbl (ps ++ more))
section
variable {fs fs' ex ex' : List Addr} {H H1 H2 : Hp} {h h1 h2 h' : Heap} {a x e : Addr} {o : HO}
theorem Un.any (u : Un fs ex H H1 h h1) {b : Addr} {ob : Obj} (q : h.get? b = some ob) (n : H b = none) (hx : b ∉ ex) : ∃ sl, h1.get? b = some { ob with slots := sl } := by
  by_cases hb : b ∈ fs
  · exact u.slot b ob q n hb hx
  · exact ⟨ob.slots, u.keep b ob q n hb hx⟩
theorem Un.kept (k : ∀ b u, h.get? b = some u → h'.get? b = some u) : Un fs ex H H h h' :=
  ⟨fun b ob q _ _ _ => k b ob q, fun b ob q _ _ _ => ⟨ob.slots, k b ob q⟩, fun _ _ _ n _ => n, fun b ob q _ => ⟨ob, k b ob q⟩, fun _ _ q => q, fun _ _ _ q => q, fun _ ps q => ⟨#[], by rw [q]; simp⟩⟩
theorem Un.refl : Un fs ex H H h h := Un.kept fun _ _ q => q
theorem Un.laid (k : ∀ b u, h.get? b = some u → h'.get? b = some u) (hp : h.objs.size ≤ a) (hn : H a = none) : Un fs ex H (upd H a o) h h' where
  keep := fun b u q _ _ _ => k b u q
  slot := fun b u q _ _ _ => ⟨u.slots, k b u q⟩
  free := fun b u q n _ => by rw [upd_ne (Nat.ne_of_lt (Nat.lt_of_lt_of_le (Heap.lt_size q) hp))]; exact n
  there := fun b u q _ => ⟨u, k b u q⟩
  tups := fun b xs q => by rw [upd_ne (ne_of_none q hn)]; exact q
  frzs := fun b u xs q => by rw [upd_ne (ne_of_none q hn)]; exact q
  tbls := fun b ps q => ⟨#[], by rw [upd_ne (ne_of_none q hn), q]; simp⟩
theorem Un.write (mu : Mut (H x)) (he : e = x ∨ H e = some (.own x)) (k : ∀ b u, b ≠ e → h.get? b = some u → h'.get? b = some u) (heo : ∃ u, h'.get? e = some u) : Un fs ex H (upd H x o) h h' := by
  have hx : ∀ b, H b = none → b ≠ x := fun b n z => by subst z; rw [n] at mu; exact mu
  have hb : ∀ b, H b = none → b ≠ e := fun b n z => by
    subst z
    rcases he with r | r
    · exact hx b n r
    · rw [n] at r; cases r
  have hm : ∀ b u, H b = some u → ¬ Mut (some u) → b ≠ x := fun b u q nm z => by subst z; rw [q] at mu; exact nm mu
  refine ⟨fun b u q n _ _ => k b u (hb b n) q, fun b u q n _ _ => ⟨u.slots, k b u (hb b n) q⟩, fun b u q n _ => by rw [upd_ne (hx b n)]; exact n, fun b u q _ => ?_,
    fun b xs q => by rw [upd_ne (hm b _ q fun z => z)]; exact q, fun b u xs q => by rw [upd_ne (hm b _ q fun z => z)]; exact q, fun b ps q => ⟨#[], by rw [upd_ne (hm b _ q fun z => z), q]; simp⟩⟩
  by_cases hbe : b = e
  · subst hbe; exact heo
  · exact ⟨u, k b u hbe q⟩
end

def trk (h : Heap) (H : Hp) : List Addr := (List.range h.objs.size).filter fun a => (H a).isSome
def hidT (h : Heap) (H : Hp) : Heap := PySem.W.hideAll h (trk h H)
theorem hidT_size (h : Heap) (H : Hp) : (hidT h H).objs.size = h.objs.size := PySem.W.hideAll_size _ _
theorem hidT_get {h : Heap} {H : Hp} {b : Addr} {o : Obj} (e : h.get? b = some o) (n : H b = none) : (hidT h H).get? b = some o :=
  PySem.W.hideAll_get _ e fun hm => by
    have q : (H b).isSome = true := (List.mem_filter.mp hm).2
    rw [n] at q; simp at q
theorem of_hidT {h : Heap} {H : Hp} {b : Addr} {o : Obj} (e : (hidT h H).get? b = some o) : h.get? b = some o ∧ H b = none := by
  have e' : h.get? b = some o := PySem.W.of_hideAll (trk h H) e
  refine ⟨e', ?_⟩
  cases q : H b with
  | none => rfl
  | some x =>
    have hm : b ∈ trk h H := List.mem_filter.mpr ⟨List.mem_range.mpr (Heap.lt_size e'), by simp [q]⟩
    have z : (hidT h H).get? b = none := PySem.W.hideAll_none (trk h H) hm
    rw [z] at e; cases e

def allNews (g h : Heap) (L : Addr) : List (Addr × Obj) := (List.range h.objs.size).filterMap fun a => if a = L ∨ (g.get? a).isSome = true then none else (h.get? a).map fun o => (a, o)
def rest (g h : Heap) (L d : Addr) : List (Addr × Obj) := (allNews g h L).filter fun p => decide (p.1 ≠ d)
end L2

namespace L2
open PySem PySem.Spec PyProof.Rows

structure Mod (K : PySem.W.Frag) (mg : Str → Option Value) (base : Heap) : Prop where
  kin : K.In base
  glob : base.Ns mainGlobals mg
  blt : ∃ mb, base.Ns builtinsNs mb ∧ ∀ x : Str, x ≠ "__name__" → mb x = bootBuiltins x
  nolimit : base.NoLimit

structure Cx where
  prog : Program
  w : World
  K : PySem.W.Frag
  mg : Str → Option Value
  base : Heap
  A : Around
  N : List Str
  s₀ : Shared
  H₀ : Hp
  env : Env
  outer : List Env
  stack : List Env
  ex : List Addr
  fn : Str → Bool
  calm : Bool
  pn : List (Addr × Obj)
  xe : Value → Shared → Prop
def frs (l : List Env) : List Addr := l.filterMap (·.frame)
abbrev Cx.fs (X : Cx) : List Addr := frs X.outer

def Vis (sc : Scope) (x : Str) : Prop := sc.names.lookup x = some .local ∨ sc.names.lookup x = some .cell ∨ sc.names.lookup x = some .free
def Loc (sc : Scope) (x : Str) : Prop := sc.names.lookup x = some .local ∨ sc.names.lookup x = some .cell
def Look (env : Env) (h : Heap) (m : Str → Option Value) (x : Str) (u : Value) : Prop :=
  (env.kindOf x = some .local ∧ m x = some u) ∨ ((env.kindOf x = some .cell ∨ env.kindOf x = some .free) ∧ ∃ c, env.cells.lookup x = some c ∧ h.IsCell c (some u))

structure Cx.Ok (X : Cx) : Prop where
  mod : Mod X.K X.mg X.base
  kind : X.env.scope.kind = .function
  glob : X.env.globals = mainGlobals
  blt : X.env.builtins = builtinsNs
  above : X.s₀.heap.objs.size ≤ X.env.locals
  inj : ∀ x y c, X.env.cells.lookup x = some c → X.env.cells.lookup y = some c → x = y
  has : ∀ x, (X.env.kindOf x = some .cell ∨ X.env.kindOf x = some .free) → ∃ c, X.env.cells.lookup x = some c
  cab : ∀ x c, X.fn x = true → X.env.cells.lookup x = some c → X.s₀.heap.objs.size ≤ c
  hd : X.calm = true → X.A.handled = none
  frames : X.A.frames = some X.stack
  stk : X.stack = X.outer ∨ (X.stack = X.env :: X.outer ∧ X.env.frame = some X.env.locals)
  exf : ∀ b ∈ X.ex, b ≠ X.env.locals ∧ ∀ x c, X.env.cells.lookup x = some c → c ≠ b
  bs : ∀ b o, X.base.get? b = some o → X.s₀.heap.get? b = some o ∧ X.H₀ b = none
  bsz : X.base.objs.size ≤ X.s₀.heap.objs.size
  noex : ∀ b o, X.base.get? b = some o → b ∉ X.ex
  exfs : ∀ b ∈ X.ex, b ∉ X.fs
  funs : X.s₀.heap.FunFrames X.base X.outer
  frf : ∀ b ∈ X.fs, X.H₀ b = none

structure Inv (X : Cx) (pins : List (Addr × Obj)) (σ : List (Option V)) (H : Hp) (s : Shared) : Prop where
  ok : X.Ok
  os : s.os = X.s₀.os
  bare : AllBare s.gens
  base : Un X.fs X.ex X.H₀ H X.s₀.heap s.heap
  loc : ∃ m, s.heap.Ns X.env.locals m ∧ ∀ (i : Nat) (x : Str) (v : V), X.N[i]? = some x → σ[i]? = some (some v) → Vis X.env.scope x → ∃ u, RelV v u ∧ Look X.env s.heap m x u
  cell : ∀ x c, X.env.cells.lookup x = some c → ∃ v, s.heap.IsCell c v
  free : H X.env.locals = none
  freeC : ∀ x c, X.env.cells.lookup x = some c → H c = none
  pin : ∀ p ∈ X.pn ++ pins, s.heap.get? p.1 = some p.2 ∧ H p.1 = none ∧ p.1 ≠ X.env.locals ∧ p.1 ∉ X.fs ∧ ∀ v, p.2.data ≠ .cell v
  hok : HOk X.prog X.w H s.heap
  len : σ.length = X.N.length

section
variable {X : Cx} {pins : List (Addr × Obj)} {σ : List (Option V)} {H H' : Hp} {s : Shared} {h' : Heap}

theorem Cx.Ok.nofr (ok : X.Ok) {b : Addr} {o : Obj} (e : X.base.get? b = some o) : b ∉ X.fs := fun hb => by
  have := (ok.funs.mem hb).1
  rw [e] at this; cases this
theorem Inv.bs (I : Inv X pins σ H s) : ∀ b o, X.base.get? b = some o → s.heap.get? b = some o ∧ H b = none := fun b o e =>
  ⟨I.base.keep b o (I.ok.bs b o e).1 (I.ok.bs b o e).2 (I.ok.nofr e) (I.ok.noex b o e), I.base.free b o (I.ok.bs b o e).1 (I.ok.bs b o e).2 (I.ok.noex b o e)⟩
theorem Inv.bk (I : Inv X pins σ H s) : ∀ b o, X.base.get? b = some o → s.heap.get? b = some o := fun b o e => (I.bs b o e).1
theorem Inv.mod (I : Inv X pins σ H s) : Mod X.K X.mg X.base := I.ok.mod
theorem Inv.kIn (I : Inv X pins σ H s) : X.K.In s.heap := I.ok.mod.kin.keeps I.bk
theorem Inv.lt (I : Inv X pins σ H s) : X.env.locals < s.heap.objs.size := let ⟨_, hn, _⟩ := I.loc; hn.lt
theorem Inv.sz (I : Inv X pins σ H s) : X.s₀.heap.objs.size ≤ s.heap.objs.size := Nat.le_trans I.ok.above (Nat.le_of_lt I.lt)
theorem Inv.nofs (I : Inv X pins σ H s) {a : Addr} (h : s.heap.objs.size ≤ a) : a ∉ X.fs := fun hb => by
  obtain ⟨_, o, ho, _⟩ := I.ok.funs.mem hb
  exact absurd (Nat.lt_of_lt_of_le (Heap.lt_size ho) (Nat.le_trans I.sz h)) (Nat.lt_irrefl _)
theorem Inv.cne (I : Inv X pins σ H s) : ∀ x c, X.env.cells.lookup x = some c → c ≠ X.env.locals := fun x c e z => by
  obtain ⟨v, o, ho, hd⟩ := I.cell x c e
  obtain ⟨m, ⟨o', es, ep, ho', hd', _⟩, _⟩ := I.loc
  rw [z, ho'] at ho; cases ho; rw [hd'] at hd; cases hd
theorem Inv.funs (I : Inv X pins σ H s) : s.heap.FunFrames X.base X.outer := by
  have all : ∀ (l : List Env), (∀ b ∈ frs l, b ∈ X.fs) → X.s₀.heap.FunFrames X.base l → s.heap.FunFrames X.base l := by
    intro l
    induction l with
    | nil => intro _ _; trivial
    | cons env r ih =>
      intro hs hl
      obtain ⟨hk, ⟨L, o, hf, hn, ho, hd⟩, hr⟩ := hl
      have hL : L ∈ X.fs := hs L (by unfold frs; rw [List.filterMap_cons, hf]; exact List.mem_cons_self)
      obtain ⟨sl, e⟩ := I.base.slot L o ho (I.ok.frf L hL) hL fun z => I.ok.exfs L z hL
      exact ⟨hk, ⟨L, _, hf, hn, e, hd⟩, ih (fun b hb => hs b (by unfold frs; rw [List.filterMap_cons, hf]; exact List.mem_cons_of_mem _ hb)) hr⟩
  exact all X.outer (fun _ hb => hb) I.ok.funs

theorem Inv.stack (I : Inv X pins σ H s) : s.heap.FunFrames X.base X.stack := by
  rcases I.ok.stk with e | ⟨e, hf⟩
  · rw [e]; exact I.funs
  · rw [e]
    obtain ⟨m, hn, _⟩ := I.loc
    refine .cons (by rw [I.ok.kind]; decide) hf hn ?_ I.funs
    exact Heap.get?_none_of_le (Nat.le_trans I.ok.bsz I.ok.above)
theorem Inv.stkSub (I : Inv X pins σ H s) : ∀ b ∈ frs X.stack, b ∈ X.env.locals :: X.fs := fun b hb => by
  rcases I.ok.stk with e | ⟨e, hf⟩
  · rw [e] at hb; exact List.mem_cons_of_mem _ hb
  · rw [e] at hb
    unfold frs at hb
    rw [List.filterMap_cons, hf] at hb
    exact hb
theorem Inv.stkFree (I : Inv X pins σ H s) : ∀ b ∈ frs X.stack, H b = none := fun b hb => by
  rcases List.mem_cons.mp (I.stkSub b hb) with e | hb
  · rw [e]; exact I.free
  · obtain ⟨_, o, ho, _⟩ := I.ok.funs.mem hb
    exact I.base.free b o ho (I.ok.frf b hb) fun z => I.ok.exfs b z hb

theorem Inv.step {g' : Array GenState} {t' : Nat} {d' : Drawn} {ch : List Addr} (I : Inv X pins σ H s)
    (hch : ∀ b ∈ ch, (b ∈ X.ex ∨ X.s₀.heap.objs.size ≤ b) ∧ b ≠ X.env.locals ∧ (∀ x c, X.env.cells.lookup x = some c → c ≠ b) ∧ ∀ p ∈ X.pn ++ pins, p.1 ≠ b)
    (keep : ∀ b o, b ≠ X.env.locals → b ∉ X.fs → b ∉ ch → s.heap.get? b = some o → H b = none → h'.get? b = some o)
    (slot : ∀ b o, b ≠ X.env.locals → b ∈ X.fs → b ∉ ch → s.heap.get? b = some o → H b = none → ∃ sl, h'.get? b = some { o with slots := sl }) (free : ∀ b o, b ∉ ch → s.heap.get? b = some o → H b = none → H' b = none)
    (there : ∀ b o, b ∉ ch → s.heap.get? b = some o → ∃ o', h'.get? b = some o')
    (tups : ∀ b xs, H b = some (.tup xs) → H' b = some (.tup xs)) (frzs : ∀ b o u, H b = some (.frz o u) → H' b = some (.frz o u)) (tbls : ∀ b ps, H b = some (.tbl ps) → ∃ more, H' b = some (.tbl (ps ++ more)))
    (ns : ∀ m, s.heap.Ns X.env.locals m → h'.Ns X.env.locals m) (hok : HOk X.prog X.w H' h') (hg : AllBare g') :
    Inv X pins σ H' { s with heap := h', gens := g', drawn := d', toks := t' } := by
  have neL : ∀ b o, X.s₀.heap.get? b = some o → b ≠ X.env.locals := fun b o e => Nat.ne_of_lt (Nat.lt_of_lt_of_le (Heap.lt_size e) I.ok.above)
  have neC : ∀ b o, X.s₀.heap.get? b = some o → b ∉ X.ex → b ∉ ch := fun b o e hx hb => by
    rcases (hch b hb).1 with z | z
    · exact hx z
    · exact absurd (Nat.lt_of_lt_of_le (Heap.lt_size e) z) (Nat.lt_irrefl _)
  have cellK : ∀ x c, X.env.cells.lookup x = some c → ∀ v, s.heap.IsCell c v → h'.IsCell c v := fun x c e v ⟨o, ho, hd⟩ => by
    have nch : c ∉ ch := fun z => (hch c z).2.2.1 x c e rfl
    by_cases hc : c ∈ X.fs
    · obtain ⟨sl, q⟩ := slot c o (I.cne x c e) hc nch ho (I.freeC x c e)
      exact ⟨_, q, hd⟩
    · exact ⟨o, keep c o (I.cne x c e) hc nch ho (I.freeC x c e), hd⟩
  refine ⟨I.ok, I.os, hg, ⟨fun b o e n hb hx => ?_, fun b o e n hb hx => ?_, fun b o e n hx => ?_, fun b o e hx => ?_, fun b xs e => tups b xs (I.base.tups b xs e), fun b o xs e => frzs b o xs (I.base.frzs b o xs e), fun b ps e => ?_⟩, ?_, fun x c e => ?_, ?_, fun x c e => ?_, fun p hp => ?_, hok, I.len⟩
  · exact keep b o (neL b o e) hb (neC b o e hx) (I.base.keep b o e n hb hx) (I.base.free b o e n hx)
  · obtain ⟨sl, e1⟩ := I.base.slot b o e n hb hx
    obtain ⟨sl', e2⟩ := slot b _ (neL b o e) hb (neC b o e hx) e1 (I.base.free b o e n hx)
    exact ⟨sl', e2⟩
  · obtain ⟨o', e1⟩ := I.base.there b o e hx
    exact free b o' (neC b o e hx) e1 (I.base.free b o e n hx)
  · obtain ⟨o', e1⟩ := I.base.there b o e hx
    exact there b o' (neC b o e hx) e1
  · obtain ⟨m1, e1⟩ := I.base.tbls b ps e
    obtain ⟨m2, e2⟩ := tbls b _ e1
    exact ⟨m1 ++ m2, by rw [e2, Array.append_assoc]⟩
  · obtain ⟨m, hn, hl⟩ := I.loc
    refine ⟨m, ns m hn, fun i x v e1 e2 e3 => ?_⟩
    obtain ⟨u, r, l⟩ := hl i x v e1 e2 e3
    refine ⟨u, r, ?_⟩
    rcases l with l | ⟨k, c, e, z⟩
    · exact .inl l
    · exact .inr ⟨k, c, e, cellK x c e _ z⟩
  · obtain ⟨v, z⟩ := I.cell x c e
    exact ⟨v, cellK x c e v z⟩
  · obtain ⟨m, ⟨o, _, _, ho, _⟩, _⟩ := I.loc
    exact free _ o (fun z => (hch _ z).2.1 rfl) ho I.free
  · obtain ⟨v, o, ho, hd⟩ := I.cell x c e
    exact free c o (fun z => (hch c z).2.2.1 x c e rfl) ho (I.freeC x c e)
  · obtain ⟨e, n, ne, nf, d⟩ := I.pin p hp
    have nch : p.1 ∉ ch := fun z => (hch p.1 z).2.2.2 p hp rfl
    exact ⟨keep p.1 p.2 ne nf nch e n, free p.1 p.2 nch e n, ne, nf, d⟩
theorem Inv.un {t' : Nat} (I : Inv X pins σ H s) (u : Un X.fs [] H H' s.heap h') (hok : HOk X.prog X.w H' h') : Inv X pins σ H' { s with heap := h', toks := t' } := by
  obtain ⟨m, ⟨o, es, ep, ho, r⟩, _⟩ := id I.loc
  obtain ⟨sl, hL⟩ := u.any ho I.free (by simp)
  exact I.step (g' := s.gens) (d' := s.drawn) (ch := []) (fun _ z => nomatch z) (fun b o _ hb _ e n => u.keep b o e n hb (by simp)) (fun b o _ hb _ e n => u.slot b o e n hb (by simp)) (fun b o _ e n => u.free b o e n (by simp)) (fun b o _ e => u.there b o e (by simp)) u.tups u.frzs u.tbls (fun m' hm => by
    obtain ⟨o', es', ep', ho', r'⟩ := hm
    rw [ho] at ho'; cases ho'
    exact ⟨_, es', ep', hL, r'⟩) hok I.bare
theorem Inv.call {g' : Array GenState} {t' : Nat} {d' : Drawn} {ch : List Addr} (I : Inv X pins σ H s) (u : Un (frs X.stack) ch H H' s.heap h') (hok : HOk X.prog X.w H' h') (hg : AllBare g')
    (hch : ∀ b ∈ ch, (b ∈ X.ex ∨ X.s₀.heap.objs.size ≤ b) ∧ b ≠ X.env.locals ∧ (∀ x c, X.env.cells.lookup x = some c → c ≠ b) ∧ ∀ p ∈ X.pn ++ pins, p.1 ≠ b) :
    Inv X pins σ H' { s with heap := h', gens := g', drawn := d', toks := t' } := by
  obtain ⟨m, ⟨o, es, ep, ho, r⟩, _⟩ := id I.loc
  obtain ⟨sl, hL⟩ := u.any ho I.free fun z => (hch _ z).2.1 rfl
  exact I.step (ch := ch) hch (fun b o hL hb hc e n => u.keep b o e n (fun z => (List.mem_cons.mp (I.stkSub b z)).elim hL hb) hc) (fun b o _ _ hc e n => u.any e n hc) (fun b o hc e n => u.free b o e n hc) (fun b o hc e => u.there b o e hc) u.tups u.frzs u.tbls (fun m' hm => by
    obtain ⟨o', es', ep', ho', r'⟩ := hm
    rw [ho] at ho'; cases ho'
    exact ⟨_, es', ep', hL, r'⟩) hok hg
theorem Inv.turned {t' : Nat} {it : Addr} (I : Inv X pins σ H s) (k : ∀ b o, b ≠ it → s.heap.get? b = some o → h'.get? b = some o) (hn : H it = none) (hL : it ≠ X.env.locals)
    (h1 : it ∈ X.ex ∨ X.s₀.heap.objs.size ≤ it) (h2 : ∀ x c, X.env.cells.lookup x = some c → c ≠ it) (h3 : ∀ p ∈ X.pn ++ pins, p.1 ≠ it) : Inv X pins σ H { s with heap := h', toks := t' } := by
  have nit : ∀ b u, H b = some u → b ≠ it := fun b u e z => by rw [z, hn] at e; cases e
  refine I.step (g' := s.gens) (d' := s.drawn) (ch := [it]) (fun b hb => ?_) (fun b o _ _ hc e _ => k b o (fun z => hc (by simp [z])) e) (fun b o _ _ hc e _ => ⟨o.slots, k b o (fun z => hc (by simp [z])) e⟩) (fun _ _ _ _ n => n)
    (fun b o hc e => ⟨o, k b o (fun z => hc (by simp [z])) e⟩) (fun _ _ e => e) (fun _ _ _ e => e) (fun b ps e => ⟨#[], by rw [e]; simp⟩) (fun m hm => ?_) (fun b u e => ?_) I.bare
  · have e : b = it := by simpa using hb
    subst e
    exact ⟨h1, hL, h2, h3⟩
  · obtain ⟨o, es, ep, ho, r⟩ := hm
    exact ⟨o, es, ep, k _ o (Ne.symm hL) ho, r⟩
  · refine (I.hok b u e).stay (fun c v hc q => k c v ?_ q) (fun _ q => q) fun _ _ q => q
    rcases hc with z | z
    · rw [z]; exact nit b u e
    · exact nit c _ z
theorem Inv.tok (I : Inv X pins σ H s) (t : Nat) : Inv X pins σ H { s with toks := t } := I.un (h' := s.heap) (t' := t) Un.refl I.hok
theorem Inv.kept {t' : Nat} (I : Inv X pins σ H s) (k : ∀ b u, s.heap.get? b = some u → h'.get? b = some u) : Inv X pins σ H { s with heap := h', toks := t' } := I.un (Un.kept k) (I.hok.kept k)
theorem Inv.laid {a : Addr} {o : HO} {t' : Nat} (I : Inv X pins σ H s) (k : ∀ b u, s.heap.get? b = some u → h'.get? b = some u) (hp : s.heap.objs.size ≤ a) (new : ObjOk X.prog X.w (upd H a o) h' a o) :
    Inv X pins σ (upd H a o) { s with heap := h', toks := t' } := I.un (Un.laid k hp (I.hok.fresh hp)) (I.hok.laid k hp new)
theorem Inv.write {x e : Addr} {o : HO} {t' : Nat} (I : Inv X pins σ H s) (mu : Mut (H x)) (he : e = x ∨ H e = some (.own x)) (k : ∀ b u, b ≠ e → s.heap.get? b = some u → h'.get? b = some u) (heo : ∃ u, h'.get? e = some u)
    (new : ObjOk X.prog X.w (upd H x o) h' x o) : Inv X pins σ (upd H x o) { s with heap := h', toks := t' } := I.un (Un.write mu he k heo) (I.hok.write mu he k heo new)
theorem Inv.pins_of {pins' : List (Addr × Obj)} (I : Inv X pins σ H s) (h : ∀ p ∈ pins', s.heap.get? p.1 = some p.2 ∧ H p.1 = none ∧ p.1 ≠ X.env.locals ∧ p.1 ∉ X.fs ∧ ∀ v, p.2.data ≠ .cell v) : Inv X pins' σ H s :=
  ⟨I.ok, I.os, I.bare, I.base, I.loc, I.cell, I.free, I.freeC, fun p hp => (List.mem_append.mp hp).elim (fun z => I.pin p (List.mem_append_left _ z)) (h p), I.hok, I.len⟩

theorem nodup_ix {N : List Str} (hN : N.Nodup) {i j : Nat} {x : Str} (a : N[i]? = some x) (b : N[j]? = some x) : i = j := by
  obtain ⟨h1, e1⟩ := List.getElem?_eq_some_iff.mp a
  obtain ⟨h2, e2⟩ := List.getElem?_eq_some_iff.mp b
  exact (List.getElem_inj hN).mp (e1.trans e2.symm)

theorem store_ok2 {M : Model} {A : Around} {E : Value → Shared → Prop} {i : Nat} {x : Str} {v : V} {u : Value} {Q : Unit → Shared → Prop} (I : Inv X pins σ H s) (hN : X.N.Nodup) (hi : X.N[i]? = some x) (hx : Loc X.env.scope x) (r : RelV v u)
    (h : ∀ s', Inv X pins (σ.set i (some v)) H s' → (∃ a, Heap.SameBut a s.heap s'.heap ∧ (a = X.env.locals ∨ X.env.cells.lookup x = some a)) → Q () s') (hf : X.fn x = true ∨ X.env.scope.names.lookup x = some .local := by first | exact .inl rfl | exact .inr rfl | assumption) : wpAny M A (storeName X.env x u) Q E s := by
  obtain ⟨m, hn, hl⟩ := id I.loc
  have hcls : (X.env.scope.kind == .class || (X.env.scope.kind == .module && X.env.locals != X.env.globals)) = false := by rw [I.ok.kind]; rfl
  have hiσ : i < σ.length := by rw [I.len]; exact (List.getElem?_eq_some_iff.mp hi).1
  have cne := I.cne
  have tracked : ∀ {a : Addr} {h' : Heap}, (∃ o, s.heap.get? a = some o ∧ H a = none) → Heap.SameBut a s.heap h' → HOk X.prog X.w H h' := fun {a h'} ha hs b ob e => by
    obtain ⟨_, _, hfree⟩ := ha
    refine (I.hok b ob e).stay (fun c w' hc q => (hs.2 c ?_).trans q) (fun _ q => q) fun _ _ q => q
    rintro rfl
    rcases hc with rfl | hc
    · rw [hfree] at e; cases e
    · rw [hfree] at hc; cases hc
  rcases hx with hk | hk
  · refine wpAny_storeName_local hk hn (fun h' hn' hs => ?_) hcls
    obtain ⟨oL, _, _, hoL, _⟩ := id hn
    refine h _ ⟨I.ok, I.os, I.bare, ⟨fun b o e n hb hx => ?_, fun b o e n hb hx => ?_, I.base.free, fun b o e hx => ?_, I.base.tups, I.base.frzs, I.base.tbls⟩, ⟨_, hn', fun j y v' e1 e2 e3 => ?_⟩, fun y c e => ?_, I.free, I.freeC, fun p hp => ?_, tracked ⟨oL, hoL, I.free⟩ hs, by simpa using I.len⟩ ⟨_, hs, .inl rfl⟩
    · exact (hs.2 b (Nat.ne_of_lt (Nat.lt_of_lt_of_le (Heap.lt_size e) I.ok.above))).trans (I.base.keep b o e n hb hx)
    · obtain ⟨sl, e1⟩ := I.base.slot b o e n hb hx
      exact ⟨sl, (hs.2 b (Nat.ne_of_lt (Nat.lt_of_lt_of_le (Heap.lt_size e) I.ok.above))).trans e1⟩
    · obtain ⟨o', e1⟩ := I.base.there b o e hx
      exact ⟨o', (hs.2 b (Nat.ne_of_lt (Nat.lt_of_lt_of_le (Heap.lt_size e) I.ok.above))).trans e1⟩
    · by_cases hj : j = i
      · subst hj
        rw [hi] at e1; cases e1
        rw [List.getElem?_set_self hiσ] at e2
        cases e2
        exact ⟨u, r, .inl ⟨hk, by simp⟩⟩
      · rw [List.getElem?_set_ne (Ne.symm hj)] at e2
        obtain ⟨u', r', q⟩ := hl j y v' e1 e2 e3
        refine ⟨u', r', ?_⟩
        rcases q with ⟨k, e⟩ | ⟨k, c, e, z⟩
        · refine .inl ⟨k, ?_⟩
          have : y ≠ x := fun e => hj (nodup_ix hN e1 (e ▸ hi))
          simp [this, e]
        · exact .inr ⟨k, c, e, z.sameBut hs (cne y c e)⟩
    · obtain ⟨w', z⟩ := I.cell y c e
      exact ⟨w', z.sameBut hs (cne y c e)⟩
    · obtain ⟨e, n, ne, nf, d⟩ := I.pin p hp
      exact ⟨(hs.2 p.1 ne).trans e, n, ne, nf, d⟩
  · have hfn : X.fn x = true := by
      rcases hf with z | z
      · exact z
      · rw [z] at hk; cases hk
    obtain ⟨c, hc⟩ := I.ok.has x (.inl hk)
    obtain ⟨w', z⟩ := I.cell x c hc
    refine wpAny_storeName_cell I.ok.kind hk hc z (fun h' hc' hs => ?_)
    obtain ⟨oc, hoc, hocd⟩ := id z
    refine h { s with heap := h' } ⟨I.ok, I.os, I.bare, ⟨fun b o e n hb hx => ?_, fun b o e n hb hx => ?_, I.base.free, fun b o e hx => ?_, I.base.tups, I.base.frzs, I.base.tbls⟩, ⟨m, hn.sameBut hs (Ne.symm (cne x c hc)), fun j y v' e1 e2 e3 => ?_⟩, fun y c' e => ?_, I.free, I.freeC, fun p hp => ?_, tracked ⟨oc, hoc, I.freeC x c hc⟩ hs, by simpa using I.len⟩ ⟨c, hs, .inr hc⟩
    · exact (hs.2 b (Nat.ne_of_lt (Nat.lt_of_lt_of_le (Heap.lt_size e) (I.ok.cab x c hfn hc)))).trans (I.base.keep b o e n hb hx)
    · obtain ⟨sl, e1⟩ := I.base.slot b o e n hb hx
      exact ⟨sl, (hs.2 b (Nat.ne_of_lt (Nat.lt_of_lt_of_le (Heap.lt_size e) (I.ok.cab x c hfn hc)))).trans e1⟩
    · obtain ⟨o', e1⟩ := I.base.there b o e hx
      exact ⟨o', (hs.2 b (Nat.ne_of_lt (Nat.lt_of_lt_of_le (Heap.lt_size e) (I.ok.cab x c hfn hc)))).trans e1⟩
    · by_cases hj : j = i
      · subst hj
        rw [hi] at e1; cases e1
        rw [List.getElem?_set_self hiσ] at e2
        cases e2
        exact ⟨u, r, .inr ⟨.inl hk, c, hc, hc'⟩⟩
      · rw [List.getElem?_set_ne (Ne.symm hj)] at e2
        obtain ⟨u', r', q⟩ := hl j y v' e1 e2 e3
        refine ⟨u', r', ?_⟩
        rcases q with q | ⟨k, c', e, z'⟩
        · exact .inl q
        · refine .inr ⟨k, c', e, z'.sameBut hs ?_⟩
          rintro rfl
          exact hj (nodup_ix hN e1 (I.ok.inj _ _ _ e hc ▸ hi))
    · by_cases hcc : c' = c
      · subst hcc; exact ⟨_, hc'⟩
      · obtain ⟨w2, z2⟩ := I.cell y c' e
        exact ⟨w2, z2.sameBut hs hcc⟩
    · obtain ⟨e, n, ne, nf, d⟩ := I.pin p hp
      refine ⟨(hs.2 p.1 ?_).trans e, n, ne, nf, d⟩
      intro q
      rw [q, hoc] at e
      have q' : oc = p.2 := Option.some.inj e
      exact d w' (by rw [← q']; exact hocd)
theorem store_ok {M : Model} {A : Around} {E : Value → Shared → Prop} {i : Nat} {x : Str} {v : V} {u : Value} {Q : Unit → Shared → Prop} (I : Inv X pins σ H s) (hN : X.N.Nodup) (hi : X.N[i]? = some x) (hx : Loc X.env.scope x) (r : RelV v u)
    (h : ∀ s', Inv X pins (σ.set i (some v)) H s' → Q () s') (hf : X.fn x = true ∨ X.env.scope.names.lookup x = some .local := by first | exact .inl rfl | exact .inr rfl | assumption) : wpAny M A (storeName X.env x u) Q E s :=
  store_ok2 I hN hi hx r (fun s' I' _ => h s' I') hf
theorem Inv.call' {s' : Shared} {ch : List Addr} (I : Inv X pins σ H s) (ho : s'.os = s.os) (u : Un (frs X.stack) ch H H' s.heap s'.heap) (hok : HOk X.prog X.w H' s'.heap) (hg : AllBare s'.gens)
    (hch : ∀ b ∈ ch, (b ∈ X.ex ∨ X.s₀.heap.objs.size ≤ b) ∧ b ≠ X.env.locals ∧ (∀ x c, X.env.cells.lookup x = some c → c ≠ b) ∧ ∀ p ∈ X.pn ++ pins, p.1 ≠ b) : Inv X pins σ H' s' := by
  obtain ⟨h', g', d', t', o'⟩ := s'
  have e : o' = s.os := ho
  subst e
  exact I.call (g' := g') (t' := t') (d' := d') u hok hg hch
end

abbrev XK := Value → Option Addr → Hp → Prop
abbrev St := List (Option V)
abbrev VK := V → Hp → Prop
abbrev TE := St → Hp → VK → Prop
abbrev TT := St → Hp → (Bool → Hp → Prop) → Prop
abbrev TA := St → Hp → (List V → Hp → Prop) → Prop
structure Ends where
  nx : St → Hp → Prop
  rt : VK
  bk : St → Hp → Prop := fun _ _ => False
  ct : St → Hp → Prop := fun _ _ => False
abbrev TS := Ends → St → Hp → Prop

def EP (X : Cx) (pins : List (Addr × Obj)) (σ : St) (Q : VK) (u : Value) (s' : Shared) : Prop := ∃ v H', Inv X pins σ H' s' ∧ RelV v u ∧ Q v H'
def TP (X : Cx) (pins : List (Addr × Obj)) (σ : St) (Q : Bool → Hp → Prop) (b : Bool) (s' : Shared) : Prop := ∃ H', Inv X pins σ H' s' ∧ Q b H'
def AP (X : Cx) (pins : List (Addr × Obj)) (σ : St) (Q : List V → Hp → Prop) (us : List Value) (s' : Shared) : Prop := ∃ vs H', Inv X pins σ H' s' ∧ Vals vs us ∧ Q vs H'
def SP (X : Cx) (pins : List (Addr × Obj)) (D : Ends) (f : Flow) (s' : Shared) : Prop :=
  match f with
  | .next => ∃ σ' H', Inv X pins σ' H' s' ∧ D.nx σ' H'
  | .brk => ∃ σ' H', Inv X pins σ' H' s' ∧ D.bk σ' H'
  | .cont => ∃ σ' H', Inv X pins σ' H' s' ∧ D.ct σ' H'
  | .ret u => ∃ v σ' H', Inv X pins σ' H' s' ∧ RelV v u ∧ D.rt v H'

def PE (X : Cx) (e : Expr) (t : TE) : Prop :=
  ∀ (pins : List (Addr × Obj)) (s : Shared) (σ : St) (H : Hp) (Q : VK), Inv X pins σ H s → t σ H Q → wpAny (model X.prog X.w) X.A (eval e X.env) (EP X pins σ Q) X.xe s
def PT (X : Cx) (e : Expr) (t : TT) : Prop :=
  ∀ (pins : List (Addr × Obj)) (s : Shared) (σ : St) (H : Hp) (Q : Bool → Hp → Prop), Inv X pins σ H s → t σ H Q → wpAny (model X.prog X.w) X.A (isTrue e X.env (eval e X.env)) (TP X pins σ Q) X.xe s
def PW (X : Cx) (e : Expr) (t : TT) : Prop :=
  ∀ (whole : Sem Value) (pins : List (Addr × Obj)) (s : Shared) (σ : St) (H : Hp) (Q : Bool → Hp → Prop), Inv X pins σ H s → t σ H Q → wpAny (model X.prog X.w) X.A (isTrue e X.env whole) (TP X pins σ Q) X.xe s
theorem PW.pt {X : Cx} {e : Expr} {t : TT} (h : PW X e t) : PT X e t := h _
def PA (X : Cx) (es : List Expr) (t : TA) : Prop :=
  ∀ (pos : Pos) (pins : List (Addr × Obj)) (s : Shared) (σ : St) (H : Hp) (Q : List V → Hp → Prop), Inv X pins σ H s → t σ H Q → wpAny (model X.prog X.w) X.A (spliced (backTo pos (starEach es X.env))) (AP X pins σ Q) X.xe s
def PS (X : Cx) (st : Stmt) (t : TS) : Prop :=
  ∀ (pins : List (Addr × Obj)) (s : Shared) (σ : St) (H : Hp) (D : Ends), Inv X pins σ H s → t D σ H → wpAny (model X.prog X.w) X.A (exec st X.env) (SP X pins D) X.xe s
def PSs (X : Cx) (st : List Stmt) (t : TS) : Prop :=
  ∀ (pins : List (Addr × Obj)) (s : Shared) (σ : St) (H : Hp) (D : Ends), Inv X pins σ H s → t D σ H → wpAny (model X.prog X.w) X.A (execs st X.env) (SP X pins D) X.xe s
theorem thn {α : Type} {t : Sem α} {Q Q' : α → Shared → Prop} {M : Model} {A : Around} {E : Value → Shared → Prop} {s : Shared} (h : wpAny M A t Q E s) (hQ : ∀ a s, Q a s → Q' a s) : wpAny M A t Q' E s := wpAny_mono h hQ fun _ _ x => x
end L2

namespace L2
open PySem PySem.Spec PyProof.Rows
section
variable {X : Cx}

def tVar (i : Nat) : TE := fun σ H Q => ∃ v, σ[i]? = some (some v) ∧ Q v H
def tC (v : V) : TE := fun _ H Q => Q v H
theorem pe_var {i : Nat} {x : Str} {pos : Pos} (hN : X.N[i]? = some x) (hv : Vis X.env.scope x) (hd : (x == ("__debug__" : Str)) = false := by decide) (hcd : (x == ("__classdict__" : Str)) = false := by decide) : PE X (.Name x pos) (tVar i) := by
  intro pins s σ H Q I h
  obtain ⟨v, e, h⟩ := h
  obtain ⟨m, hn, hl⟩ := I.loc
  obtain ⟨u, r, l⟩ := hl i x v hN e hv
  have fin : EP X pins σ Q u s := ⟨v, H, I, r, h⟩
  rcases l with ⟨hk, hm⟩ | ⟨hk, c, hc, hcell⟩
  · exact wpAny_Name (wpAny_loadName_local I.ok.kind hk hn hm fin) hd
  · rcases hk with hk | hk
    · exact wpAny_Name (wpAny_loadName_cell I.ok.kind hk hc hcell fin) hd
    · exact wpAny_Name (wpAny_loadName_free I.ok.kind hk hc hcell fin hcd) hd
theorem pe_int {i j pos} : PE X (.Constant (.int i) j pos) (tC (.int i)) := fun _ _ _ H _ I h => wpAny_Constant_int ⟨.int i, H, I.tok _, ⟨_, rfl⟩, h⟩
theorem pe_bl {b j pos} : PE X (.Constant (.bool b) j pos) (tC (.bl b)) := fun _ _ _ H _ I h => Constant_bool ⟨.bl b, H, I, rfl, h⟩
theorem pe_non {j pos} : PE X (.Constant .none j pos) (tC .non) := fun _ _ _ H _ I h => Constant_none ⟨.non, H, I, rfl, h⟩
theorem pe_str {x j pos} : PE X (.Constant (.str x) j pos) (tC (.str x)) := fun _ _ _ H _ I h => Calls.Constant_str ⟨.str x, H, I.tok _, ⟨_, rfl⟩, h⟩

def Gl (X : Cx) (x : Str) : Prop := X.env.kindOf x = some .globalImplicit
theorem ld_glob {E : Value → Shared → Prop} {pins : List (Addr × Obj)} {s : Shared} {σ : St} {H : Hp} {x : Str} {u : Value} {pos : Pos} {Q : Value → Shared → Prop} (I : Inv X pins σ H s) (hg : Gl X x) (hm : X.mg x = some u) (h : Q u s)
    (hd : (x == ("__debug__" : Str)) = false := by decide) : wpAny (model X.prog X.w) X.A (eval (.Name x pos) X.env) Q E s :=
  Calls.Name_function_global I.ok.kind hg (Calls.loadGlobal_global (by rw [I.ok.glob]; exact I.mod.glob.keeps I.bk) hm h) hd
theorem ld_blt {E : Value → Shared → Prop} {pins : List (Addr × Obj)} {s : Shared} {σ : St} {H : Hp} {x : Str} {u : Value} {pos : Pos} {Q : Value → Shared → Prop} (I : Inv X pins σ H s) (hg : Gl X x) (hm : X.mg x = none) (hv : bootBuiltins x = some u) (h : Q u s)
    (hn : x ≠ "__name__" := by decide) (hd : (x == ("__debug__" : Str)) = false := by decide) : wpAny (model X.prog X.w) X.A (eval (.Name x pos) X.env) Q E s := by
  obtain ⟨mb, h1, h2⟩ := I.mod.blt
  exact Calls.Name_function_global I.ok.kind hg (Calls.loadGlobal_builtin (by rw [I.ok.glob]; exact I.mod.glob.keeps I.bk) hm (by rw [I.ok.blt]; exact h1.keeps I.bk) ((h2 x hn).trans hv) h) hd
theorem pe_glob {x : Str} {v : V} {u : Value} {pos : Pos} (hg : Gl X x) (hm : X.mg x = some u) (r : RelV v u) (hd : (x == ("__debug__" : Str)) = false := by decide) : PE X (.Name x pos) (tC v) :=
  fun _ _ _ H _ I h => ld_glob I hg hm ⟨v, H, I, r, h⟩ hd
theorem pe_bltn {x : Str} {v : V} {u : Value} {pos : Pos} (hg : Gl X x) (hm : X.mg x = none) (hv : bootBuiltins x = some u) (r : RelV v u) (hn : x ≠ "__name__" := by decide) (hd : (x == ("__debug__" : Str)) = false := by decide) : PE X (.Name x pos) (tC v) :=
  fun _ _ _ H _ I h => ld_blt I hg hm hv ⟨v, H, I, r, h⟩ hn hd

def t2I (ta tb : TE) (k : Int → Int → Hp → Prop) : St → Hp → Prop := fun σ H => ta σ H fun x H1 => tb σ H1 fun y H2 => ∃ i j, x = .int i ∧ y = .int j ∧ k i j H2
def tAdd (ta tb : TE) : TE := fun σ H Q => t2I ta tb (fun i j H2 => Q (.int (i + j)) H2) σ H
def tSub (ta tb : TE) : TE := fun σ H Q => t2I ta tb (fun i j H2 => Q (.int (i - j)) H2) σ H
def tMul (ta tb : TE) : TE := fun σ H Q => t2I ta tb (fun i j H2 => (-(2 ^ 64) < i ∧ i < 2 ^ 64) ∧ Q (.int (i * j)) H2) σ H
variable {a b : Expr} {ta tb : TE} {pos : Pos}
def PC (X : Cx) (op : CmpOp) (a b : Expr) (t : TE) : Prop :=
  ∀ (pins : List (Addr × Obj)) (s : Shared) (σ : St) (H : Hp) (Q : VK), Inv X pins σ H s → t σ H Q →
    wpAny (model X.prog X.w) X.A (eval a X.env) (fun v s₁ => wpAny (model X.prog X.w) X.A (eval b X.env) (fun u s₂ => wpAny (model X.prog X.w) X.A (compareOp op v u) (EP X pins σ Q) X.xe s₂) X.xe s₁) X.xe s
def tCmp (p : Int → Int → Bool) (ta tb : TE) : TE := fun σ H Q => t2I ta tb (fun i j H2 => Q (.bl (p i j)) H2) σ H
abbrev tLt : TE → TE → TE := tCmp fun i j => decide (i < j)
abbrev tLe : TE → TE → TE := tCmp fun i j => decide (i ≤ j)
abbrev tGt : TE → TE → TE := tCmp fun i j => decide (j < i)
abbrev tGe : TE → TE → TE := tCmp fun i j => decide (j ≤ i)
abbrev tEqI : TE → TE → TE := tCmp fun i j => decide (i = j)
abbrev tNeI : TE → TE → TE := tCmp fun i j => !decide (i = j)
def tIsN (ta : TE) : TE := fun σ H Q => ta σ H fun x H1 => Q (.bl (decide (x = .non))) H1
def tNotN (ta : TE) : TE := fun σ H Q => ta σ H fun x H1 => Q (.bl (!decide (x = .non))) H1
def tB (t : TE) : TT := fun σ H Q => t σ H fun x H1 => ∃ c, x = .bl c ∧ Q c H1
theorem pt_val {e : Expr} {t : TE} (h : PE X e t) (he : ∀ whole, isTrue e X.env whole = (do let v ← whole; standAt e.pos; holding [v] (truthy v)) := by intro _; rfl) : PT X e (tB t) := by
  intro pins s σ H Q I hw
  refine isTrue_plain (thn (h pins s σ H _ I hw) fun v s1 ⟨x, H1, I1, r1, q1⟩ => ?_) (he _)
  obtain ⟨d, rfl, q⟩ := q1
  cases r1
  exact wpAny_truthy_bool ⟨H1, I1, q⟩

variable {tA tB' : TT} {rest : List Expr}
def tAnd (t u : TT) : TT := fun σ H Q => t σ H fun c H1 => if c = true then u σ H1 Q else Q false H1
def tOr (t u : TT) : TT := fun σ H Q => t σ H fun c H1 => if c = true then Q true H1 else u σ H1 Q
def tNot (t : TT) : TT := fun σ H Q => t σ H fun c H1 => Q (!c) H1
theorem pw_and1 (ha : PT X a tA) : PW X (.BoolOp .And [a] pos) tA := by
  intro wh pins s σ H Q I h
  refine isTrue_and (thn (ha pins s σ H Q I h) fun c s1 e => ?_)
  cases c with
  | true => exact isTrue_and_nil e
  | false => exact e
theorem pw_or1 (ha : PT X a tA) : PW X (.BoolOp .Or [a] pos) tA := by
  intro wh pins s σ H Q I h
  refine isTrue_or (thn (ha pins s σ H Q I h) fun c s1 e => ?_)
  cases c with
  | false => exact isTrue_or_nil e
  | true => exact e
theorem pw_and (ha : PT X a tA) (hb : PW X (.BoolOp .And (b :: rest) pos) tB') : PW X (.BoolOp .And (a :: b :: rest) pos) (tAnd tA tB') := by
  intro wh pins s σ H Q I h
  refine isTrue_and (thn (ha pins s σ H _ I h) fun c s1 ⟨H1, I1, q1⟩ => ?_)
  cases c with
  | true => exact hb wh pins s1 σ H1 Q I1 q1
  | false => exact ⟨H1, I1, q1⟩
theorem pw_or (ha : PT X a tA) (hb : PW X (.BoolOp .Or (b :: rest) pos) tB') : PW X (.BoolOp .Or (a :: b :: rest) pos) (tOr tA tB') := by
  intro wh pins s σ H Q I h
  refine isTrue_or (thn (ha pins s σ H _ I h) fun c s1 ⟨H1, I1, q1⟩ => ?_)
  cases c with
  | true => exact ⟨H1, I1, q1⟩
  | false => exact hb wh pins s1 σ H1 Q I1 q1
theorem pt_not (ha : PT X a tA) : PT X (.UnaryOp .Not a pos) (tNot tA) := by
  intro pins s σ H Q I h
  exact isTrue_not (ha pins s σ H (fun c H1 => Q (!c) H1) I h)
def tAndV (ta tb : TE) : TE := fun σ H Q => ta σ H fun x H1 => ∃ c, x = .bl c ∧ if c = true then tb σ H1 Q else Q (.bl false) H1
def tOrV (ta tb : TE) : TE := fun σ H Q => ta σ H fun x H1 => ∃ c, x = .bl c ∧ if c = true then Q (.bl true) H1 else tb σ H1 Q
def tNotV (ta : TE) : TE := fun σ H Q => ta σ H fun x H1 => ∃ c, x = .bl c ∧ Q (.bl (!c)) H1
theorem pe_one {op} {t : TE} (h : PE X a t) : PE X (.BoolOp op [a] pos) t := fun pins s σ H Q I hw => BoolOp_one (h pins s σ H Q I hw)
theorem pe_and (ha : PE X a ta) (hb : PE X (.BoolOp .And (b :: rest) pos) tb) : PE X (.BoolOp .And (a :: b :: rest) pos) (tAndV ta tb) := by
  intro pins s σ H Q I h
  refine BoolOp_and (thn (ha pins s σ H _ I h) fun v s1 ⟨x, H1, I1, r1, q1⟩ => ?_)
  obtain ⟨c, rfl, q1⟩ := q1
  cases r1
  refine wpAny_truthy_bool ?_
  cases c with
  | true => exact hb pins s1 σ H1 Q I1 q1
  | false => exact ⟨.bl false, H1, I1, rfl, q1⟩
theorem pe_or (ha : PE X a ta) (hb : PE X (.BoolOp .Or (b :: rest) pos) tb) : PE X (.BoolOp .Or (a :: b :: rest) pos) (tOrV ta tb) := by
  intro pins s σ H Q I h
  refine BoolOp_or (thn (ha pins s σ H _ I h) fun v s1 ⟨x, H1, I1, r1, q1⟩ => ?_)
  obtain ⟨c, rfl, q1⟩ := q1
  cases r1
  refine wpAny_truthy_bool ?_
  cases c with
  | false => exact hb pins s1 σ H1 Q I1 q1
  | true => exact ⟨.bl true, H1, I1, rfl, q1⟩
def tIf (t : TT) (ta tb : TE) : TE := fun σ H Q => t σ H fun c H1 => if c = true then ta σ H1 Q else tb σ H1 Q
theorem pe_ifExp {c : Expr} (hc : PT X c tA) (ha : PE X a ta) (hb : PE X b tb) : PE X (.IfExp c a b pos) (tIf tA ta tb) := by
  intro pins s σ H Q I h
  refine wpAny_IfExp (thn (hc pins s σ H _ I h) fun d s1 ⟨H1, I1, q1⟩ => ?_)
  cases d with
  | true => exact ha pins s1 σ H1 Q I1 q1
  | false => exact hb pins s1 σ H1 Q I1 q1
end
end L2

namespace L2
open PySem PySem.Spec PyProof.Rows

def SqL (K : PySem.W.Frag) (H : Hp) (a : Addr) (xs : List V) : Prop :=
  Rd H a (.lst xs) ∨
    ∃ (o : Obj) (its : Array Value) (n : Nat), K.lookup a = some o ∧ o.cls = .type "list" ∧ o.dict = none ∧ o.data = .seq its n ∧ its.size ≤ sizeLine ∧ Vals xs its.toList
def SqT (K : PySem.W.Frag) (H : Hp) (a : Addr) (xs : List V) : Prop :=
  Rd H a (.tup xs) ∨
    ∃ (o : Obj) (its : Array Value) (n : Nat), K.lookup a = some o ∧ o.cls = .type "tuple" ∧ o.data = .seq its n ∧ its.size ≤ sizeLine ∧ Vals xs its.toList
def absV : Value → Option V
  | .none => some .non
  | .bool b => some (.bl b)
  | .int i _ => some (.int i)
  | .str x _ => some (.str x)
  | .bytes b _ => some (.byt b)
  | .float b _ => some (.flt b)
  | .ref a => some (.ref a)
  | .type n => some (.ty n)
  | _ => none
theorem RelV.abs {x : V} {u : Value} (r : RelV x u) : absV u = some x := by
  cases x with
  | non => cases r; rfl
  | bl _ => cases r; rfl
  | int _ => obtain ⟨t, rfl⟩ := r; rfl
  | str _ => obtain ⟨t, rfl⟩ := r; rfl
  | byt _ => obtain ⟨t, rfl⟩ := r; rfl
  | flt _ => obtain ⟨t, rfl⟩ := r; rfl
  | ref _ => cases r; rfl
  | ty _ => cases r; rfl
theorem RelV.inj {x y : V} {u : Value} (r : RelV x u) (q : RelV y u) : x = y := Option.some.inj (r.abs.symm.trans q.abs)
theorem Vals.inj : ∀ {xs ys : List V} {us : List Value}, Vals xs us → Vals ys us → xs = ys
  | _, _, _, .nil, .nil => rfl
  | _, _, _, .cons r t, .cons r' t' => by rw [r.inj r', Vals.inj t t']
section
variable {X : Cx} {pins : List (Addr × Obj)} {σ : St} {H : Hp} {s : Shared} {a : Addr} {xs ys : List V}
theorem SqL.of {K : PySem.W.Frag} (h : H a = some (.lst xs)) : SqL K H a xs := .inl (.inl h)
theorem SqT.of {K : PySem.W.Frag} (h : H a = some (.tup xs)) : SqT K H a xs := .inl (.inl h)
theorem Inv.list (I : Inv X pins σ H s) (h : SqL X.K H a xs) : ∃ its : List Value, Vals xs its ∧ PlainL s.heap a its.toArray ∧ xs.length ≤ sizeLine := by
  rcases h with h | ⟨o, its, n, hk, hc, hd, hs, hz, r⟩
  · obtain ⟨z, its, n, r, e⟩ := h.ok I.hok
    exact ⟨its, r, ⟨_, n, e, rfl, rfl, rfl⟩, z⟩
  · refine ⟨its.toList, r, ⟨o, n, I.kIn a o hk, hc, hd, by simpa using hs⟩, ?_⟩
    have e := r.length
    simp only [Array.length_toList] at e
    omega
theorem Inv.tuple (I : Inv X pins σ H s) (h : SqT X.K H a xs) : ∃ its : List Value, Vals xs its ∧ IsTup s.heap a its.toArray ∧ xs.length ≤ sizeLine := by
  rcases h with h | ⟨o, its, n, hk, hc, hs, hz, r⟩
  · obtain ⟨z, its, r, p⟩ := h.ok I.hok
    exact ⟨its, r, p, z⟩
  · refine ⟨its.toList, r, ⟨o, I.kIn a o hk, hc, n, by simpa using hs⟩, ?_⟩
    have e := r.length
    simp only [Array.length_toList] at e
    omega
theorem Inv.list_inj (I : Inv X pins σ H s) (h : SqL X.K H a xs) (h' : SqL X.K H a ys) : xs = ys := by
  obtain ⟨its, r, ⟨o, n, e, _, _, d⟩, _⟩ := I.list h
  obtain ⟨its', r', ⟨o', n', e', _, _, d'⟩, _⟩ := I.list h'
  rw [e] at e'; cases e'
  rw [d] at d'
  injection d' with d1 _
  have : its = its' := by simpa using congrArg Array.toList d1
  subst this
  exact r.inj r'
theorem Inv.tuple_inj (I : Inv X pins σ H s) (h : SqT X.K H a xs) (h' : SqT X.K H a ys) : xs = ys := by
  obtain ⟨its, r, ⟨o, e, _, n, d⟩, _⟩ := I.tuple h
  obtain ⟨its', r', ⟨o', e', _, n', d'⟩, _⟩ := I.tuple h'
  rw [e] at e'; cases e'
  rw [d] at d'
  injection d' with d1 _
  have : its = its' := by simpa using congrArg Array.toList d1
  subst this
  exact r.inj r'
end

abbrev Cx.wish (X : Cx) (E : Value → Shared → Prop) : Cx := { X with xe := E }
abbrev Cx.nox (X : Cx) : Cx := X.wish fun _ _ => False
theorem Cx.Ok.wish {X : Cx} (ok : X.Ok) (E : Value → Shared → Prop) : (X.wish E).Ok :=
  ⟨ok.mod, ok.kind, ok.glob, ok.blt, ok.above, ok.inj, ok.has, ok.cab, ok.hd, ok.frames, ok.stk, ok.exf, ok.bs, ok.bsz, ok.noex, ok.exfs, ok.funs, ok.frf⟩
theorem Cx.Ok.unwish {X : Cx} {E : Value → Shared → Prop} (ok : (X.wish E).Ok) : X.Ok :=
  ⟨ok.mod, ok.kind, ok.glob, ok.blt, ok.above, ok.inj, ok.has, ok.cab, ok.hd, ok.frames, ok.stk, ok.exf, ok.bs, ok.bsz, ok.noex, ok.exfs, ok.funs, ok.frf⟩
section
variable {X : Cx} {pins : List (Addr × Obj)} {σ : St} {H : Hp} {s : Shared} {E : Value → Shared → Prop}
theorem Inv.wish (I : Inv X pins σ H s) (E : Value → Shared → Prop) : Inv (X.wish E) pins σ H s := ⟨I.ok.wish E, I.os, I.bare, I.base, I.loc, I.cell, I.free, I.freeC, I.pin, I.hok, I.len⟩
theorem Inv.unwish (I : Inv (X.wish E) pins σ H s) : Inv X pins σ H s := ⟨I.ok.unwish, I.os, I.bare, I.base, I.loc, I.cell, I.free, I.freeC, I.pin, I.hok, I.len⟩
theorem SP.unwish {D : Ends} {f : Flow} {s' : Shared} (h : SP (X.wish E) pins D f s') : SP X pins D f s' := by
  cases f with
  | next => obtain ⟨σ', H', I, q⟩ := h; exact ⟨σ', H', I.unwish, q⟩
  | brk => obtain ⟨σ', H', I, q⟩ := h; exact ⟨σ', H', I.unwish, q⟩
  | cont => obtain ⟨σ', H', I, q⟩ := h; exact ⟨σ', H', I.unwish, q⟩
  | ret u => obtain ⟨v, σ', H', I, r, q⟩ := h; exact ⟨v, σ', H', I.unwish, r, q⟩
theorem PSs.nox {st : List Stmt} {t : TS} (h : PSs X.nox st t) : PSs X st t := fun pins s σ H D I hw =>
  wpAny_mono (h pins s σ H D (I.wish _) hw) (fun _ _ q => q.unwish) fun _ _ z => False.elim z
end

section
variable {X : Cx} {st : Stmt} {rest : List Stmt} {t u : TS} {e : Expr} {te : TE} {pos : Pos}
def tNext : TS := fun D σ H => D.nx σ H
def tSeq (t u : TS) : TS := fun D σ H => t { D with nx := u D } σ H
theorem pss_nil : PSs X [] tNext := fun _ _ σ H _ I h => wpAny_execs_nil ⟨σ, H, I, h⟩
theorem pss_cons (h1 : PS X st t) (h2 : PSs X rest u) : PSs X (st :: rest) (tSeq t u) := by
  intro pins s σ H D I h
  refine wpAny_execs_cons (thn (h1 pins s σ H { D with nx := u D } I h) fun f s1 q => ?_)
  cases f with
  | next =>
    obtain ⟨σ', H', I', q⟩ := q
    exact h2 pins s1 σ' H' D I' q
  | ret v => exact q
  | brk => exact q
  | cont => exact q
theorem pss_one (h1 : PS X st t) : PSs X [st] t := by
  intro pins s σ H D I h
  refine wpAny_execs_cons (thn (h1 pins s σ H D I h) fun f s1 q => ?_)
  cases f with
  | next => exact wpAny_execs_nil q
  | ret v => exact q
  | brk => exact q
  | cont => exact q
def tBreak : TS := fun D σ H => D.bk σ H
def tCont : TS := fun D σ H => D.ct σ H
theorem Inv.quiet {pins : List (Addr × Obj)} {σ : St} {H : Hp} {s : Shared} (I : Inv X pins σ H s) : interactive X.env = false := by simp [interactive, I.ok.kind]
def tDrop (te : TE) : TS := fun D σ H => te σ H fun _ H1 => D.nx σ H1
theorem ps_expr (he : PE X e te) (hs : swapsWith e none pos.line X.env = pure false := by rfl) : PS X (.Expr e pos) (tDrop te) := by
  intro pins s σ H D I h
  exact wpAny_Expr_any (thn (he pins s σ H _ I h) fun v s1 ⟨x, H1, I1, r1, q1⟩ => ⟨σ, H1, I1, q1⟩) I.quiet hs
def tRet (te : TE) : TS := fun D σ H => te σ H D.rt
theorem ps_ret (he : PE X e te) : PS X (.Return (some e) pos) (tRet te) := by
  intro pins s σ H D I h
  exact wpAny_Return_some (thn (he pins s σ H _ I h) fun v s1 ⟨x, H1, I1, r1, q1⟩ => ⟨x, σ, H1, I1, r1, q1⟩)
def tRetN : TS := fun D _ H => D.rt .non H
def tIfS (c : TT) (t u : TS) : TS := fun D σ H => c σ H fun b H1 => if b = true then t D σ H1 else u D σ H1
theorem ps_if {c : Expr} {a b : List Stmt} {tc : TT} (hc : PT X c tc) (ha : PSs X a t) (hb : PSs X b u) : PS X (.If c a b pos) (tIfS tc t u) := by
  intro pins s σ H D I h
  refine wpAny_If (thn (hc pins s σ H _ I h) fun d s1 ⟨H1, I1, q1⟩ => ?_)
  cases d with
  | true => exact ha pins s1 σ H1 D I1 q1
  | false => exact hb pins s1 σ H1 D I1 q1
def tNever : TS := fun _ _ _ => False
theorem pss_never {sts : List Stmt} : PSs X sts tNever := fun _ _ _ _ _ _ h => h.elim
end

abbrev TG := V → St → Hp → (St → Hp → Prop) → Prop
abbrev TGs := List V → St → Hp → (St → Hp → Prop) → Prop
def PG (X : Cx) (target : Expr) (t : TG) : Prop :=
  ∀ (pins : List (Addr × Obj)) (s : Shared) (σ : St) (H : Hp) (v : V) (u : Value) (Q : St → Hp → Prop), Inv X pins σ H s → RelV v u → t v σ H Q →
    wpAny (model X.prog X.w) X.A (assign target X.env u) (fun _ s' => ∃ σ' H', Inv X pins σ' H' s' ∧ Q σ' H') X.xe s
def PGs (X : Cx) (ts : List Expr) (t : TGs) : Prop :=
  ∀ (pins : List (Addr × Obj)) (s : Shared) (σ : St) (H : Hp) (vs : List V) (us : List Value) (Q : St → Hp → Prop), Inv X pins σ H s → Vals vs us → t vs σ H Q →
    wpAny (model X.prog X.w) X.A (assignInOrder ((assignEach ts X.env).map (·.2)) us) (fun _ s' => ∃ σ' H', Inv X pins σ' H' s' ∧ Q σ' H') X.xe s
abbrev TSet := V → V → V → Hp → (Hp → Prop) → Prop
def PSet (X : Cx) (t : TSet) : Prop :=
  ∀ (pins : List (Addr × Obj)) (s : Shared) (σ : St) (H : Hp) (o i v : V) (ov iv u : Value) (Q : Hp → Prop), Inv X pins σ H s → RelV o ov → RelV i iv → RelV v u → t o i v H Q →
    wpAny (model X.prog X.w) X.A (setItem ov iv u) (fun _ s' => ∃ H', Inv X pins σ H' s' ∧ Q H') X.xe s
abbrev TIp := V → V → Hp → VK → Prop
def PIp (X : Cx) (op : Operator) (t : TIp) : Prop :=
  ∀ (pins : List (Addr × Obj)) (s : Shared) (σ : St) (H : Hp) (x y : V) (v u : Value) (Q : VK), Inv X pins σ H s → RelV x v → RelV y u → t x y H Q →
    wpAny (model X.prog X.w) X.A (inplaceOp op v u) (EP X pins σ Q) X.xe s
section
variable {X : Cx} {pos : Pos}
def gName (i : Nat) : TG := fun v σ H Q => Q (σ.set i (some v)) H
theorem pg_name {i : Nat} {x : Str} (hN : X.N.Nodup) (hi : X.N[i]? = some x) (hx : Loc X.env.scope x) (hf : X.fn x = true ∨ X.env.scope.names.lookup x = some .local := by first | exact .inl rfl | exact .inr rfl | assumption) : PG X (.Name x pos) (gName i) := by
  intro pins s σ H v u Q I r h
  exact wpAny_assign_Name (store_ok I hN hi hx r (fun s' I' => ⟨_, H, I', h⟩) hf)
def gNil : TGs := fun vs σ H Q => vs = [] ∧ Q σ H
def gCons (t : TG) (u : TGs) : TGs := fun vs σ H Q => ∃ v r, vs = v :: r ∧ t v σ H fun σ' H' => u r σ' H' Q
theorem pgs_nil : PGs X [] gNil := by
  intro pins s σ H vs us Q I r h
  obtain ⟨e, h⟩ := h
  subst e
  cases r
  exact assignInOrder_nil ⟨σ, H, I, h⟩
theorem pgs_cons {e : Expr} {es : List Expr} {t : TG} {u : TGs} (h1 : PG X e t) (h2 : PGs X es u)
    (hs : (assignEach (e :: es) X.env).map (·.2) = assign e X.env :: (assignEach es X.env).map (·.2) := by rfl) : PGs X (e :: es) (gCons t u) := by
  intro pins s σ H vs us Q I r h
  obtain ⟨v, vr, e1, h⟩ := h
  subst e1
  cases r with
  | cons r rr =>
    rw [hs]
    refine assignInOrder_cons (thn (h1 pins s σ H _ _ _ I r h) fun _ s1 ⟨σ1, H1, I1, q1⟩ => ?_)
    exact h2 pins s1 σ1 H1 _ _ Q I1 rr q1
def gTup (K : PySem.W.Frag) (n : Nat) (t : TGs) : TG := fun v σ H Q => ∃ a xs, v = .ref a ∧ SqT K H a xs ∧ xs.length = n ∧ t xs σ H Q
theorem pg_tup {es : List Expr} {k : Nat} {t : TGs} {n : Nat} (hc : X.calm = true) (h : PGs X es t)
    (hn : (assignEach es X.env).length = n := by rfl) (hst : (assignEach es X.env).findIdx? (·.1) = none := by rfl) : PG X (.Tuple es k pos) (gTup X.K n t) := by
  intro pins s σ H v u Q I r hw
  obtain ⟨a, xs, e1, hq, hl, hw⟩ := hw
  subst e1
  cases r
  obtain ⟨its, rv, ht, hz⟩ := I.tuple hq
  refine assign_Tuple_tuple (I.ok.hd hc) ht (by simp [hn, ← hl, rv.length]) hst fun h' hx => ?_
  have I1 : Inv X pins σ H { s with heap := h' } := I.kept (t' := s.toks) fun b o e => hx b o (Nat.ne_of_lt (Heap.lt_size e)) e
  exact h pins _ σ H xs _ Q I1 (by simpa using rv) hw
def gSub (to ti : TE) (t : TSet) : TG := fun v σ H Q => to σ H fun o H1 => ti σ H1 fun i H2 => t o i v H2 fun H3 => Q σ H3
theorem pg_sub {o i : Expr} {to ti : TE} {t : TSet} (ho : PE X o to) (hi : PE X i ti) (hs : PSet X t)
    (ha : ∀ v, assign (.Subscript o i pos) X.env v = (do
      let ov ← holding [v] (eval o X.env)
      let iv ← holding [v, ov] (eval i X.env)
      standAt pos
      holding [v, ov, iv] (setItem ov iv v)
      release [v, ov, iv] []) := by intro _; rfl) : PG X (.Subscript o i pos) (gSub to ti t) := by
  intro pins s σ H v u Q I r h
  rw [ha]
  refine wpAny_bind (wpAny_holding (thn (ho pins s σ H _ I h) fun ov s1 ⟨x, H1, I1, r1, q1⟩ => ?_))
  refine wpAny_bind (wpAny_holding (thn (hi pins s1 σ H1 _ I1 q1) fun iv s2 ⟨y, H2, I2, r2, q2⟩ => ?_))
  refine wpAny_bind (wpAny_standAt (wpAny_bind (wpAny_holding (thn (hs pins s2 σ H2 x y v ov iv u _ I2 r1 r2 r q2) fun _ s3 ⟨H3, I3, q3⟩ => ?_))))
  exact wpAny_release ⟨σ, H3, I3, q3⟩
def tAsg (te : TE) (g : TG) : TS := fun D σ H => te σ H fun x H1 => g x σ H1 D.nx
theorem ps_asg {tg e : Expr} {te : TE} {g : TG} (he : PE X e te) (hg : PG X tg g) (hs : swapsWithSole [tg] e pos.line X.env = pure false := by rfl) (hw : swappedStores [tg] e X.env = pure none := by rfl)
    (h1 : (assignEach [tg] X.env).map (·.2) = [assign tg X.env] := by rfl) : PS X (.Assign [tg] e pos) (tAsg te g) := by
  intro pins s σ H D I h
  refine wpAny_Assign_stores (thn (he pins s σ H _ I h) fun v s1 ⟨x, H1, I1, r1, q1⟩ => ?_) hs hw
  rw [h1]
  exact thn (hg pins s1 σ H1 x v _ I1 r1 q1) fun _ s2 q => q
theorem ps_set {i : Nat} {x : Str} {e : Expr} {te : TE} {pos' : Pos} (hN : X.N.Nodup) (hi : X.N[i]? = some x) (hx : Loc X.env.scope x) (he : PE X e te) (hs : swapsWith e (some (.Name x pos')) pos.line X.env = pure false := by rfl) (hf : X.fn x = true ∨ X.env.scope.names.lookup x = some .local := by first | exact .inl rfl | exact .inr rfl | assumption) :
    PS X (.Assign [.Name x pos'] e pos) (tAsg te (gName i)) := by
  intro pins s σ H D I h
  refine wpAny_Assign_Name (thn (he pins s σ H _ I h) fun v s1 ⟨y, H1, I1, r1, q1⟩ => ?_) hs
  exact store_ok I1 hN hi hx r1 (fun s2 I2 => ⟨_, H1, I2, q1⟩) hf
def tPar (i j : Nat) (ta : TA) : TS := fun D σ H => ta σ H fun vs H1 => ∃ v w, vs = [v, w] ∧ D.nx ((σ.set i (some v)).set j (some w)) H1
theorem ps_par {i j : Nat} {x y : Str} {a b : Expr} {ta : TA} {px py pt : Pos} {kt k2 pt2} (hc : X.calm = true) (hN : X.N.Nodup) (hi : X.N[i]? = some x) (hj : X.N[j]? = some y) (hij : i ≠ j)
    (hx : X.env.scope.names.lookup x = some .local) (hy : X.env.scope.names.lookup y = some .local) (ha : PA X [a, b] ta)
    (hw : swappedStores [.Tuple [.Name x px, .Name y py] kt pt] (.Tuple [a, b] k2 pt2) X.env = pure (some [x, y]))
    (hs : swapsWithSole [.Tuple [.Name x px, .Name y py] kt pt] (.Tuple [a, b] k2 pt2) pos.line X.env = pure false := by rfl) :
    PS X (.Assign [.Tuple [.Name x px, .Name y py] kt pt] (.Tuple [a, b] k2 pt2) pos) (tPar i j ta) := by
  intro pins s σ H D I h
  rw [exec_Assign_arm]
  refine wpAny_bind (wpAny_standAt ?_)
  rw [hs]
  refine wpAny_bind (wpAny_pure ?_)
  rw [if_neg (by decide)]
  refine wpAny_bind (Tuple_ (thn (ha _ pins s σ H _ I h) fun us s1 ⟨vs, H1, I1, r1, q1⟩ => ?_))
  obtain ⟨v, w, e1, q1⟩ := q1
  subst e1
  obtain ⟨u1, u2, rfl, rv, rw'⟩ : ∃ u1 u2, us = [u1, u2] ∧ RelV v u1 ∧ RelV w u2 := by
    cases r1 with
    | cons p q =>
      cases q with
      | cons p' q' =>
        cases q'
        exact ⟨_, _, rfl, p, p'⟩
  refine wpAny_newObj_type ?_ (by show 2 ≤ sizeLine; decide)
  have I2 : Inv X pins σ H1 { s1 with heap := s1.heap.push { cls := .type "tuple", data := .seq [u1, u2].toArray } } := I1.kept (t' := s1.toks) fun b o e => Heap.get?_push_of_some _ e
  rw [hw]
  refine wpAny_bind (wpAny_pure ?_)
  show wpAny (model X.prog X.w) X.A (do rule "assign.swapped-stores"; let items ← unpackItems (.ref s1.heap.objs.size) 2 none; assignInOrder [fun v => bindName X.env y v, fun v => bindName X.env x v] items.reverse; pure Flow.next) _ _ _
  refine wpAny_bind (wpAny_rule (wpAny_bind (unpackItems_tuple (items := #[u1, u2]) (I.ok.hd hc) (IsTup.new s1.heap _) fun h' hx' => ?_)))
  have I3 := I2.kept (h' := h') (t' := s1.toks) fun b o e => hx' b o (Nat.ne_of_lt (Heap.lt_size e)) e
  show wpAny _ _ (assignInOrder [fun v => bindName X.env y v, fun v => bindName X.env x v] [u2, u1] >>= fun _ => pure Flow.next) _ _ _
  refine wpAny_bind (assignInOrder_cons (wpAny_bindName (store_ok I3 hN hj (.inl hy) rw' (fun s2 I4 => ?_) (.inr hy))))
  refine assignInOrder_cons (wpAny_bindName (store_ok I4 hN hi (.inl hx) rv (fun s3 I5 => assignInOrder_nil (wpAny_pure ?_)) (.inr hx)))
  rw [List.set_comm _ _ (Ne.symm hij)] at I5
  exact ⟨_, H1, I5, q1⟩
def tAug (i : Nat) (te : TE) (ti : TIp) : TS := fun D σ H => ∃ x, σ[i]? = some (some x) ∧ te σ H fun y H1 => ti x y H1 fun z H2 => D.nx (σ.set i (some z)) H2
def tAugS (to ti te : TE) (tget : V → V → Hp → VK → Prop) (tip : TIp) (tset : TSet) : TS := fun D σ H => to σ H fun o H1 => ti σ H1 fun i H2 => tget o i H2 fun x H3 => te σ H3 fun y H4 => tip x y H4 fun z H5 => tset o i z H5 fun H6 => D.nx σ H6
def PGet (X : Cx) (t : V → V → Hp → VK → Prop) : Prop :=
  ∀ (pins : List (Addr × Obj)) (s : Shared) (σ : St) (H : Hp) (o i : V) (ov iv : Value) (Q : VK), Inv X pins σ H s → RelV o ov → RelV i iv → t o i H Q →
    wpAny (model X.prog X.w) X.A (getItem ov iv) (EP X pins σ Q) X.xe s
def ipI (f : Int → Int → Int) : TIp := fun x y H Q => ∃ i j, x = .int i ∧ y = .int j ∧ Q (.int (f i j)) H
end

section
variable {X : Cx} {pos : Pos}
def tWhile (c : TT) (tb : TS) : TS := fun D σ H => ∃ W : Nat → St → Hp → Prop, (∃ m, W m σ H) ∧ ∀ m σ H, W m σ H →
  c σ H fun b H1 => if b = true then ∃ N : St → Hp → Prop, (∀ σ' H', N σ' H' → ∃ m', m' < m ∧ W m' σ' H') ∧ tb { D with nx := N, ct := N, bk := D.nx } σ H1 else D.nx σ H1
theorem ps_while {c : Expr} {body : List Stmt} {tc : TT} {tb : TS} (hp : PassesOwn (model X.prog X.w) X.A X.env X.xe) (hc : PT X c tc) (hb : PSs X body tb) : PS X (.While c body [] pos) (tWhile tc tb) := by
  intro pins s σ H D I h
  obtain ⟨W, ⟨m0, w0⟩, turn⟩ := h
  refine wpAny_While (codeAny_whileLoop (fun n s' => ∃ σ' H', Inv X pins σ' H' s' ∧ W n σ' H') ?_ m0 ⟨σ, H, I, w0⟩)
  rintro n s1 ⟨σ1, H1, I1, w1⟩
  refine wpAny_passesOwn hp (thn (hc pins s1 σ1 H1 _ I1 (turn n σ1 H1 w1)) fun b s2 ⟨H2, I2, q2⟩ => ?_)
  cases b with
  | true =>
    obtain ⟨N, hN, q2⟩ := q2
    rw [if_pos rfl]
    refine wpAny_passesOwn hp (thn (hb pins s2 σ1 H2 _ I2 q2) fun f s3 q3 => ?_)
    cases f with
    | next =>
      obtain ⟨σ3, H3, I3, n3⟩ := q3
      obtain ⟨m', hm, w3⟩ := hN σ3 H3 n3
      exact ⟨m', hm, σ3, H3, I3, w3⟩
    | cont =>
      obtain ⟨σ3, H3, I3, n3⟩ := q3
      obtain ⟨m', hm, w3⟩ := hN σ3 H3 n3
      exact ⟨m', hm, σ3, H3, I3, w3⟩
    | brk => exact q3
    | ret v => exact q3
  | false =>
    rw [if_neg Bool.false_ne_true]
    exact wpAny_execs_nil ⟨σ1, H2, I2, q2⟩
end

structure It where
  go : Nat → Hp → Prop
  yld : Nat → Hp → V → Hp → Prop
  stop : Nat → Hp → Prop
def FpOk (X : Cx) (pins : List (Addr × Obj)) (H : Hp) (b : Addr) : Prop :=
  H b = none ∧ b ≠ X.env.locals ∧ b ∉ X.fs ∧ (b ∈ X.ex ∨ X.s₀.heap.objs.size ≤ b) ∧ (∀ x c, X.env.cells.lookup x = some c → c ≠ b) ∧ ∀ p ∈ X.pn ++ pins, p.1 ≠ b
theorem Inv.fpOk {X : Cx} {pins : List (Addr × Obj)} {σ : St} {H H' : Hp} {s : Shared} {b : Addr} (I : Inv X pins σ H s) (hb : s.heap.objs.size ≤ b) (hn : H' b = none) : FpOk X pins H' b := by
  refine ⟨hn, Nat.ne_of_gt (Nat.lt_of_lt_of_le I.lt hb), I.nofs hb, .inr (Nat.le_trans I.sz hb), fun x c e z => ?_, fun p hp z => ?_⟩
  · obtain ⟨v, q⟩ := I.cell x c e
    exact absurd (Nat.lt_of_lt_of_le q.lt (by rw [z]; exact hb)) (Nat.lt_irrefl _)
  · exact absurd (Nat.lt_of_lt_of_le (Heap.lt_size (I.pin p hp).1) (by rw [z]; exact hb)) (Nat.lt_irrefl _)
structure Turn (P : Program) (w : World) (K : PySem.W.Frag) (tg : Expr) (J : It) (fp : List Addr) (it : Addr) (tn : Nat → Heap → Prop) : Prop where
  mem : it ∈ fp
  obj : ∀ i h, tn i h → ∀ b ∈ fp, ∃ o, h.get? b = some o ∧ ∀ v, o.data ≠ .cell v
  keep : ∀ i h h', tn i h → (∀ b ∈ fp, ∀ o, h.get? b = some o → h'.get? b = some o) → tn i h'
  item : ∀ (X : Cx), X.prog = P → X.w = w → X.K = K → X.calm = true → ∀ (i : Nat) (pins : List (Addr × Obj)) (s : Shared) (σ : St) (H : Hp) (E : Value → Shared → Prop), Inv X pins σ H s → (∀ b ∈ fp, FpOk X pins H b) → tn i s.heap → J.go i H →
    wpAny (model P w) X.A (pyNext (.ref it)) (fun r s1 => ∃ u, r = some u ∧
      wpAny (model P w) X.A (letOwnedTupleGo tg (.ref it) u) (fun _ s2 => ∃ x H', Inv X pins σ H' s2 ∧ RelV x u ∧ J.yld i H x H' ∧ tn (i + 1) s2.heap ∧ ∀ b ∈ fp, H' b = none) E s1) E s
  done : ∀ (X : Cx), X.prog = P → X.w = w → X.K = K → X.calm = true → ∀ (i : Nat) (pins : List (Addr × Obj)) (s : Shared) (σ : St) (H : Hp) (E : Value → Shared → Prop), Inv X pins σ H s → (∀ b ∈ fp, FpOk X pins H b) → tn i s.heap → J.stop i H →
    wpAny (model P w) X.A (pyNext (.ref it)) (fun r s1 => r = none ∧ Inv X pins σ H s1) E s
  self : ∀ (A : Around) (i : Nat) (s : Shared) (Q : Value → Shared → Prop) (E : Value → Shared → Prop), tn i s.heap → Q (.ref it) s → wpAny (model P w) A (pyIter (.ref it)) Q E s
abbrev TI := St → Hp → (It → Hp → Prop) → Prop
def PIE (X : Cx) (pins : List (Addr × Obj)) (σ : St) (tg : Expr) (R : It → Hp → Prop) (itv : Value) (s2 : Shared) : Prop :=
  ∃ (it : Addr) (fp : List Addr) (tn : Nat → Heap → Prop) (J : It) (H' : Hp), itv = .ref it ∧ Inv X pins σ H' s2 ∧ Turn X.prog X.w X.K tg J fp it tn ∧ tn 0 s2.heap ∧ (∀ b ∈ fp, FpOk X pins H' b) ∧ R J H'
def PI (X : Cx) (tg iter : Expr) (wi : TI) : Prop :=
  ∀ (pins : List (Addr × Obj)) (s : Shared) (σ : St) (H : Hp) (R : It → Hp → Prop), Inv X pins σ H s → wi σ H R →
    wpAny (model X.prog X.w) X.A (eval iter X.env) (fun v s1 => wpAny (model X.prog X.w) X.A (pyIter v) (PIE X pins σ tg R) X.xe s1) X.xe s

theorem go_of {M : Model} {A : Around} {E : Value → Shared → Prop} {s : Shared} {tg : Expr} {it : Addr} {u : Value} {o : Obj} {n : String} {vs : Array Value} {Q : Unit → Shared → Prop} (ho : s.heap.get? it = some o) (hc : o.cls = .type n) (hd : o.data = .fields vs)
    (hn : ["enumerate", "zip", "dict_itemiterator", "dict_reverseitemiterator", "odict_iterator", "itertools.zip_longest", "itertools.pairwise"].contains n = false) (hQ : Q () s) : wpAny M A (letOwnedTupleGo tg (.ref it) u) Q E s := by
  unfold letOwnedTupleGo
  cases tg <;> first
    | exact wpAny_pure hQ
    | (cases u <;> first
        | exact wpAny_pure hQ
        | (refine wpAny_bind (wpAny_load ho ?_)
           rw [hc, hd]
           show wpAny M A (if (["enumerate", "zip", "dict_itemiterator", "dict_reverseitemiterator", "odict_iterator", "itertools.zip_longest", "itertools.pairwise"].contains n && vs[0]? == some (rawInt _)) = true then _ else _) Q E s
           rw [if_neg (by intro h; rw [hn, Bool.false_and] at h; cases h)]
           exact wpAny_pure hQ))

def Itl (K : PySem.W.Frag) (a : Addr) : It :=
  ⟨fun i H => ∃ xs x, SqL K H a xs ∧ xs[i]? = some x, fun i H x H' => H' = H ∧ ∀ xs, SqL K H a xs → xs[i]? = some x, fun i H => ∃ xs, SqL K H a xs ∧ xs.length ≤ i⟩
def Itt (K : PySem.W.Frag) (a : Addr) : It :=
  ⟨fun i H => ∃ xs x, SqT K H a xs ∧ xs[i]? = some x, fun i H x H' => H' = H ∧ ∀ xs, SqT K H a xs → xs[i]? = some x, fun i H => ∃ xs, SqT K H a xs ∧ xs.length ≤ i⟩
def Itr (lo : Int) (n : Nat) : It := ⟨fun i _ => i < n, fun i H x H' => H' = H ∧ x = .int (lo + i), fun i _ => n ≤ i⟩
theorem turn_list {P : Program} {w : World} {K : PySem.W.Frag} {tg : Expr} (a it : Addr) : Turn P w K tg (Itl K a) [it] it (fun i h => h.IsListIter it a i) where
  mem := by simp
  obj := fun i h st b hb => by
    have e : b = it := by simpa using hb
    subst e
    obtain ⟨o, e, c, d⟩ := st
    exact ⟨o, e, fun v z => by rw [d] at z; cases z⟩
  keep := fun i h h' st k => st.at fun o e => k it (by simp) o e
  item := by
    intro X hP hw hK hc i pins s σ H E I hf st hg
    subst hP hw hK
    obtain ⟨xs, x, hq, hx⟩ := hg
    obtain ⟨its, rv, p, hz⟩ := I.list hq
    obtain ⟨u, hu, ru⟩ := rv.get hx
    obtain ⟨f0, f1, f2, f3, f4, f5⟩ := hf it (by simp)
    refine wpAny_pyNext_list_item st p.isList (x := u) (by simpa using hu) fun h' st' sb => ?_
    have I1 : Inv X pins σ H { s with heap := h' } := I.turned (t' := s.toks) (fun b o hb e => (sb.2 b hb).trans e) f0 f1 f3 f4 f5
    obtain ⟨o, e, c, d⟩ := id st'
    exact ⟨u, rfl, go_of (s := { s with heap := h' }) e c d (by decide) ⟨x, H, I1, ru, ⟨rfl, fun ys hy => by rw [I.list_inj hy hq]; exact hx⟩, st', fun b hb => (hf b hb).1⟩⟩
  done := by
    intro X hP hw hK hc i pins s σ H E I hf st hg
    subst hP hw hK
    obtain ⟨xs, hq, hx⟩ := hg
    obtain ⟨its, rv, p, hz⟩ := I.list hq
    obtain ⟨f0, f1, f2, f3, f4, f5⟩ := hf it (by simp)
    have hl := rv.length
    exact wpAny_pyNext_list_end (I.ok.hd hc) st p.isList (by simp; omega) fun h' eb => ⟨rfl, I.turned (t' := s.toks) (fun b o hb e => eb b o hb e) f0 f1 f3 f4 f5⟩
  self := fun _ _ _ _ _ st h => wpAny_pyIter_listiter st h
theorem turn_tuple {P : Program} {w : World} {K : PySem.W.Frag} {tg : Expr} (a it : Addr) : Turn P w K tg (Itt K a) [it] it (fun i h => h.IsTupleIter it a i) where
  mem := by simp
  obj := fun i h st b hb => by
    have e : b = it := by simpa using hb
    subst e
    obtain ⟨o, e, c, d⟩ := st
    exact ⟨o, e, fun v z => by rw [d] at z; cases z⟩
  keep := fun i h h' st k => st.at fun o e => k it (by simp) o e
  item := by
    intro X hP hw hK hc i pins s σ H E I hf st hg
    subst hP hw hK
    obtain ⟨xs, x, hq, hx⟩ := hg
    obtain ⟨its, rv, p, hz⟩ := I.tuple hq
    obtain ⟨u, hu, ru⟩ := rv.get hx
    obtain ⟨f0, f1, f2, f3, f4, f5⟩ := hf it (by simp)
    refine wpAny_pyNext_tuple_item st (show s.heap.IsTuple a its.toArray from p) (x := u) (by simpa using hu) fun h' st' sb => ?_
    have I1 : Inv X pins σ H { s with heap := h' } := I.turned (t' := s.toks) (fun b o hb e => (sb.2 b hb).trans e) f0 f1 f3 f4 f5
    obtain ⟨o, e, c, d⟩ := id st'
    exact ⟨u, rfl, go_of (s := { s with heap := h' }) e c d (by decide) ⟨x, H, I1, ru, ⟨rfl, fun ys hy => by rw [I.tuple_inj hy hq]; exact hx⟩, st', fun b hb => (hf b hb).1⟩⟩
  done := by
    intro X hP hw hK hc i pins s σ H E I hf st hg
    subst hP hw hK
    obtain ⟨xs, hq, hx⟩ := hg
    obtain ⟨its, rv, p, hz⟩ := I.tuple hq
    obtain ⟨f0, f1, f2, f3, f4, f5⟩ := hf it (by simp)
    have hl := rv.length
    exact wpAny_pyNext_tuple_end (I.ok.hd hc) st (show s.heap.IsTuple a its.toArray from p) (by simp; omega) fun h' eb => ⟨rfl, I.turned (t' := s.toks) (fun b o hb e => eb b o hb e) f0 f1 f3 f4 f5⟩
  self := fun _ _ _ _ _ st h => wpAny_pyIter_tupleiter st h
theorem turn_range {P : Program} {w : World} {K : PySem.W.Frag} {tg : Expr} (it : Addr) (lo : Int) (n : Nat) : Turn P w K tg (Itr lo n) [it] it (fun i h => IsRangeIter h it (lo + (i : Nat) * 1) ((n : Int) - (i : Nat)) 1) where
  mem := by simp
  obj := fun i h st b hb => by
    have e : b = it := by simpa using hb
    subst e
    exact ⟨_, st, fun v z => by
      have z' : Data.fields _ = Data.cell v := z
      cases z'⟩
  keep := fun i h h' st k => k it (by simp) _ st
  item := by
    intro X hP hw hK hc i pins s σ H E I hf st hg
    subst hP hw hK
    obtain ⟨f0, f1, f2, f3, f4, f5⟩ := hf it (by simp)
    have W := Walks.range (prog := X.prog) (w := X.w) (I.ok.hd hc) it lo 1 n
    refine W.item i s _ _ hg st fun v h' tk hv st' kk => ?_
    obtain ⟨t, rfl⟩ := hv
    have I1 : Inv X pins σ H { s with heap := h', toks := tk } := I.turned (fun b o hb e => kk b o (by simpa using hb) e) f0 f1 f3 f4 f5
    refine ⟨_, rfl, go_of (s := { s with heap := h', toks := tk }) (n := "range_iterator") st' rfl rfl (by decide) ⟨.int (lo + i), H, I1, ⟨t, ?_⟩, ⟨rfl, rfl⟩, st', fun b hb => (hf b hb).1⟩⟩
    rw [Int.mul_one]
  done := by
    intro X hP hw hK hc i pins s σ H E I hf st hg
    subst hP hw hK
    obtain ⟨f0, f1, f2, f3, f4, f5⟩ := hf it (by simp)
    exact wpAny_pyNext_range_end (I.ok.hd hc) st (by have : n ≤ i := hg; omega) fun h' eb => ⟨rfl, I.turned (t' := s.toks) (fun b o hb e => eb b o hb e) f0 f1 f3 f4 f5⟩
  self := fun _ _ _ _ _ st h => wpAny_pyIter_rangeiter st h
end L2

namespace L2
open PySem PySem.Spec PyProof.Rows
section
variable {X : Cx} {tg : Expr}
def iList (K : PySem.W.Frag) (tl : TE) : TI := fun σ H R => tl σ H fun x H1 => ∃ a, x = .ref a ∧ (∃ xs, SqL K H1 a xs) ∧ R (Itl K a) H1
def iTup (K : PySem.W.Frag) (tl : TE) : TI := fun σ H R => tl σ H fun x H1 => ∃ a, x = .ref a ∧ (∃ xs, SqT K H1 a xs) ∧ R (Itt K a) H1
theorem pi_list {l : Expr} {tl : TE} (hl : PE X l tl) : PI X tg l (iList X.K tl) := by
  intro pins s σ H R I h
  refine thn (hl pins s σ H _ I h) fun v s1 ⟨x, H1, I1, r1, q1⟩ => ?_
  obtain ⟨a, e, ⟨xs, hq⟩, q⟩ := q1
  subst e
  cases r1
  obtain ⟨its, rv, p, hz⟩ := I1.list hq
  refine wpAny_pyIter_list p.isList ?_
  refine ⟨s1.heap.objs.size, [s1.heap.objs.size], _, _, H1, rfl, I1.kept (t' := s1.toks) fun b o e => Heap.get?_push_of_some _ e, turn_list a _, ⟨_, Heap.get?_push_size _ rfl, rfl, rfl⟩, fun b hb => ?_, q⟩
  have e : b = s1.heap.objs.size := by simpa using hb
  subst e
  exact I1.fpOk (Nat.le_refl _) (I1.hok.fresh (Nat.le_refl _))
theorem pi_tup {l : Expr} {tl : TE} (hl : PE X l tl) : PI X tg l (iTup X.K tl) := by
  intro pins s σ H R I h
  refine thn (hl pins s σ H _ I h) fun v s1 ⟨x, H1, I1, r1, q1⟩ => ?_
  obtain ⟨a, e, ⟨xs, hq⟩, q⟩ := q1
  subst e
  cases r1
  obtain ⟨its, rv, p, hz⟩ := I1.tuple hq
  refine wpAny_pyIter_tuple (show s1.heap.IsTuple a its.toArray from p) ?_
  refine ⟨s1.heap.objs.size, [s1.heap.objs.size], _, _, H1, rfl, I1.kept (t' := s1.toks) fun b o e => Heap.get?_push_of_some _ e, turn_tuple a _, ⟨_, Heap.get?_push_size _ rfl, rfl, rfl⟩, fun b hb => ?_, q⟩
  have e : b = s1.heap.objs.size := by simpa using hb
  subst e
  exact I1.fpOk (Nat.le_refl _) (I1.hok.fresh (Nat.le_refl _))
theorem range_it {pins : List (Addr × Obj)} {σ : St} {H : Hp} {s : Shared} {R : It → Hp → Prop} {E : Value → Shared → Prop} {lo hi : Int} {t u v : Tok} {tk : Nat} (I : Inv X pins σ H s) (h1 : -(2 ^ 62) ≤ lo) (h2 : lo < 2 ^ 62) (h3 : -(2 ^ 62) ≤ hi) (h4 : hi < 2 ^ 62)
    (q : R (Itr lo (hi - lo).toNat) H) : wpAny (model X.prog X.w) X.A (pyIter (.ref s.heap.objs.size)) (PIE X pins σ tg R) E { s with heap := s.heap.push { cls := .type "range", data := .fields #[.int lo t, .int hi u, .int 1 v] }, toks := tk } := by
  refine wpAny_pyIter_range (IsRange.new ..) (small_one h1 h2 h3 h4) ?_
  have I1 : Inv X pins σ H { s with heap := s.heap.push { cls := .type "range", data := .fields #[.int lo t, .int hi u, .int 1 v] }, toks := tk } := I.kept fun b o e => Heap.get?_push_of_some _ e
  refine ⟨(s.heap.push { cls := .type "range", data := .fields #[.int lo t, .int hi u, .int 1 v] }).objs.size, [(s.heap.push { cls := .type "range", data := .fields #[.int lo t, .int hi u, .int 1 v] }).objs.size], _, _, H, rfl,
    I1.kept (t' := tk) fun b o e => Heap.get?_push_of_some _ e, turn_range _ lo (hi - lo).toNat, ?_, fun b hb => ?_, q⟩
  · have e1 : lo + ((0 : Nat) : Int) * 1 = lo := by simp
    have e2 : (((hi - lo).toNat : Nat) : Int) - ((0 : Nat) : Int) = Builtin.Range.rangeSize lo hi 1 := by rw [rangeSize_one]; split <;> omega
    show IsRangeIter _ _ (lo + ((0 : Nat) : Int) * 1) ((((hi - lo).toNat : Nat) : Int) - ((0 : Nat) : Int)) 1
    rw [e1, e2]
    exact Heap.get?_push_size _ rfl
  · have e : b = (s.heap.push { cls := .type "range", data := .fields #[.int lo t, .int hi u, .int 1 v] }).objs.size := by simpa using hb
    subst e
    exact I1.fpOk (Nat.le_refl _) (I1.hok.fresh (Nat.le_refl _))
def iRng1 (ta : TA) : TI := fun σ H R => ta σ H fun vs H1 => ∃ j : Int, vs = [.int j] ∧ -(2 ^ 62) ≤ j ∧ j < 2 ^ 62 ∧ R (Itr 0 j.toNat) H1
def iRng2 (ta : TA) : TI := fun σ H R => ta σ H fun vs H1 => ∃ i j : Int, vs = [.int i, .int j] ∧ (-(2 ^ 62) ≤ i ∧ i < 2 ^ 62 ∧ -(2 ^ 62) ≤ j ∧ j < 2 ^ 62) ∧ R (Itr i (j - i).toNat) H1
theorem pi_range1 {a : Expr} {ta : TA} {p pos : Pos} (hg : Gl X "range") (hm : X.mg "range" = none) (ha : PA X [a] ta) (hs : starEach [a] X.env = [(false, eval a X.env)] := by rfl) : PI X tg (.Call (.Name "range" p) [a] [] pos) (iRng1 ta) := by
  intro pins s σ H R I h
  refine Call_ (ld_blt I hg hm boot_range (PyProof.Rows.callWith_type1 (thn (ha pos pins s σ H _ I h) fun us s1 ⟨vs, H1, I1, r1, q1⟩ => ?_) hs rfl))
  obtain ⟨j, e, q1, q2, q⟩ := q1
  subst e
  cases r1 with
  | cons r rr =>
    cases rr
    obtain ⟨t, rfl⟩ := r
    exact call_range_1 (range_it I1 (by omega) (by omega) q1 q2 (by simpa using q))
def tFor (wi : TI) (g : TG) (tb : TS) : TS := fun D σ H => wi σ H fun J H1 => ∃ W : Nat → Nat → St → Hp → Prop, (∃ m, W 0 m σ H1) ∧ ∀ i m σ H, W i m σ H →
  (J.stop i H ∧ D.nx σ H) ∨ (J.go i H ∧ ∃ N : St → Hp → Prop, (∀ σ' H', N σ' H' → ∃ m', m' < m ∧ W (i + 1) m' σ' H') ∧ ∀ x H', J.yld i H x H' → g x σ H' fun σ2 H2 => tb { D with nx := N, ct := N, bk := D.nx } σ2 H2)
def pinsAt (fp : List Addr) (h : Heap) : List (Addr × Obj) := fp.filterMap fun b => (h.get? b).map fun o => (b, o)
theorem mem_pinsAt {fp : List Addr} {h : Heap} {b : Addr} {o : Obj} (hb : b ∈ fp) (e : h.get? b = some o) : (b, o) ∈ pinsAt fp h := List.mem_filterMap.mpr ⟨b, hb, by rw [e]; rfl⟩
theorem of_pinsAt {fp : List Addr} {h : Heap} {p : Addr × Obj} (hp : p ∈ pinsAt fp h) : p.1 ∈ fp ∧ h.get? p.1 = some p.2 := by
  obtain ⟨b, hb, e⟩ := List.mem_filterMap.mp hp
  cases q : h.get? b with
  | none => rw [q] at e; cases e
  | some o =>
    rw [q] at e
    have e' : (b, o) = p := Option.some.inj e
    subst e'
    exact ⟨hb, q⟩
theorem Inv.pinned {pins : List (Addr × Obj)} {σ : St} {H : Hp} {s : Shared} {fp : List Addr} (I : Inv X pins σ H s) (hf : ∀ b ∈ fp, FpOk X pins H b) (ho : ∀ b ∈ fp, ∃ o, s.heap.get? b = some o ∧ ∀ v, o.data ≠ .cell v) : Inv X (pins ++ pinsAt fp s.heap) σ H s :=
  I.pins_of fun p hp => (List.mem_append.mp hp).elim (fun z => I.pin p (List.mem_append_right _ z)) fun z => by
    obtain ⟨hb, e⟩ := of_pinsAt z
    obtain ⟨f0, f1, f2, _⟩ := hf p.1 hb
    obtain ⟨o, e', d⟩ := ho p.1 hb
    rw [e] at e'; cases e'
    exact ⟨e, f0, f1, f2, d⟩
theorem Inv.unpinned {pins pl : List (Addr × Obj)} {σ : St} {H : Hp} {s : Shared} (I : Inv X (pins ++ pl) σ H s) : Inv X pins σ H s := I.pins_of fun p hp => I.pin p (List.mem_append_right _ (List.mem_append_left _ hp))
theorem ps_for {iter : Expr} {body : List Stmt} {wi : TI} {g : TG} {tb : TS} {pos : Pos} (hp : PassesOwn (model X.prog X.w) X.A X.env X.xe) (hc : X.calm = true) (hi : PI X tg iter wi) (hg : PG X tg g) (hb : PSs X body tb)
    (hs : ∀ x, foldedSetIterable iter X.env x = pure x := by intro _; rfl) : PS X (.For tg iter body [] pos) (tFor wi g tb) := by
  intro pins s σ H D I h
  refine wpAny_For (thn (hi pins s σ H _ I h) fun v s1 h1 => thn h1 fun itv s2 h2 => ?_) hs
  obtain ⟨it, fp, tn, J, H2, e, I2, T, st2, f2, W, ⟨m0, w0⟩, turn⟩ := h2
  subst e
  -- what stays true of the iterator's objects through the loop
  have stat : ∀ {H' : Hp}, (∀ b ∈ fp, H' b = none) → ∀ b ∈ fp, FpOk X pins H' b := fun hn b hb => ⟨hn b hb, (f2 b hb).2⟩
  refine codeAny_forLoop_any (fun n s' => ∃ i σ' H', Inv X pins σ' H' s' ∧ tn i s'.heap ∧ (∀ b ∈ fp, H' b = none) ∧ W i n σ' H') ?_ m0 ⟨0, σ, H2, I2, st2, fun b hb => (f2 b hb).1, w0⟩
  rintro n s3 ⟨i, σ3, H3, I3, st3, fr3, w3⟩
  rcases turn i n σ3 H3 w3 with ⟨stop, qn⟩ | ⟨go, N, hN, step⟩
  · refine wpAny_passesOwn hp (thn (T.done X rfl rfl rfl hc i pins s3 σ3 H3 X.xe I3 (stat fr3) st3 stop) fun r s4 ⟨hr, I4⟩ => ?_)
    subst hr
    exact wpAny_execs_nil ⟨σ3, H3, I4, qn⟩
  · refine wpAny_passesOwn hp (thn (T.item X rfl rfl rfl hc i pins s3 σ3 H3 X.xe I3 (stat fr3) st3 go) fun r s4 ⟨u, hr, h4⟩ => ?_)
    subst hr
    refine wpAny_passesOwn hp (thn h4 fun _ s5 ⟨x, H5, I5, r5, y5, st5, fr5⟩ => ?_)
    have I5' := I5.pinned (stat fr5) (T.obj _ _ st5)
    refine wpAny_passesOwn hp (thn (hg _ s5 σ3 H5 x u _ I5' r5 (step x H5 y5)) fun _ s6 ⟨σ6, H6, I6, q6⟩ => ?_)
    refine wpAny_passesOwn hp (thn (hb _ s6 σ6 H6 _ I6 q6) fun f s7 q7 => ?_)
    have again : ∀ {σ7 : St} {H7 : Hp}, Inv X (pins ++ pinsAt fp s5.heap) σ7 H7 s7 → N σ7 H7 → ∃ m, m < n ∧ ∃ i σ' H', Inv X pins σ' H' s7 ∧ tn i s7.heap ∧ (∀ b ∈ fp, H' b = none) ∧ W i m σ' H' := fun {σ7 H7} I7 n7 => by
      obtain ⟨m', hm, w7⟩ := hN σ7 H7 n7
      refine ⟨m', hm, i + 1, σ7, H7, I7.unpinned, T.keep _ _ _ st5 fun b hb o e => (I7.pin (b, o) (List.mem_append_right _ (List.mem_append_right _ (mem_pinsAt hb e)))).1, fun b hb => ?_, w7⟩
      obtain ⟨o, e, d⟩ := T.obj _ _ st5 b hb
      exact (I7.pin (b, o) (List.mem_append_right _ (List.mem_append_right _ (mem_pinsAt hb e)))).2.1
    cases f with
    | next => obtain ⟨σ7, H7, I7, n7⟩ := q7; exact again I7 n7
    | cont => obtain ⟨σ7, H7, I7, n7⟩ := q7; exact again I7 n7
    | brk => obtain ⟨σ7, H7, I7, q7⟩ := q7; exact ⟨σ7, H7, I7.unpinned, q7⟩
    | ret v => obtain ⟨x7, σ7, H7, I7, r7, q7⟩ := q7; exact ⟨x7, σ7, H7, I7.unpinned, r7, q7⟩
end

theorem for_list {K : PySem.W.Frag} {a : Addr} {xs : List V} {g : TG} {tb : TS} {D : Ends} {σ : St} {H : Hp} (Pv : Nat → St → Hp → Prop) (h0 : Pv 0 σ H) (hl : ∀ i σ H, i ≤ xs.length → Pv i σ H → SqL K H a xs)
    (hs : ∀ i x σ H, xs[i]? = some x → Pv i σ H → g x σ H fun σ2 H2 => tb { D with nx := Pv (i + 1), ct := Pv (i + 1), bk := D.nx } σ2 H2) (hd : ∀ σ H, Pv xs.length σ H → D.nx σ H) :
    ∃ W : Nat → Nat → St → Hp → Prop, (∃ m, W 0 m σ H) ∧ ∀ i m σ H, W i m σ H →
      ((Itl K a).stop i H ∧ D.nx σ H) ∨ ((Itl K a).go i H ∧ ∃ N : St → Hp → Prop, (∀ σ' H', N σ' H' → ∃ m', m' < m ∧ W (i + 1) m' σ' H') ∧ ∀ x H', (Itl K a).yld i H x H' → g x σ H' fun σ2 H2 => tb { D with nx := N, ct := N, bk := D.nx } σ2 H2) := by
  refine ⟨fun i m σ H => m = xs.length - i ∧ i ≤ xs.length ∧ Pv i σ H, ⟨xs.length, by simp, Nat.zero_le _, h0⟩, ?_⟩
  rintro i m σ H ⟨rfl, hi, p⟩
  have q := hl i σ H hi p
  by_cases hlt : i < xs.length
  · refine .inr ⟨⟨xs, xs[i], q, by simp [hlt]⟩, Pv (i + 1), fun σ' H' p' => ⟨xs.length - (i + 1), by omega, rfl, hlt, p'⟩, fun x H' y => ?_⟩
    obtain ⟨e, y⟩ := y
    subst e
    exact hs i x σ _ (y xs q) p
  · have e : i = xs.length := by omega
    subst e
    exact .inl ⟨⟨xs, q, Nat.le_refl _⟩, hd σ H p⟩
theorem for_range {lo : Int} {n : Nat} {g : TG} {tb : TS} {D : Ends} {σ : St} {H : Hp} (Pv : Nat → St → Hp → Prop) (h0 : Pv 0 σ H)
    (hs : ∀ i σ H, i < n → Pv i σ H → g (.int (lo + i)) σ H fun σ2 H2 => tb { D with nx := Pv (i + 1), ct := Pv (i + 1), bk := D.nx } σ2 H2) (hd : ∀ σ H, Pv n σ H → D.nx σ H) :
    ∃ W : Nat → Nat → St → Hp → Prop, (∃ m, W 0 m σ H) ∧ ∀ i m σ H, W i m σ H →
      ((Itr lo n).stop i H ∧ D.nx σ H) ∨ ((Itr lo n).go i H ∧ ∃ N : St → Hp → Prop, (∀ σ' H', N σ' H' → ∃ m', m' < m ∧ W (i + 1) m' σ' H') ∧ ∀ x H', (Itr lo n).yld i H x H' → g x σ H' fun σ2 H2 => tb { D with nx := N, ct := N, bk := D.nx } σ2 H2) := by
  refine ⟨fun i m σ H => m = n - i ∧ i ≤ n ∧ Pv i σ H, ⟨n, by simp, Nat.zero_le _, h0⟩, ?_⟩
  rintro i m σ H ⟨rfl, hi, p⟩
  by_cases hlt : i < n
  · refine .inr ⟨hlt, Pv (i + 1), fun σ' H' p' => ⟨n - (i + 1), by omega, rfl, hlt, p'⟩, fun x H' y => ?_⟩
    obtain ⟨e, y⟩ := y
    subst e y
    exact hs i σ _ hlt p
  · have e : i = n := by omega
    subst e
    exact .inl ⟨Nat.le_refl _, hd σ H p⟩
end L2

namespace L2
open PySem PySem.Spec PyProof.Rows

abbrev R2 := V → V → Hp → VK → Prop
def OpR (X : Cx) (f : Value → Value → Sem Value) (r : R2) : Prop :=
  ∀ (pins : List (Addr × Obj)) (s : Shared) (σ : St) (H : Hp) (x y : V) (v u : Value) (Q : VK), Inv X pins σ H s → RelV x v → RelV y u → r x y H Q →
    wpAny (model X.prog X.w) X.A (f v u) (EP X pins σ Q) X.xe s
def UnR (X : Cx) (f : Value → Sem Value) (r : V → Hp → VK → Prop) : Prop :=
  ∀ (pins : List (Addr × Obj)) (s : Shared) (σ : St) (H : Hp) (x : V) (v : Value) (Q : VK), Inv X pins σ H s → RelV x v → r x H Q →
    wpAny (model X.prog X.w) X.A (f v) (EP X pins σ Q) X.xe s
def CallR (X : Cx) (f : Value) (r : List V → Hp → VK → Prop) : Prop :=
  ∀ (pins : List (Addr × Obj)) (s : Shared) (σ : St) (H : Hp) (xs : List V) (us : List Value) (Q : VK), Inv X pins σ H s → Vals xs us → r xs H Q →
    wpAny (model X.prog X.w) X.A (call f us) (EP X pins σ Q) X.xe s
def TruR (X : Cx) (r : V → Hp → (Bool → Hp → Prop) → Prop) : Prop :=
  ∀ (pins : List (Addr × Obj)) (s : Shared) (σ : St) (H : Hp) (x : V) (v : Value) (Q : Bool → Hp → Prop), Inv X pins σ H s → RelV x v → r x H Q →
    wpAny (model X.prog X.w) X.A (truthy v) (TP X pins σ Q) X.xe s

def tOp (r : R2) (ta tb : TE) : TE := fun σ H Q => ta σ H fun x H1 => tb σ H1 fun y H2 => r x y H2 Q
def tUn (r : V → Hp → VK → Prop) (ta : TE) : TE := fun σ H Q => ta σ H fun x H1 => r x H1 Q
def rI (C : Int → Int → Prop) (g : Int → Int → V) : R2 := fun x y H Q => ∃ i j, x = .int i ∧ y = .int j ∧ C i j ∧ Q (g i j) H
def rI0 (g : Int → Int → V) : R2 := fun x y H Q => ∃ i j, x = .int i ∧ y = .int j ∧ Q (g i j) H
def rU (g : Int → V) : V → Hp → VK → Prop := fun x H Q => ∃ i, x = .int i ∧ Q (g i) H

section
variable {X : Cx} {a b c : Expr} {ta tb tc : TE} {pos : Pos}

theorem binT (ha : PE X a ta) (hb : PE X b tb) {pins : List (Addr × Obj)} {s : Shared} {σ : St} {H : Hp} {R : V → V → Hp → Prop} (I : Inv X pins σ H s)
    (h : ta σ H fun x H1 => tb σ H1 fun y H2 => R x y H2) {Q : Value → Shared → Prop} {f : Value → Value → Sem Value}
    (hf : ∀ v u s2 x y H2, Inv X pins σ H2 s2 → RelV x v → RelV y u → R x y H2 → wpAny (model X.prog X.w) X.A (f v u) Q X.xe s2) :
    wpAny (model X.prog X.w) X.A (eval a X.env) (fun v s₁ => wpAny (model X.prog X.w) X.A (eval b X.env) (fun u s₂ => wpAny (model X.prog X.w) X.A (f v u) Q X.xe s₂) X.xe s₁) X.xe s := by
  refine thn (ha pins s σ H _ I h) fun v s1 ⟨x, H1, I1, r1, q1⟩ => ?_
  refine thn (hb pins s1 σ H1 _ I1 q1) fun u s2 ⟨y, H2, I2, r2, q2⟩ => ?_
  exact hf v u s2 x y H2 I2 r1 r2 q2

theorem pe_op {op : Operator} {r : R2} (ho : OpR X (binaryOp op) r) (ha : PE X a ta) (hb : PE X b tb) : PE X (.BinOp a op b pos) (tOp r ta tb) := by
  intro pins s σ H Q I h
  exact wpAny_BinOp (binT ha hb I h fun v u s2 x y H2 I2 rx ry q => ho pins s2 σ H2 x y v u Q I2 rx ry q)
theorem pe_un {op : UnaryOp} {r : V → Hp → VK → Prop} (ho : UnR X (unaryOp op) r) (ha : PE X a ta) : PE X (.UnaryOp op a pos) (tUn r ta) := by
  intro pins s σ H Q I h
  exact UnaryOp_ (thn (ha pins s σ H _ I h) fun v s1 ⟨x, H1, I1, r1, q1⟩ => ho pins s1 σ H1 x v Q I1 r1 q1)
theorem opI {f : Value → Value → Sem Value} {C : Int → Int → Prop} {g : Int → Int → Int}
    (rule : ∀ (i j : Int) (t u : Tok) (s : Shared) (Q : Value → Shared → Prop) (E : Value → Shared → Prop), C i j → Q (.int (g i j) s.toks) { s with toks := s.toks + 1 } → wpAny (model X.prog X.w) X.A (f (.int i t) (.int j u)) Q E s) :
    OpR X f (rI C fun i j => .int (g i j)) := by
  intro pins s σ H x y v u Q I rx ry h
  obtain ⟨i, j, rfl, rfl, hc, q⟩ := h
  obtain ⟨t, rfl⟩ := rx
  obtain ⟨t', rfl⟩ := ry
  exact rule i j t t' s _ _ hc ⟨.int (g i j), H, I.tok _, ⟨_, rfl⟩, q⟩
theorem opI0 {f : Value → Value → Sem Value} {g : Int → Int → Int}
    (rule : ∀ (i j : Int) (t u : Tok) (s : Shared) (Q : Value → Shared → Prop) (E : Value → Shared → Prop), Q (.int (g i j) s.toks) { s with toks := s.toks + 1 } → wpAny (model X.prog X.w) X.A (f (.int i t) (.int j u)) Q E s) :
    OpR X f (rI0 fun i j => .int (g i j)) := by
  intro pins s σ H x y v u Q I rx ry h
  obtain ⟨i, j, rfl, rfl, q⟩ := h
  obtain ⟨t, rfl⟩ := rx
  obtain ⟨t', rfl⟩ := ry
  exact rule i j t t' s _ _ ⟨.int (g i j), H, I.tok _, ⟨_, rfl⟩, q⟩
theorem opB0 {f : Value → Value → Sem Value} {g : Int → Int → Bool}
    (rule : ∀ (i j : Int) (t u : Tok) (s : Shared) (Q : Value → Shared → Prop) (E : Value → Shared → Prop), Q (.bool (g i j)) s → wpAny (model X.prog X.w) X.A (f (.int i t) (.int j u)) Q E s) :
    OpR X f (rI0 fun i j => .bl (g i j)) := by
  intro pins s σ H x y v u Q I rx ry h
  obtain ⟨i, j, rfl, rfl, q⟩ := h
  obtain ⟨t, rfl⟩ := rx
  obtain ⟨t', rfl⟩ := ry
  exact rule i j t t' s _ _ ⟨.bl (g i j), H, I, rfl, q⟩

def CDiv (i j : Int) : Prop := 0 < j ∧ j < 1073741824
def CDivN (i j : Int) : Prop := j ≠ 0 ∧ j.natAbs < 1073741824
def CPow (i j : Int) : Prop := 0 ≤ j ∧ j ≤ 1000000 ∧ i.natAbs < 2 ^ 64
def CMul (i j : Int) : Prop := (-(2 ^ 64) < i ∧ i < 2 ^ 64) ∨ (-(2 ^ 64) < j ∧ j < 2 ^ 64)
theorem op_add : OpR X (binaryOp .Add) (rI0 fun i j => .int (i + j)) := opI0 fun _ _ _ _ _ _ _ q => add_int q
theorem op_sub : OpR X (binaryOp .Sub) (rI0 fun i j => .int (i - j)) := opI0 fun _ _ _ _ _ _ _ q => sub_int q
theorem op_fdiv : OpR X (binaryOp .FloorDiv) (rI CDiv fun i j => .int (i / j)) := opI fun i j _ _ _ _ _ hc q => by
  have h1 : (0 : Int) < j := hc.1
  have h2 : j < 1073741824 := hc.2
  exact floordiv_int (by omega) (by rw [Int.fdiv_eq_ediv_of_nonneg i (by omega)]; exact q) (.inl (PyProof.noPylong_small (by omega)))
theorem op_mod : OpR X (binaryOp .Mod) (rI (fun _ j => 0 < j) fun i j => .int (i % j)) := opI fun i j _ _ _ _ _ hc q => by
  have h1 : (0 : Int) < j := hc
  exact mod_int' (by omega) (by rw [Int.fmod_eq_emod_of_nonneg i (by omega)]; exact q)
theorem op_modN : OpR X (binaryOp .Mod) (rI (fun _ j => j ≠ 0) fun i j => .int (i.fmod j)) := opI fun _ _ _ _ _ _ _ hc q => mod_int' hc q
theorem op_pow : OpR X (binaryOp .Pow) (rI CPow fun i j => .int (i ^ j.toNat)) := opI fun _ _ _ _ _ _ _ hc q => pow_int_small hc.1 hc.2.1 hc.2.2 q
theorem unI {f : Value → Sem Value} {g : Int → Int}
    (rule : ∀ (i : Int) (t : Tok) (s : Shared) (Q : Value → Shared → Prop) (E : Value → Shared → Prop), Q (.int (g i) s.toks) { s with toks := s.toks + 1 } → wpAny (model X.prog X.w) X.A (f (.int i t)) Q E s) :
    UnR X f (rU fun i => .int (g i)) := by
  intro pins s σ H x v Q I rx h
  obtain ⟨i, rfl, q⟩ := h
  obtain ⟨t, rfl⟩ := rx
  exact rule i t s _ _ ⟨.int (g i), H, I.tok _, ⟨_, rfl⟩, q⟩
theorem un_neg : UnR X (unaryOp .USub) (rU fun i => .int (-i)) := unI fun _ _ _ _ _ q => neg_int q
end

def scal : V → V → Bool
  | .non, .non => true | .non, .int _ => true | .int _, .non => true | .non, .bl _ => true | .bl _, .non => true | .non, .str _ => true | .str _, .non => true
  | .int _, .int _ => true | .bl _, .bl _ => true | .str _, .str _ => true | .byt _, .byt _ => true
  | .int _, .str _ => true | .str _, .int _ => true | .bl _, .str _ => true | .str _, .bl _ => true
  | _, _ => false
def rEq : R2 := fun x y H Q => scal x y = true ∧ Q (.bl (decide (x = y))) H
def rNe : R2 := fun x y H Q => scal x y = true ∧ Q (.bl (!decide (x = y))) H

theorem dec_int {i j : Int} : decide (V.int i = V.int j) = (i == j) := by
  rw [Bool.eq_iff_iff]
  simp
theorem dec_bl {i j : Bool} : decide (V.bl i = V.bl j) = (i == j) := by
  rw [Bool.eq_iff_iff]
  simp
theorem dec_str {i j : Str} : decide (V.str i = V.str j) = (i == j) := by
  rw [Bool.eq_iff_iff]
  simp
theorem dec_byt {i j : Array UInt8} : decide (V.byt i = V.byt j) = (i.toList == j.toList) := by
  rw [Bool.eq_iff_iff]
  cases i
  cases j
  simp

section
variable {X : Cx} {a b c : Expr} {ta tb tc : TE} {pos : Pos}
theorem fin_bl {pins : List (Addr × Obj)} {σ : St} {H : Hp} {s : Shared} {Q : VK} {k k' : Bool} (I : Inv X pins σ H s) (q : Q (.bl k) H) (e : k = k') : EP X pins σ Q (.bool k') s := by
  subst e
  exact ⟨.bl k, H, I, rfl, q⟩
theorem op_eq : OpR X (compareOp .Eq) rEq := by
  intro pins s σ H x y v u Q I rx ry h
  obtain ⟨hs, q⟩ := h
  cases x with
  | non =>
    cases rx
    cases y with
    | non => cases ry; exact PySem.EqNone.eq_none_none (fin_bl I q (by simp))
    | bl j => cases ry; exact PySem.EqNone.eq_none_bool (fin_bl I q (by simp))
    | int j => obtain ⟨t', rfl⟩ := ry; exact PySem.EqNone.eq_none_int (fin_bl I q (by simp))
    | str j => obtain ⟨t', rfl⟩ := ry; exact PySem.EqNone.eq_none_str (fin_bl I q (by simp))
    | _ => exact absurd (show false = true from hs) Bool.false_ne_true
  | bl i =>
    cases rx
    cases y with
    | non => cases ry; exact PySem.EqNone.eq_bool_none (fin_bl I q (by simp))
    | bl j => cases ry; exact eq_bool (fin_bl I q dec_bl)
    | str j => obtain ⟨t', rfl⟩ := ry; exact PySem.EqMixed.eq_bool_str (fin_bl I q (by simp))
    | _ => exact absurd (show false = true from hs) Bool.false_ne_true
  | int i =>
    obtain ⟨t, rfl⟩ := rx
    cases y with
    | non => cases ry; exact PySem.EqNone.eq_int_none (fin_bl I q (by simp))
    | int j => obtain ⟨t', rfl⟩ := ry; exact eq_int (fin_bl I q dec_int)
    | str j => obtain ⟨t', rfl⟩ := ry; exact PySem.EqMixed.eq_int_str (fin_bl I q (by simp))
    | _ => exact absurd (show false = true from hs) Bool.false_ne_true
  | str i =>
    obtain ⟨t, rfl⟩ := rx
    cases y with
    | non => cases ry; exact PySem.EqNone.eq_str_none (fin_bl I q (by simp))
    | bl j => cases ry; exact PySem.EqMixed.eq_str_bool (fin_bl I q (by simp))
    | int j => obtain ⟨t', rfl⟩ := ry; exact PySem.EqMixed.eq_str_int (fin_bl I q (by simp))
    | str j => obtain ⟨t', rfl⟩ := ry; exact eq_str (fin_bl I q dec_str)
    | _ => exact absurd (show false = true from hs) Bool.false_ne_true
  | byt i =>
    obtain ⟨t, rfl⟩ := rx
    cases y with
    | byt j => obtain ⟨t', rfl⟩ := ry; exact PySem.W.eq_bytes (fin_bl I q dec_byt)
    | _ => exact absurd (show false = true from hs) Bool.false_ne_true
  | _ => cases y <;> exact absurd (show false = true from hs) Bool.false_ne_true
theorem op_ne : OpR X (compareOp .NotEq) rNe := by
  intro pins s σ H x y v u Q I rx ry h
  obtain ⟨hs, q⟩ := h
  cases x with
  | non =>
    cases rx
    cases y with
    | non => cases ry; exact PySem.EqNone.ne_none_none (fin_bl I q (by simp))
    | bl j => cases ry; exact PySem.EqNone.ne_none_bool (fin_bl I q (by simp))
    | int j => obtain ⟨t', rfl⟩ := ry; exact PySem.EqNone.ne_none_int (fin_bl I q (by simp))
    | str j => obtain ⟨t', rfl⟩ := ry; exact PySem.EqNone.ne_none_str (fin_bl I q (by simp))
    | _ => exact absurd (show false = true from hs) Bool.false_ne_true
  | bl i =>
    cases rx
    cases y with
    | non => cases ry; exact PySem.EqNone.ne_bool_none (fin_bl I q (by simp))
    | bl j => cases ry; exact ne_bool (fin_bl I q (congrArg not dec_bl))
    | str j => obtain ⟨t', rfl⟩ := ry; exact PySem.EqMixed.ne_bool_str (fin_bl I q (by simp))
    | _ => exact absurd (show false = true from hs) Bool.false_ne_true
  | int i =>
    obtain ⟨t, rfl⟩ := rx
    cases y with
    | non => cases ry; exact PySem.EqNone.ne_int_none (fin_bl I q (by simp))
    | int j => obtain ⟨t', rfl⟩ := ry; exact ne_int (fin_bl I q (congrArg not dec_int))
    | str j => obtain ⟨t', rfl⟩ := ry; exact PySem.EqMixed.ne_int_str (fin_bl I q (by simp))
    | _ => exact absurd (show false = true from hs) Bool.false_ne_true
  | str i =>
    obtain ⟨t, rfl⟩ := rx
    cases y with
    | non => cases ry; exact PySem.EqNone.ne_str_none (fin_bl I q (by simp))
    | bl j => cases ry; exact PySem.EqMixed.ne_str_bool (fin_bl I q (by simp))
    | int j => obtain ⟨t', rfl⟩ := ry; exact PySem.EqMixed.ne_str_int (fin_bl I q (by simp))
    | str j => obtain ⟨t', rfl⟩ := ry; exact ne_str (fin_bl I q (congrArg not dec_str))
    | _ => exact absurd (show false = true from hs) Bool.false_ne_true
  | byt i =>
    obtain ⟨t, rfl⟩ := rx
    cases y with
    | byt j => obtain ⟨t', rfl⟩ := ry; exact PySem.W.ne_bytes (fin_bl I q (congrArg not dec_byt))
    | _ => exact absurd (show false = true from hs) Bool.false_ne_true
  | _ => cases y <;> exact absurd (show false = true from hs) Bool.false_ne_true

theorem op_lt : OpR X (compareOp .Lt) (rI0 fun i j => .bl (decide (i < j))) := opB0 fun _ _ _ _ _ _ _ q => lt_int q
theorem op_le : OpR X (compareOp .LtE) (rI0 fun i j => .bl (decide (i ≤ j))) := opB0 fun _ _ _ _ _ _ _ q => le_int q
theorem op_gt : OpR X (compareOp .Gt) (rI0 fun i j => .bl (decide (j < i))) := opB0 fun _ _ _ _ _ _ _ q => gt_int q
def isObj : HO → Bool
  | .lst _ => true
  | .ins _ _ _ => true
  | _ => false
theorem nomark (b : Expr) {op : CmpOp} (h : op ≠ .In := by decide) (h2 : op ≠ .NotIn := by decide) : behindInMarks op b = false := by
  have e1 : (op == CmpOp.In) = false := by cases op <;> first | rfl | exact absurd rfl h
  have e2 : (op == CmpOp.NotIn) = false := by cases op <;> first | rfl | exact absurd rfl h2
  cases b <;> simp [behindInMarks, e1, e2]
theorem pe_cmpR {op : CmpOp} {r : R2} (ho : OpR X (compareOp op) r) (ha : PE X a ta) (hb : PE X b tb) (hm : behindInMarks op b = false) : PE X (.Compare a [op] [b] pos) (tOp r ta tb) := by
  intro pins s σ H Q I h
  exact wpAny_Compare1 (binT ha hb I h fun v u s2 x y H2 I2 rx ry q => ho pins s2 σ H2 x y v u Q I2 rx ry q) hm
def tTest (t : TE) : TT := fun σ H Q => t σ H fun x H' => ∃ k, x = .bl k ∧ Q k H'
theorem pt_cmpR {op : CmpOp} {r : R2} (ho : OpR X (compareOp op) r) (ha : PE X a ta) (hb : PE X b tb) (hm : behindInMarks op b = false) : PT X (.Compare a [op] [b] pos) (tTest (tOp r ta tb)) := by
  intro pins s σ H Q I h
  refine wpAny_isTrue_Compare1 (thn (ha pins s σ H _ I h) fun v s1 ⟨x, H1, I1, r1, q1⟩ => thn (hb pins s1 σ H1 _ I1 q1) fun u s2 ⟨y, H2, I2, r2, q2⟩ =>
    thn (ho pins s2 σ H2 x y v u _ I2 r1 r2 q2) fun c s3 ⟨z, H3, I3, r3, k, e, q3⟩ => ?_) hm
  subst e
  cases r3
  exact wpAny_truthy_bool ⟨H3, I3, q3⟩
def tChain (r r' : R2) (ta tb tc : TE) : TE := fun σ H Q => ta σ H fun x H1 => tb σ H1 fun y H2 => r x y H2 fun z H3 => ∃ k, z = .bl k ∧
  (if k = true then tc σ H3 fun w' H4 => r' y w' H4 Q else Q (.bl false) H3)
def TruV (K : PySem.W.Frag) (x : V) (H : Hp) (k : Bool) : Prop :=
  match x with
  | .non => k = false
  | .bl b => k = b
  | .int i => k = (i != 0)
  | .str y => y.length ≤ sizeLine ∧ k = ((y.length : Int) != 0)
  | .byt y => y.size ≤ sizeLine ∧ k = ((y.size : Int) != 0)
  | .ref p => (∃ xs, SqL K H p xs ∧ k = !xs.isEmpty) ∨ (∃ xs, SqT K H p xs ∧ k = !xs.isEmpty) ∨ ∃ kvs, H p = some (.dK kvs) ∧ k = !kvs.isEmpty
  | _ => False
theorem line63 : (sizeLine : Nat) < 2 ^ 63 := by rw [sizeLine_eq]; decide
def PlainIxT (b : Expr) : Prop := ∀ o i, subscripted b false o i = operate [o, i] (getItem o i)
theorem vals1 {x : V} {us : List Value} (r : Vals [x] us) : ∃ u, us = [u] ∧ RelV x u := by
  cases r with
  | cons r1 r2 => cases r2; exact ⟨_, rfl, r1⟩
theorem call_abs : CallR X (.builtin "abs") (fun xs H Q => ∃ i, xs = [.int i] ∧ Q (.int (if i < 0 then -i else i)) H) := by
  intro pins s σ H xs us Q I r h
  obtain ⟨i, rfl, q⟩ := h
  obtain ⟨u, rfl, t, rfl⟩ := vals1 r
  exact call_abs_int fun u tk => ⟨.int (if i < 0 then -i else i), H, I.tok _, ⟨_, rfl⟩, q⟩
def LenV (K : PySem.W.Frag) (x : V) (H : Hp) (n : Nat) : Prop :=
  match x with
  | .str y => y.length ≤ sizeLine ∧ n = y.length
  | .byt y => y.size ≤ sizeLine ∧ n = y.size
  | .ref p => (∃ xs, SqL K H p xs ∧ n = xs.length) ∨ ∃ xs, SqT K H p xs ∧ n = xs.length
  | _ => False
end
end L2

namespace L2
open PySem PySem.Spec PyProof.Rows

structure ObjM (h : Heap) (x dx C : Addr) (mA : Str → Option Value) : Prop where
  obj : h.get? x = some (PySem.W.instObj C dx)
  ns : h.Ns1 dx mA
  ne : dx ≠ x

theorem lookIn_ns {h : Heap} {dx : Addr} {mA : Str → Option Value} (n : h.Ns1 dx mA) : ∃ od, h.get? dx = some od ∧ ∀ name, PySem.W.lookIn name od = some (mA name) := by
  obtain ⟨o, es, ep, ho, hd, hk, _, hm⟩ := n
  refine ⟨o, ho, fun name => ?_⟩
  have e := hm name
  unfold nsFind findBy at e
  rw [← Array.find?_toList] at e
  unfold PySem.W.lookIn
  rw [hd]
  dsimp only
  split
  · rename_i y q
    rw [q] at e
    exact congrArg some e
  · rename_i q
    rw [q] at e
    have a : es.toList.any (·.refKey) = false := by
      rw [List.any_eq_false]
      intro y hy
      obtain ⟨z, t, hkey⟩ := hk y (Array.mem_toList_iff.mp hy)
      simp [DictEntry.refKey, hkey]
    have a' : ¬ es.toList.any (·.refKey) = true := by rw [a]; exact Bool.false_ne_true
    rw [if_neg a']
    exact congrArg some e

theorem ObjM.look {h : Heap} {x dx C : Addr} {mA : Str → Option Value} (I : ObjM h x dx C mA) : ∃ od, PySem.W.InstAt h x (PySem.W.instObj C dx) C (some od) ∧ ∀ name, PySem.W.lookIn name od = some (mA name) :=
  let ⟨od, ho, hl⟩ := lookIn_ns I.ns
  ⟨od, ⟨I.obj, rfl, rfl, ho⟩, hl⟩

section
variable {prog : Program} {w : World} {A : Around} {E : Value → Shared → Prop} {s : Shared} {K : PySem.W.Frag} {x dx C f : Addr} {mA : Str → Option Value} {name : Str} {v : Value}

end

def putF (f : Str) (v : V) : List (Str × V) → List (Str × V)
  | [] => [(f, v)]
  | (g, x) :: r => if g = f then (g, v) :: r else (g, x) :: putF f v r
section
variable {P : Program} {w : World} {H H' : Hp} {h h' : Heap} {a C dx : Addr} {fs fs' : List (Str × V)}
theorem ins_get (hok : HOk P w H h) (e : H a = some (.ins C dx fs)) : ∃ mA, ObjM h a dx C mA ∧ (∀ f, RelO (fs.lookup f) (mA f)) ∧ PySem.Within mA (fs.map (·.1)) ∧ fs.length ≤ 1000 ∧ H dx = some (.own a) := by
  obtain ⟨d, z, ne, ob, mA, n, r, q⟩ := (show ObjOk P w H h a (.ins C dx fs) from hok a _ e)
  exact ⟨mA, ⟨ob, n, ne⟩, r, q, z, d⟩
end

structure Cls (K : PySem.W.Frag) (C : Addr) : Prop where
  pg : PySem.W.plainGet K C Str.empty = true
  hd : PySem.W.hasDictIn K C = true
  po : PySem.W.plainOver K C = true
  sa : PySem.W.findIn K (.ref C) "__setattr__" = some (some (.builtin "object.__setattr__"))
theorem Cls.get {K : PySem.W.Frag} {C : Addr} (c : Cls K C) (f : Str) : PySem.W.plainGet K C f = true := c.pg
def NoAttr (K : PySem.W.Frag) (C : Addr) (f : Str) : Prop := PySem.W.findIn K (.ref C) f = some none
structure Con (K : PySem.W.Frag) (C : Addr) (f : Str) (v : V) (u : Value) : Prop where
  at_ : PySem.W.findIn K (.ref C) f = some (some u)
  rel : RelV v u
  get : PySem.W.specialIn K u "__get__" = some none
  cp : PySem.W.copiedNames.contains f = false
structure Meth (K : PySem.W.Frag) (C : Addr) (m : Str) (f : Addr) : Prop where
  at_ : PySem.W.findIn K (.ref C) m = some (some (.ref f))
  fn : PySem.W.isFn K (.ref f) = true
  kp : PySem.W.keepIn K (.ref f) = true

section
variable {X : Cx} {pins : List (Addr × Obj)} {σ : St} {H : Hp} {s : Shared} {a C dx : Addr} {fs : List (Str × V)} {f : Str} {v : V} {A : Around} {E : Value → Shared → Prop}

end

def tFld (K : PySem.W.Frag) (ta : TE) (f : Str) : TE := fun σ H Q => ta σ H fun x H1 => ∃ a C dx fs v, x = .ref a ∧ H1 a = some (.ins C dx fs) ∧ Cls K C ∧ NoAttr K C f ∧ fs.lookup f = some v ∧ Q v H1
def tCon (K : PySem.W.Frag) (ta : TE) (f : Str) : TE := fun σ H Q => ta σ H fun x H1 => ∃ a C dx fs v u, x = .ref a ∧ H1 a = some (.ins C dx fs) ∧ Cls K C ∧ Con K C f v u ∧ fs.lookup f = none ∧ Q v H1
def sFld (K : PySem.W.Frag) (ta tv : TE) (f : Str) : TS := fun D σ H => tv σ H fun y H1 => ta σ H1 fun x H2 => ∃ a C dx fs, x = .ref a ∧ H2 a = some (.ins C dx fs) ∧ Cls K C ∧ NoAttr K C f ∧ fs.length < 1000 ∧
  D.nx σ (upd H2 a (.ins C dx (putF f y fs)))
def InOp (X : Cx) (op : Operator) (rd : V → V → Hp → VK → Prop) : Prop :=
  ∀ (pins : List (Addr × Obj)) (s : Shared) (σ : St) (H : Hp) (x y : V) (u v : Value) (Q : VK), Inv X pins σ H s → RelV x u → RelV y v → rd x y H Q → wpAny (model X.prog X.w) X.A (inplaceOp op u v) (EP X pins σ Q) X.xe s
def sFldAug (K : PySem.W.Frag) (ta tv : TE) (rd : V → V → Hp → VK → Prop) (f : Str) : TS := fun D σ H => ta σ H fun x H1 => ∃ a C dx fs v, x = .ref a ∧ H1 a = some (.ins C dx fs) ∧ Cls K C ∧ NoAttr K C f ∧ fs.lookup f = some v ∧
  tv σ H1 fun y H2 => rd v y H2 fun z H3 => ∃ dx' fs', H3 a = some (.ins C dx' fs') ∧ fs'.length < 1000 ∧ D.nx σ (upd H3 a (.ins C dx' (putF f z fs')))

section
variable {X : Cx} {o e value : Expr} {f : Str} {pos pos' tpos : Pos} {ta tv : TE}
def rAdd : V → V → Hp → VK → Prop := fun x y H Q => ∃ i j, x = .int i ∧ y = .int j ∧ Q (.int (i + j)) H
def rSub : V → V → Hp → VK → Prop := fun x y H Q => ∃ i j, x = .int i ∧ y = .int j ∧ Q (.int (i - j)) H
end

section
variable {X : Cx} {pins : List (Addr × Obj)} {σ : St} {H : Hp} {s : Shared} {A : Around} {E : Value → Shared → Prop} {Q : Value → Shared → Prop} {c : Value} {b : Bool}
inductive TyOf (K : PySem.W.Frag) (H : Hp) : V → Value → Prop where
  | non : TyOf K H .non (.type "NoneType")
  | bl (x : Bool) : TyOf K H (.bl x) (.type "bool")
  | int (i : Int) : TyOf K H (.int i) (.type "int")
  | str (x : Str) : TyOf K H (.str x) (.type "str")
  | flt (x : UInt64) : TyOf K H (.flt x) (.type "float")
  | lst {a : Addr} {xs : List V} (e : H a = some (.lst xs)) : TyOf K H (.ref a) (.type "list")
  | frz {a : Addr} {o : Obj} {xs : List V} (e : H a = some (.frz o (.lst xs))) : TyOf K H (.ref a) (.type "list")
  | tup {a : Addr} {xs : List V} (e : H a = some (.tup xs)) : TyOf K H (.ref a) (.type "tuple")
  | dK {a : Addr} {kvs : List (Key × V)} (e : H a = some (.dK kvs)) : TyOf K H (.ref a) (.type "dict")
  | dT {a : Addr} {kvs : List (List Key × V)} (e : H a = some (.dT kvs)) : TyOf K H (.ref a) (.type "dict")
  | ins {a C dx : Addr} {fs : List (Str × V)} (e : H a = some (.ins C dx fs)) (cl : Cls K C) (ha : PySem.W.findIn K (.ref C) "__class__" = some (some (.builtin "object.__class__")))
      (hn : PySem.W.specialIn K (.builtin "object.__class__") "__get__" = some (some (.builtin "getset_descriptor.__get__"))) (htk : PySem.W.takesIn K (.builtin "object.__class__") = some true)
      (hm : PySem.W.mroIn K C (.type "object") = some true) : TyOf K H (.ref a) (.ref C)
theorem isinst_ok {x : V} {u t : Value} (I : Inv X pins σ H s) (rx : RelV x u) (ty : TyOf X.K H x t) (e : PySem.W.kitOne X.K t c = some b) (h : ∀ tk, Q (.bool b) { s with toks := tk }) :
    wpAny (model X.prog X.w) A (call (.builtin "isinstance") [u, c]) Q E s := by
  cases ty with
  | non => cases (show u = Value.none from rx); exact PySem.W.kia_one PySem.W.kitx_none I.kIn True.intro e (fun z => nomatch z) h
  | bl y => cases (show u = Value.bool y from rx); exact PySem.W.kia_one PySem.W.kitx_bool I.kIn True.intro e (fun z => nomatch z) h
  | int i => obtain ⟨t, q⟩ := (show ∃ t, u = Value.int i t from rx); cases q; exact PySem.W.kia_one PySem.W.kitx_int I.kIn True.intro e (fun z => nomatch z) h
  | str y => obtain ⟨t, q⟩ := (show ∃ t, u = Value.str y t from rx); cases q; exact PySem.W.kia_one PySem.W.kitx_str I.kIn True.intro e (fun z => nomatch z) h
  | flt y => obtain ⟨t, q⟩ := (show ∃ t, u = Value.float y t from rx); cases q; exact PySem.W.kia_one PySem.W.kitx_float I.kIn True.intro e (fun z => nomatch z) h
  | @lst a xs ea =>
    cases (show u = Value.ref a from rx)
    obtain ⟨_, _, n, _, h1⟩ := (show ObjOk X.prog X.w H s.heap a (.lst xs) from I.hok a _ ea)
    exact PySem.W.kia_one PySem.W.kitx_list I.kIn ⟨_, h1, rfl⟩ e (fun z => nomatch z) h
  | @frz a ob xs ea =>
    cases (show u = Value.ref a from rx)
    obtain ⟨_, _, _, n, _, h1⟩ := (show ObjOk X.prog X.w H s.heap a (.frz ob (.lst xs)) from I.hok a _ ea)
    exact PySem.W.kia_one PySem.W.kitx_list I.kIn ⟨_, h1, rfl⟩ e (fun z => nomatch z) h
  | @tup a xs ea =>
    cases (show u = Value.ref a from rx)
    obtain ⟨_, _, _, p⟩ := (show ObjOk X.prog X.w H s.heap a (.tup xs) from I.hok a _ ea)
    obtain ⟨o, h1, h2, _⟩ := p
    exact PySem.W.kia_one PySem.W.kitx_tuple I.kIn ⟨o, h1, h2⟩ e (fun z => nomatch z) h
  | @dK a kvs ea =>
    cases (show u = Value.ref a from rx)
    obtain ⟨_, _, vs, _, p⟩ := (show ObjOk X.prog X.w H s.heap a (.dK kvs) from I.hok a _ ea)
    obtain ⟨o, es, ep, h1, h2, _⟩ := p
    exact PySem.W.kia_one PySem.W.kitx_dict I.kIn ⟨o, h1, h2.1⟩ e (fun z => nomatch z) h
  | @dT a kvs ea =>
    cases (show u = Value.ref a from rx)
    obtain ⟨_, _, xs, _, o, es, ep, h1, h2, _⟩ := (show ObjOk X.prog X.w H s.heap a (.dT kvs) from I.hok a _ ea)
    exact PySem.W.kia_one PySem.W.kitx_dict I.kIn ⟨o, h1, h2.1⟩ e (fun z => nomatch z) h
  | @ins a C dx fs ea cl ha hn htk hm =>
    cases (show u = Value.ref a from rx)
    obtain ⟨mA, O, _⟩ := ins_get I.hok ea
    obtain ⟨od, J, _⟩ := O.look
    exact PySem.W.kia_one (PySem.W.kitx_own (cl.get _) cl.hd ha hn htk hm) I.kIn J e (fun z => nomatch z) h
end
end L2

namespace L2
open PySem PySem.Spec PyProof.Rows

structure Room (k : Nat) (A : Around) : Prop where
  hd : A.handled = none
  dp : A.depth + 3 * k + 5 < recursionLimit
  un : A.units + 16 * k + 200 < cLine
theorem Room.mono {j k : Nat} {A : Around} (r : Room k A) (h : j ≤ k) : Room j A := ⟨r.hd, by have := r.dp; omega, by have := r.un; omega⟩
theorem Room.deeper {k : Nat} {A : Around} (r : Room (k + 1) A) (env : Env) : Room k (A.deeper env) :=
  ⟨r.hd, by have := r.dp; show A.depth + 1 + 3 * k + 5 < _; omega, by have := r.un; show A.units + 3 + 16 * k + 200 < _; omega⟩
theorem Room.depth {k : Nat} {A : Around} (r : Room k A) : A.depth < recursionLimit := by have := r.dp; omega
def tNil : TA := fun _ H Q => Q [] H
def tCons (ta : TE) (tr : TA) : TA := fun σ H Q => ta σ H fun x H1 => tr σ H1 fun xs H2 => Q (x :: xs) H2
section
variable {X : Cx} {e : Expr} {es : List Expr} {te : TE} {t : TA} {pos : Pos}
theorem pa_nil : PA X [] tNil := fun _ _ _ _ H Q I h => Calls.spliced_nil ⟨[], H, I, .nil, h⟩
theorem pa_cons (ha : PE X e te) (hr : PA X es t) (hs : starEach (e :: es) X.env = (false, eval e X.env) :: starEach es X.env := by rfl) : PA X (e :: es) (tCons te t) := by
  intro pos pins s σ H Q I h
  rw [hs]
  show wpAny _ _ (spliced ((false, eval e X.env) :: backTo pos (starEach es X.env))) _ _ s
  refine Calls.spliced_cons (thn (ha pins s σ H _ I h) fun u s1 ⟨x, H1, I1, r1, q1⟩ => ?_)
  exact thn (hr pos pins s1 σ H1 _ I1 q1) fun us s2 ⟨xs, H2, I2, r2, q2⟩ => ⟨x :: xs, H2, I2, .cons r1 r2, q2⟩

def tTup (t : TA) : TE := fun σ H Q => t σ H fun xs H1 => xs.length ≤ sizeLine ∧ ∀ p, H1 p = none → Q (.ref p) (upd H1 p (.tup xs))
def tLst (t : TA) : TE := fun σ H Q => t σ H fun xs H1 => xs.length ≤ sizeLine ∧ ∀ p, H1 p = none → Q (.ref p) (upd H1 p (.lst xs))
theorem pe_tup {x1} (h : PA X es t) : PE X (.Tuple es x1 pos) (tTup t) := by
  intro pins s σ H Q I hq
  refine wpAny_Tuple_spliced (thn (h pos pins s σ H _ I hq) fun us s1 ⟨xs, H1, I1, r, z, q⟩ => ⟨by rw [← r.length]; exact z, ?_⟩)
  have hf : H1 s1.heap.objs.size = none := I1.hok.fresh (Nat.le_refl _)
  refine ⟨.ref s1.heap.objs.size, upd H1 s1.heap.objs.size (.tup xs), I1.laid (t' := s1.toks) (fun b u e => Heap.get?_push_of_some _ e) (Nat.le_refl _) ?_, rfl, q _ hf⟩
  exact ⟨z, us, r, ⟨_, Heap.get?_push_size _ rfl, rfl, _, rfl⟩⟩
theorem pe_lst (h : PA X es t) : PE X (.List es pos) (tLst t) := by
  intro pins s σ H Q I hq
  refine wpAny_List_spliced (thn (h pos pins s σ H _ I hq) fun us s1 ⟨xs, H1, I1, r, z, q⟩ => ⟨by rw [← r.length]; exact z, ?_⟩)
  have hf : H1 s1.heap.objs.size = none := I1.hok.fresh (Nat.le_refl _)
  refine ⟨.ref s1.heap.objs.size, upd H1 s1.heap.objs.size (.lst xs), I1.laid (t' := s1.toks) (fun b u e => Heap.get?_push_of_some _ e) (Nat.le_refl _) ?_, rfl, q _ hf⟩
  exact ⟨z, us, 0, r, Heap.get?_push_size _ rfl⟩
end

abbrev Sp := List V → Hp → VK → XK → Prop
abbrev CXT := List Env → Hp → Shared → XK → Value → Shared → Prop

structure Env0 (P : Program) (w : World) (K : PySem.W.Frag) (mg : Str → Option Value) (base : Heap) (A : Around) (outer : List Env) (s : Shared) (H : Hp) : Prop where
  frames : A.frames = some outer
  mod : Mod K mg base
  bs : ∀ b o, base.get? b = some o → s.heap.get? b = some o ∧ H b = none
  bsz : base.objs.size ≤ s.heap.objs.size
  funs : s.heap.FunFrames base outer
  frf : ∀ b ∈ frs outer, H b = none
  hok : HOk P w H s.heap
  bare : AllBare s.gens
def CE (outer : List Env) (P : Program) (w : World) (H : Hp) (s : Shared) (Q : VK) (u : Value) (s' : Shared) : Prop :=
  ∃ v H', s'.os = s.os ∧ AllBare s'.gens ∧ Un (frs outer) [] H H' s.heap s'.heap ∧ HOk P w H' s'.heap ∧ RelV v u ∧ Q v H'
def CR (CX : CXT) (outer : List Env) (P : Program) (w : World) (H : Hp) (s : Shared) (Q : VK) (E : XK) (r : Result) (s' : Shared) : Prop :=
  match r with
  | .ok (.ret u) => CE outer P w H s Q u s'
  | .ok _ => False
  | .error e => CX outer H s E e s'
structure FnOk (P : Program) (w : World) (K : PySem.W.Frag) (mg : Str → Option Value) (base : Heap) (CX : CXT) (k : Nat) (f : Addr) (fd : FuncData) (ps : List Str) (sp : Sp) : Prop where
  len : ∀ vs H Q E, sp vs H Q E → vs.length = ps.length
  run : ∀ (A : Around) (outer : List Env) (s : Shared) (H : Hp) (args : Args) (us : List Value) (vs : List V) (Q : VK) (E : XK), Room k A → Env0 P w K mg base A outer s H → BindsTo s fd args (ps.zip us) → Vals vs us → sp vs H Q E →
    codeAny (model P w) A (.call (.ref f) args) (CR CX outer P w H s Q E) s
section
variable {X : Cx} {pins : List (Addr × Obj)} {σ : St} {H : Hp} {s s' : Shared}
theorem Inv.env0 (I : Inv X pins σ H s) : Env0 X.prog X.w X.K X.mg X.base X.A X.stack s H :=
  ⟨I.ok.frames, I.ok.mod, I.bs, Nat.le_trans I.ok.bsz I.sz, I.stack, I.stkFree, I.hok, I.bare⟩
theorem Inv.after {Q : VK} {u : Value} (I : Inv X pins σ H s) (h : CE X.stack X.prog X.w H s Q u s') : EP X pins σ Q u s' := by
  obtain ⟨v, H', os, bare, un, hok, r, q⟩ := h
  obtain ⟨hh, g, d, t, os'⟩ := s'
  obtain rfl : os' = s.os := os
  exact ⟨v, H', I.call (h' := hh) (g' := g) (d' := d) (t' := t) (ch := []) un hok bare (fun b z => absurd z (by simp)), r, q⟩
end

def tCall (sp : Sp) (dvs : List V) (E : XK) (t : TA) : TE := fun σ H Q => t σ H fun vs H1 => sp (vs ++ dvs) H1 Q E
def tMeth (C : Addr) (m : Str) (sp : Sp) (dvs : List V) (E : XK) (ta : TE) (t : TA) : TE := fun σ H Q => ta σ H fun x H1 => ∃ a dx fs, x = .ref a ∧ H1 a = some (.ins C dx fs) ∧ fs.lookup m = none ∧
  t σ H1 fun vs H2 => sp (x :: (vs ++ dvs)) H2 Q E
def tMake (C : Addr) (sp : Sp) (dvs : List V) (E : XK) (t : TA) : TE := fun σ H Q => t σ H fun vs H1 => ∀ x dx, H1 x = none → H1 dx = none → dx ≠ x →
  sp (.ref x :: (vs ++ dvs)) (upd (upd H1 dx (.own x)) x (.ins C dx [])) (fun v H2 => v = .non ∧ Q (.ref x) H2) E

def Binds (K : PySem.W.Frag) (fd : FuncData) (ps : List Str) (ds : List Value) : Prop :=
  ∀ (s : Shared) (us : List Value), K.In s.heap → (us ++ ds).length = ps.length → BindsTo s fd ⟨us, []⟩ (ps.zip (us ++ ds))
theorem Binds.all {K : PySem.W.Frag} {fd : FuncData} {ps : List Str} (h : ∀ us : List Value, us.length = ps.length → bindArgs fd ⟨us, []⟩ = pure (ps.zip us)) : Binds K fd ps [] := fun s us _ hl => by
  rw [List.append_nil] at hl ⊢
  exact .of_eq (h us hl)

def Passes (CX : CXT) (X : Cx) (E : XK) : Prop := ∀ (pins : List (Addr × Obj)) (σ : St) (H : Hp) (s : Shared) (e : Value) (s' : Shared), Inv X pins σ H s → CX X.stack H s E e s' → X.xe e s'

section
variable {X : Cx} {CX : CXT} {k : Nat} {f C : Addr} {fd : FuncData} {ps : List Str} {sp : Sp} {dvs : List V} {ds : List Value} {E : XK} {x m : Str} {p pos apos : Pos} {e o : Expr} {es : List Expr} {ta : TE} {t : TA}

theorem run_fn {pins : List (Addr × Obj)} {σ : St} {H : Hp} {s : Shared} {Q : VK} {us : List Value} {vs : List V} (F : FnOk X.prog X.w X.K X.mg X.base CX k f fd ps sp) (hr : Room k X.A) (hb : Binds X.K fd ps ds) (hd : Vals dvs ds) (hx : Passes CX X E)
    (I : Inv X pins σ H s) (r : Vals vs us) (h : sp (vs ++ dvs) H Q E) : wpAny (model X.prog X.w) X.A (call (.ref f) us) (EP X pins σ Q) X.xe s := by
  have r2 : Vals (vs ++ dvs) (us ++ ds) := r.append hd
  have hl : (us ++ ds).length = ps.length := by rw [← r2.length]; exact F.len _ _ _ _ h
  refine wpAny_call (codeAny_mono (F.run X.A X.stack s H ⟨us, []⟩ (us ++ ds) (vs ++ dvs) Q E hr I.env0 (hb s us I.kIn hl) r2 h) fun r s' hq => ?_)
  cases r with
  | error e => exact hx pins σ H s e s' I hq
  | ok fl =>
    cases fl with
    | ret u => exact I.after hq
    | next => exact False.elim hq
    | brk => exact False.elim hq
    | cont => exact False.elim hq

theorem pe_call (F : FnOk X.prog X.w X.K X.mg X.base CX k f fd ps sp) (hr : Room k X.A) (hg : Gl X x) (hm : X.mg x = some (.ref f)) (hk : PySem.W.keepIn X.K (.ref f) = true) (hb : Binds X.K fd ps ds) (hd : Vals dvs ds) (hx : Passes CX X E)
    (ha : PA X (e :: es) t) (hdb : (x == ("__debug__" : Str)) = false := by decide) (he : starEach (e :: es) X.env = (false, eval e X.env) :: starEach es X.env := by rfl) (hpl : (backTo pos (starEach es X.env)).any (·.1) = false := by rfl) :
    PE X (.Call (.Name x p) (e :: es) [] pos) (tCall sp dvs E t) := by
  intro pins s σ H Q I h
  refine wpAny_Call_Name_kw (ld_glob I hg hm ?_ hdb)
  refine PySem.W.callWith_K (h₀ := X.base) I.ok.mod.kin hk (thn (ha pos pins s σ H _ I h) fun us s1 ⟨vs, H1, I1, r, q⟩ => ⟨I1.kIn, ?_⟩) he hpl
  exact run_fn F hr hb hd hx I1 r q
theorem pe_call0 (F : FnOk X.prog X.w X.K X.mg X.base CX k f fd ps sp) (hr : Room k X.A) (hg : Gl X x) (hm : X.mg x = some (.ref f)) (hk : PySem.W.keepIn X.K (.ref f) = true) (hb : Binds X.K fd ps ds) (hd : Vals dvs ds) (hx : Passes CX X E)
    (hdb : (x == ("__debug__" : Str)) = false := by decide) : PE X (.Call (.Name x p) [] [] pos) (tCall sp dvs E tNil) := by
  intro pins s σ H Q I h
  refine wpAny_Call_Name_kw (ld_glob I hg hm ?_ hdb)
  exact PySem.W.callWith_K0 I.kIn hk (run_fn (us := []) F hr hb hd hx I .nil h)

structure Mk (K : PySem.W.Frag) (C f : Addr) : Prop where
  makes : PySem.W.makesIn K C = true
  init : PySem.W.findIn K (.ref C) "__init__" = some (some (.ref f))
  fn : PySem.W.isFn K (.ref f) = true
  kp : PySem.W.keepIn K (.ref C) = true

end

def PK (X : Cx) (kws : List Keyword) (t : TA) : Prop :=
  ∀ (pos : Pos) (pins : List (Addr × Obj)) (s : Shared) (σ : St) (H : Hp) (Q : List V → Hp → Prop), Inv X pins σ H s → t σ H Q → wpAny (model X.prog X.w) X.A (evalAll ((backToKw pos (keywordEach kws X.env)).map (·.2))) (AP X pins σ Q) X.xe s
section
variable {X : Cx} {CX : CXT} {k : Nat} {f C : Addr} {fd : FuncData} {ps ks : List Str} {sp : Sp} {E : XK} {x m : Str} {p pos apos kpos : Pos} {e o : Expr} {es : List Expr} {kws : List Keyword} {te ta : TE} {t tk : TA} {nm : Option Str}
structure KBinds (K : PySem.W.Frag) (fd : FuncData) (ps ks : List Str) (g : List Value → List Value → List Value) (gV : List V → List V → List V) : Prop where
  to : ∀ (s : Shared) (us ws : List Value), K.In s.heap → (g us ws).length = ps.length → BindsTo s fd ⟨us, ks.zip ws⟩ (ps.zip (g us ws))
  rel : ∀ {vs : List V} {us : List Value} {zs : List V} {ws : List Value}, Vals vs us → Vals zs ws → Vals (gV vs zs) (g us ws)
def tCallK (sp : Sp) (gV : List V → List V → List V) (E : XK) (t tk : TA) : TE := fun σ H Q => t σ H fun vs H1 => tk σ H1 fun zs H2 => sp (gV vs zs) H2 Q E
variable {g : List Value → List Value → List Value} {gV : List V → List V → List V}
end

structure FnScope (N P : List Str) (sc : Scope) : Prop where
  kind : sc.kind = .function
  co : sc.isCoroutine = false
  gen : sc.isGenerator = false
  nd : N.Nodup
  pre : N.take P.length = P
  par : ∀ x ∈ P, sc.names.lookup x = some .local ∨ sc.names.lookup x = some .cell
  nofree : ∀ y ∈ sc.names, y.2 ≠ .free

theorem bindL_out {kindOf : Str → Option NameKind} {x : Str} : ∀ {binds : List (Str × Value)} {m : Str → Option Value}, (∀ v, (x, v) ∉ binds) → bindL kindOf binds m x = m x
  | [], _, _ => rfl
  | (n, v) :: r, m, h => by
    unfold bindL
    rw [bindL_out fun w hw => h w (List.mem_cons_of_mem _ hw)]
    split
    · have : x ≠ n := by rintro rfl; exact h v List.mem_cons_self
      simp [this]
    · rfl
theorem bindC_out {kindOf : Str → Option NameKind} {x : Str} : ∀ {binds : List (Str × Value)} {m : Str → Option Value}, (∀ v, (x, v) ∉ binds) → bindC kindOf binds m x = m x
  | [], _, _ => rfl
  | (n, v) :: r, m, h => by
    unfold bindC
    rw [bindC_out fun w hw => h w (List.mem_cons_of_mem _ hw)]
    split
    · rfl
    · have : x ≠ n := by rintro rfl; exact h v List.mem_cons_self
      simp [this]
theorem bindL_get {kindOf : Str → Option NameKind} {x : Str} {v : Value} : ∀ {P : List Str} {vs : List Value} {i : Nat} {m : Str → Option Value}, P.Nodup → P[i]? = some x → vs[i]? = some v → kindOf x = some .local →
    bindL kindOf (P.zip vs) m x = some v
  | [], _, _, _, _, h, _, _ => by simp at h
  | _ :: _, [], _, _, _, _, h, _ => by simp at h
  | p :: P, w :: vs, 0, m, nd, h1, h2, hk => by
    simp at h1 h2; subst h1; subst h2
    show bindL kindOf ((p, w) :: P.zip vs) m p = _
    unfold bindL
    rw [bindL_out fun v hv => (List.nodup_cons.mp nd).1 (List.of_mem_zip hv).1, if_pos hk]
    simp
  | p :: P, w :: vs, i + 1, m, nd, h1, h2, hk => by
    show bindL kindOf ((p, w) :: P.zip vs) m x = _
    unfold bindL
    exact bindL_get (i := i) (List.nodup_cons.mp nd).2 (by simpa using h1) (by simpa using h2) hk
theorem bindC_get {kindOf : Str → Option NameKind} {x : Str} {v : Value} : ∀ {P : List Str} {vs : List Value} {i : Nat} {m : Str → Option Value}, P.Nodup → P[i]? = some x → vs[i]? = some v → kindOf x ≠ some .local →
    bindC kindOf (P.zip vs) m x = some v
  | [], _, _, _, _, h, _, _ => by simp at h
  | _ :: _, [], _, _, _, _, h, _ => by simp at h
  | p :: P, w :: vs, 0, m, nd, h1, h2, hk => by
    simp at h1 h2; subst h1; subst h2
    show bindC kindOf ((p, w) :: P.zip vs) m p = _
    unfold bindC
    rw [bindC_out fun v hv => (List.nodup_cons.mp nd).1 (List.of_mem_zip hv).1, if_neg hk]
    simp
  | p :: P, w :: vs, i + 1, m, nd, h1, h2, hk => by
    show bindC kindOf ((p, w) :: P.zip vs) m x = _
    unfold bindC
    exact bindC_get (i := i) (List.nodup_cons.mp nd).2 (by simpa using h1) (by simpa using h2) hk

def start (N : List Str) (vs : List V) : St := vs.map some ++ List.replicate (N.length - vs.length) none

def cxOf (CX : CXT) (P : Program) (w : World) (K : PySem.W.Frag) (mg : Str → Option Value) (base : Heap) (N : List Str) (qual : Str) (scope : Scope) (f : Addr) (cd : Value) (A : Around) (outer : List Env) (s : Shared) (H : Hp) (E : XK) : Cx where
  prog := P
  w := w
  K := K
  mg := mg
  base := base
  A := A.deeper (envOfC qual scope s.heap.objs.size f cd)
  N := N
  s₀ := s
  H₀ := H
  env := envOfC qual scope s.heap.objs.size f cd
  outer := outer
  stack := envOfC qual scope s.heap.objs.size f cd :: outer
  ex := []
  calm := true
  fn := fun _ => true
  pn := []
  xe := fun e s' => wpAny (model P w) (A.deeper (envOfC qual scope s.heap.objs.size f cd)) (leaving (envOfC qual scope s.heap.objs.size f cd) e) (fun _ s'' => CX outer H s E e s'') (fun e' s'' => CX outer H s E e' s'') s'

theorem cell_has {sc : Scope} {n : Nat} {x : Str} (h : sc.names.lookup x = some .cell) : ∃ c, (cellsFrom n sc.names []).lookup x = some c := by
  have q := PySem.W.cellsFrom_some sc.names n [] (.inl h)
  exact Option.isSome_iff_exists.mp q

theorem inv_start {CX : CXT} {P : Program} {w : World} {K : PySem.W.Frag} {mg : Str → Option Value} {base : Heap} {N ps : List Str} {qual : Str} {scope : Scope} {f : Addr} {cd : Value} {A : Around} {outer : List Env} {s s1 : Shared} {H : Hp} {E : XK} {us : List Value} {vs : List V}
    (S : FnScope N ps scope) (hd : A.handled = none) (e0 : Env0 P w K mg base A outer s H) (hl : vs.length = ps.length) (r : Vals vs us)
    (x : InCallC s s.heap.objs.size (bindL (envOfC qual scope s.heap.objs.size f cd).kindOf (ps.zip us) fun _ => none) (cellsFrom (s.heap.objs.size + 1) scope.names []) (bindC (envOfC qual scope s.heap.objs.size f cd).kindOf (ps.zip us) fun _ => none) s1) :
    Inv (cxOf CX P w K mg base N qual scope f cd A outer s H E) [] (start N vs) H s1 := by
  have hpl : ps.length ≤ N.length := by have := congrArg List.length S.pre; rw [List.length_take] at this; omega
  obtain ⟨h1, tk, rfl, hk⟩ := x.done
  have noA : ∀ b : Addr, b ∉ (cxOf CX P w K mg base N qual scope f cd A outer s H E).ex := fun b z => absurd (show b ∈ ([] : List Addr) from z) (by simp)
  refine ⟨⟨e0.mod, S.kind, rfl, rfl, Nat.le_refl _, fun y z c h1 h2 => ?_, fun y hy => ?_, fun y c _ h => ?_, fun _ => hd, Around.frames_deeper e0.frames, .inr ⟨rfl, rfl⟩, fun b z => absurd z (noA b), e0.bs, e0.bsz, fun b _ _ => noA b, fun b z => absurd z (noA b), e0.funs, e0.frf⟩,
    rfl, e0.bare, Un.kept hk, ⟨_, x.toInCall.ns, fun i y v h1 h2 h3 => ?_⟩, fun y c h => ⟨_, x.cell y c h⟩, e0.hok.fresh (Nat.le_refl _), fun y c h => ?_, fun p hp => absurd (show p ∈ ([] : List (Addr × Obj)) from hp) (by simp), e0.hok.kept hk, ?_⟩
  · exact name_of_addr x.apart (PySem.mem_of_lookup h1) (PySem.mem_of_lookup h2)
  · have hy : scope.names.lookup y = some .cell ∨ scope.names.lookup y = some .free := hy
    rcases hy with hy | hy
    · exact cell_has hy
    · exact absurd rfl (S.nofree _ (PySem.mem_of_lookup hy))
  · exact Nat.le_of_lt (x.above y c (PySem.mem_of_lookup h))
  · have hi : i < vs.length := by
      unfold start at h2
      by_cases hi : i < vs.length
      · exact hi
      · rw [List.getElem?_append_right (by simpa using hi)] at h2
        rw [List.getElem?_replicate] at h2
        split at h2 <;> cases h2
    have ha : vs[i]? = some v := by
      unfold start at h2
      rw [List.getElem?_append_left (by simpa using hi), List.getElem?_map] at h2
      cases e : vs[i]? with
      | none => rw [e] at h2; cases h2
      | some a => rw [e] at h2; cases h2; rfl
    obtain ⟨u, hu, rv⟩ := r.get ha
    have hp : ps[i]? = some y := by
      rw [← S.pre, List.getElem?_take_of_lt (by omega)]; exact h1
    have ndP : ps.Nodup := by rw [← S.pre]; exact S.nd.sublist (List.take_sublist _ _)
    refine ⟨u, rv, ?_⟩
    rcases S.par y (List.mem_of_getElem? hp) with k | k
    · exact .inl ⟨k, bindL_get ndP hp hu k⟩
    · obtain ⟨c, e⟩ := cell_has (n := s.heap.objs.size + 1) k
      refine .inr ⟨.inl k, c, e, ?_⟩
      have q := x.cell y c e
      rw [bindC_get ndP hp hu (by show scope.names.lookup y ≠ _; rw [k]; decide)] at q
      exact q
  · exact e0.hok.fresh (Nat.le_of_lt (x.above y c (PySem.mem_of_lookup h)))
  · unfold start
    show _ = N.length
    rw [List.length_append, List.length_map, List.length_replicate]
    omega

theorem fn_of {CX : CXT} {P : Program} {w : World} {K : PySem.W.Frag} {mg : Str → Option Value} {base : Heap} {k : Nat} {f : Addr} {name qual : Str} {params : Arguments} {body : List Stmt} {scope : Scope} {dV kV doc pm cdv ct oc : Value} {an od : Option Addr}
    {osl : Array (Option Value)} {N ps : List Str} {sp : Sp} (lk : K.lookup f = some ⟨oc, od, .func (PySem.W.fnOf name qual params body scope dV kV doc pm an cdv ct), osl⟩) (hcd : PySem.W.codeIn K cdv qual = true) (S : FnScope N ps scope)
    (len : ∀ vs H Q E, sp vs H Q E → vs.length = ps.length)
    (hbody : ∀ (A : Around) (outer : List Env) (s : Shared) (H : Hp) (vs : List V) (Q : VK) (E : XK), Room k (A.deeper (envOfC qual scope s.heap.objs.size f cdv)) → sp vs H Q E →
      ∃ t, PSs (cxOf CX P w K mg base N qual scope f cdv A outer s H E) body t ∧ t { nx := fun _ H' => Q .non H', rt := Q } (start N vs) H) :
    FnOk P w K mg base CX (k + 1) f (PySem.W.fnOf name qual params body scope dV kV doc pm an cdv ct) ps sp := by
  refine ⟨len, fun A outer s H args us vs Q E hr e0 hb r hsp => ?_⟩
  have hl := len _ _ _ _ hsp
  have KX : K.In s.heap := e0.mod.kin.keeps fun b o e => (e0.bs b o e).1
  have lim : s.heap.NoLimit := e0.mod.nolimit.keeps fun b o e => (e0.bs b o e).1
  have hkind : ∀ y ∈ ps.zip us, scope.names.lookup y.1 = some .local ∨ (scope.names.lookup y.1 = some .cell ∧ ((cellsFrom (s.heap.objs.size + 1) scope.names []).lookup y.1).isSome = true) := fun ⟨n, v⟩ hy => by
    rcases S.par n (List.of_mem_zip hy).1 with q | q
    · exact .inl q
    · exact .inr ⟨q, PySem.W.cellsFrom_some _ _ _ (.inl q)⟩
  refine codeAny_call_function hr.depth (KX _ _ lk) rfl S.co S.gen rfl (PySem.W.codeRec_of KX hcd) (hb _ _ _ _ ?_)
  refine wpAny_newFunctionEnv_cells S.kind hkind fun env he s1 x => ?_
  subst he
  refine ⟨lim.keeps x.toInCall.keep, codeAny_func ?_⟩
  obtain ⟨t, ht, hq⟩ := hbody A outer s H vs Q E (hr.deeper _) hsp
  have I : Inv (cxOf CX P w K mg base N qual scope f cdv A outer s H E) [] (start N vs) H s1 := inv_start S hr.hd e0 hl r x
  refine wpAny_mono (ht [] s1 (start N vs) H _ I hq) (fun fl s' hs => ?_) fun e s' hs => hs
  have fin : ∀ {σ' : St} {H' : Hp} {v : V} {u : Value}, Inv (cxOf CX P w K mg base N qual scope f cdv A outer s H E) [] σ' H' s' → RelV v u → Q v H' → CE outer P w H s Q u s' :=
    fun {σ' H' v u} J rv q => ⟨v, H', J.os, J.bare, J.base, J.hok, rv, q⟩
  cases fl with
  | ret u =>
    obtain ⟨v, σ', H', J, rv, q⟩ := hs
    exact fin J rv q
  | next =>
    obtain ⟨σ', H', J, q⟩ := hs
    exact fin (v := V.non) (u := Value.none) J rfl q
  | brk =>
    obtain ⟨_, _, _, q⟩ := hs
    exact False.elim q
  | cont =>
    obtain ⟨_, _, _, q⟩ := hs
    exact False.elim q
end L2

namespace L2
open PySem PySem.Spec PyProof.Rows
section
variable {X : Cx} {x : Str} {p pos : Pos} {e : Expr} {es : List Expr} {t : TA} {id T : String} {r : List V → Hp → VK → Prop}

def tCB (r : List V → Hp → VK → Prop) (t : TA) : TE := fun σ H Q => t σ H fun vs H1 => r vs H1 Q
theorem pe_callB (hc : CallR X (.builtin id) r) (hg : Gl X x) (hm : X.mg x = none) (hv : bootBuiltins x = some (.builtin id)) (ha : PA X (e :: es) t) (hn : x ≠ "__name__" := by decide) (hdb : (x == ("__debug__" : Str)) = false := by decide)
    (he : starEach (e :: es) X.env = (false, eval e X.env) :: starEach es X.env := by rfl) (hpl : (backTo pos (starEach es X.env)).any (·.1) = false := by rfl) : PE X (.Call (.Name x p) (e :: es) [] pos) (tCB r t) := by
  intro pins s σ H Q I h
  refine wpAny_Call_Name_kw (ld_blt I hg hm hv ?_ hn hdb)
  exact PyProof.Rows.callWith_builtin1 (thn (ha pos pins s σ H _ I h) fun us s1 ⟨vs, H1, I1, r1, q1⟩ => hc pins s1 σ H1 vs us Q I1 r1 q1) he hpl
end
end L2

namespace HT
open PySem PyProof.Rows

def lexLt : List Int → List Int → Bool
  | [], [] => false
  | [], _ :: _ => true
  | _ :: _, [] => false
  | x :: xs, y :: ys => if x = y then lexLt xs ys else decide (x < y)
section
open PySem.SeqAt
open PySem.AutoSeq1 (wpAny_loadPart')
open PySem.MeetsSeq PySem.MeetsSeq2 PySem.MeetsSeq3

end

section
variable {prog : Program} {w : World} {A : Around} {E : Value → Shared → Prop} {s : Shared}

def sIx (n d : Nat) : Option Int → Nat
  | none => d
  | some v => if v < 0 then (v + (n : Int)).toNat else min v.toNat n
end
end HT

namespace L2
open PySem PySem.Spec PyProof.Rows

abbrev TO := St → Hp → (Option Int → Hp → Prop) → Prop
def PO (X : Cx) (e : Option Expr) (t : TO) : Prop :=
  ∀ (pins : List (Addr × Obj)) (s : Shared) (σ : St) (H : Hp) (Q : Option Int → Hp → Prop), Inv X pins σ H s → t σ H Q →
    wpAny (model X.prog X.w) X.A (evalPart e X.env) (fun u s' => ∃ o H', Inv X pins σ H' s' ∧ IsPart u o ∧ Q o H') X.xe s
def tNoPart : TO := fun _ H Q => Q none H
def tPart (t : TE) : TO := fun σ H Q => t σ H fun x H1 => ∃ i, x = .int i ∧ Q (some i) H1

section
variable {X : Cx} {e : Expr} {te : TE} {lo hi : Option Expr} {tl th : TO} {pos p2 : Pos}

def SlR (X : Cx) (r : V → Option Int → Option Int → Hp → VK → Prop) : Prop :=
  ∀ (pins : List (Addr × Obj)) (s : Shared) (σ : St) (H : Hp) (x : V) (v vl vu : Value) (lo hi : Option Int) (sl : Addr) (Q : VK), Inv X pins σ H s → RelV x v → s.heap.IsSliceOf sl vl vu .none → IsPart vl lo → IsPart vu hi → r x lo hi H Q →
    ∃ T id, typeLookup (.type T) "__getitem__" = pure (some (.builtin id)) ∧ s.TypeIs v T ∧ wpAny (model X.prog X.w) X.A (getItem v (.ref sl)) (EP X pins σ Q) X.xe s
def tSl (r : V → Option Int → Option Int → Hp → VK → Prop) (te : TE) (tl th : TO) : TE := fun σ H Q => te σ H fun x H1 => tl σ H1 fun l H2 => th σ H2 fun u H3 => r x l u H3 Q
def cutV (xs : List V) (lo hi : Option Int) : List V := (xs.drop (HT.sIx xs.length 0 lo)).take (HT.sIx xs.length xs.length hi - HT.sIx xs.length 0 lo)
def rSlT (K : PySem.W.Frag) : V → Option Int → Option Int → Hp → VK → Prop := fun x lo hi H Q => ∃ a xs, x = .ref a ∧ SqT K H a xs ∧
  ¬ (HT.sIx xs.length 0 lo = 0 ∧ HT.sIx xs.length xs.length hi = xs.length) ∧ ∀ p, H p = none → Q (.ref p) (upd H p (.tup (cutV xs lo hi)))
def rLtT (K : PySem.W.Frag) : R2 := fun x y H Q => ∃ a b ns ms, x = .ref a ∧ y = .ref b ∧ SqT K H a (ns.map V.int) ∧ SqT K H b (ms.map V.int) ∧ Q (.bl (HT.lexLt ns ms)) H
def rCatT (K : PySem.W.Frag) : R2 := fun x y H Q => ∃ a b xs ys, x = .ref a ∧ y = .ref b ∧ SqT K H a xs ∧ SqT K H b ys ∧ xs ≠ [] ∧ xs.length + ys.length ≤ sizeLine ∧
  (ys = [] → Q (.ref a) H) ∧ (ys ≠ [] → ∀ p, H p = none → Q (.ref p) (upd H p (.tup (xs ++ ys))))
end
end L2

namespace L2
open PySem PySem.Spec PyProof.Rows

def ixN (n : Nat) (i : Int) : Option Nat := if 0 ≤ i then (if i < n then some i.toNat else none) else if -(n : Int) ≤ i then some (i + n).toNat else none
def atI {α : Type} (xs : List α) (i : Int) : Option α := (ixN xs.length i).bind fun j => xs[j]?
theorem ixN_seq {n : Nat} {i : Int} {j : Nat} (h : ixN n i = some j) : seqIndex? i n = some j ∧ j < n ∧ -(n : Int) ≤ i ∧ i < n := by
  unfold ixN at h
  by_cases h0 : 0 ≤ i
  · rw [if_pos h0] at h
    by_cases h1 : i < n
    · rw [if_pos h1] at h
      have e : i.toNat = j := Option.some.inj h
      exact ⟨by rw [seqIndex_of h0 h1, e], by omega, by omega, h1⟩
    · rw [if_neg h1] at h; cases h
  · rw [if_neg h0] at h
    by_cases h1 : -(n : Int) ≤ i
    · rw [if_pos h1] at h
      have e : (i + n).toNat = j := Option.some.inj h
      exact ⟨by rw [seqIndex_neg (by omega) h1, e], by omega, h1, by omega⟩
    · rw [if_neg h1] at h; cases h
theorem atI_get {α : Type} {xs : List α} {i : Int} {v : α} (h : atI xs i = some v) : ∃ j, seqIndex? i xs.length = some j ∧ xs[j]? = some v ∧ j < xs.length ∧ -(xs.length : Int) ≤ i ∧ i < xs.length := by
  unfold atI at h
  cases e : ixN xs.length i with
  | none => rw [e] at h; cases h
  | some j =>
    rw [e] at h
    obtain ⟨h1, h2, h3, h4⟩ := ixN_seq e
    exact ⟨j, h1, h, h2, h3, h4⟩
theorem atI_nat {α : Type} {xs : List α} {j : Nat} {v : α} (h : xs[j]? = some v) : atI xs (j : Int) = some v := by
  have hj : j < xs.length := (List.getElem?_eq_some_iff.mp h).1
  have e : ixN xs.length (j : Int) = some j := by
    unfold ixN
    rw [if_pos (by omega), if_pos (by omega)]; simp
  unfold atI; rw [e]; exact h
def PlainIx (b : Expr) : Prop := ∀ o i, subscripted b false o i = operate [o, i] (getItem o i)
def IxR (X : Cx) (r : R2) : Prop :=
  ∀ (value slice : Expr) (pins : List (Addr × Obj)) (s : Shared) (σ : St) (H : Hp) (x y : V) (v u : Value) (Q : VK), Inv X pins σ H s → RelV x v → RelV y u → r x y H Q →
    subscripted slice false v u = operate [v, u] (getItem v u) → wpAny (model X.prog X.w) X.A (subscriptTail value slice v u) (EP X pins σ Q) X.xe s
def MtR (X : Cx) (id : String) (r : V → List V → Hp → VK → Prop) : Prop :=
  ∀ (pins : List (Addr × Obj)) (s : Shared) (σ : St) (H : Hp) (x : V) (xs : List V) (v : Value) (us : List Value) (Q : VK), Inv X pins σ H s → RelV x v → Vals xs us → r x xs H Q →
    wpAny (model X.prog X.w) X.A (call (.builtin id) (v :: us)) (EP X pins σ Q) X.xe s
section
variable {X : Cx} {a b : Expr} {ta tb : TE} {pos : Pos}
theorem pe_ix {r : R2} (hr : IxR X r) (ha : PE X a ta) (hb : PE X b tb) (hs : PlainIx b) : PE X (.Subscript a b pos) (tOp r ta tb) := by
  intro pins s σ H Q I h
  exact Subscript_ (binT ha hb I h fun v u s2 x y H2 I2 rx ry q => hr a b pins s2 σ H2 x y v u Q I2 rx ry q (hs _ _))

def rIxL (K : PySem.W.Frag) : R2 := fun x y H Q => ∃ p xs i v, x = .ref p ∧ y = .int i ∧ SqL K H p xs ∧ atI xs i = some v ∧ Q v H
def rIxT (K : PySem.W.Frag) : R2 := fun x y H Q => ∃ p xs i v, x = .ref p ∧ y = .int i ∧ SqT K H p xs ∧ atI xs i = some v ∧ Q v H
def rIxS : R2 := fun x y H Q => ∃ z i c, x = .str z ∧ y = .int i ∧ z.length ≤ sizeLine ∧ atI z.cps.toList i = some c ∧ Q (.str ⟨#[c]⟩) H
theorem ix_list : IxR X (rIxL X.K) := by
  intro value slice pins s σ H x y v u Q I rx ry h hs
  obtain ⟨p, xs, i, z, rfl, rfl, hq, he, q⟩ := h
  cases rx
  obtain ⟨t, rfl⟩ := ry
  obtain ⟨its, r, pl, hz⟩ := I.list hq
  obtain ⟨j, h1, h2, h3, h4, h5⟩ := atI_get he
  obtain ⟨w, ew, rw'⟩ := r.get h2
  have hl := r.length
  have hn := line63
  have fin : EP X pins σ Q w s := ⟨z, H, I, rw', q⟩
  by_cases h0 : 0 ≤ i
  · have hj : i.toNat = j := by
      rw [seqIndex_of h0 h5] at h1
      exact Option.some.inj h1
    exact item_listR pl.isList h0 (by omega) (by rw [hj]; simpa using ew) fin hs
  · have hj : (i + (its.toArray.size : Int)).toNat = j := by
      rw [seqIndex_neg (by omega) h4] at h1
      rw [List.size_toArray, ← hl]
      exact Option.some.inj h1
    exact subscriptTail_builtinR (x := w) pl.isList.typeIs slot_list_getitem.lookup
      (wpAny_getItem_list_neg (Q := fun r s' => r = w ∧ EP X pins σ Q r s') pl.isList (by omega) (by rw [List.size_toArray] <;> omega) (by omega) (by rw [hj]; simpa using ew) ⟨rfl, fin⟩) hs
theorem ix_tup : IxR X (rIxT X.K) := by
  intro value slice pins s σ H x y v u Q I rx ry h hs
  obtain ⟨p, xs, i, z, rfl, rfl, hq, he, q⟩ := h
  cases rx
  obtain ⟨t, rfl⟩ := ry
  obtain ⟨its, r, pl, hz⟩ := I.tuple hq
  obtain ⟨j, h1, h2, h3, h4, h5⟩ := atI_get he
  obtain ⟨w, ew, rw'⟩ := r.get h2
  have hl := r.length
  have hn := line63
  have fin : EP X pins σ Q w s := ⟨z, H, I, rw', q⟩
  exact subscriptTail_builtinR (x := w) pl.typeIs slot_tuple_getitem.lookup
    (getItem_tuple (j := j) (Q := fun r s' => r = w ∧ EP X pins σ Q r s') pl (by omega) (by omega) (by rw [List.size_toArray, ← hl]; exact h1) (by simpa using ew) ⟨rfl, fin⟩) hs
def rIx (K : PySem.W.Frag) : R2 := fun x y H Q => rIxL K x y H Q ∨ rIxT K x y H Q ∨ rIxS x y H Q
theorem mapSeq_set (its : List Value) (n j : Nat) (u : Value) : Obj.mapSeq (·.setIfInBounds j u) { cls := .type "list", data := .seq its.toArray n } = { cls := .type "list", data := .seq (its.set j u).toArray n } := by
  simp [Obj.mapSeq]
theorem Inv.lst {pins : List (Addr × Obj)} {σ : St} {H : Hp} {s : Shared} {p : Addr} {xs : List V} (I : Inv X pins σ H s) (h : H p = some (.lst xs)) :
    ∃ (its : List Value) (n : Nat), Vals xs its ∧ s.heap.get? p = some { cls := .type "list", data := .seq its.toArray n } ∧ xs.length ≤ sizeLine := by
  obtain ⟨z, its, n, r, e⟩ := I.hok p _ h
  exact ⟨its, n, r, e, z⟩
theorem Inv.lstUpd {pins : List (Addr × Obj)} {σ : St} {H : Hp} {s : Shared} {p : Addr} {xs ys : List V} {its its' : List Value} {n n' : Nat} {f : Obj → Obj} (I : Inv X pins σ H s) (h : H p = some (.lst xs))
    (ho : s.heap.get? p = some { cls := .type "list", data := .seq its.toArray n }) (hf : f { cls := .type "list", data := .seq its.toArray n } = { cls := .type "list", data := .seq its'.toArray n' }) (r : Vals ys its') (hz : ys.length ≤ sizeLine) (t : Nat) :
    Inv X pins σ (upd H p (.lst ys)) { s with heap := s.heap.update p f, toks := t } := by
  have e : (s.heap.update p f).get? p = some { cls := .type "list", data := .seq its'.toArray n' } := by
    rw [Heap.get?_update_self f ho (by rw [hf] <;> rfl), hf]
  refine I.write (x := p) (e := p) (by rw [h]; trivial) (.inl rfl) (fun b u hb q => (Heap.get?_update_other _ _ (Ne.symm hb)).trans q) ⟨_, e⟩ ?_
  exact ⟨hz, its', n', r, e⟩
def rSetL : V → V → V → Hp → (Hp → Prop) → Prop := fun o i v H Q => ∃ p xs k j, o = .ref p ∧ i = .int k ∧ H p = some (.lst xs) ∧ ixN xs.length k = some j ∧ Q (upd H p (.lst (xs.set j v)))
theorem set_list : PSet X rSetL := by
  intro pins s σ H o i v ov iv u Q I ro ri rv h
  obtain ⟨p, xs, k, j, rfl, rfl, hp, hj, q⟩ := h
  cases ro
  obtain ⟨t, rfl⟩ := ri
  obtain ⟨its, n, r, ho, hz⟩ := I.lst hp
  obtain ⟨h1, h2, h3, h4⟩ := ixN_seq hj
  have hl := r.length
  have hn := line63
  have I' : Inv X pins σ (upd H p (.lst (xs.set j v))) { s with heap := s.heap.update p (Obj.mapSeq (·.setIfInBounds j u)) } :=
    I.lstUpd hp ho (mapSeq_set its n j u) (r.set rv j) (by rw [List.length_set]; exact hz) s.toks
  by_cases h0 : 0 ≤ k
  · have hk : k.toNat = j := by
      rw [seqIndex_of h0 h4] at h1
      exact Option.some.inj h1
    exact PySem.W.ki_setAt ho h0 (by omega) (by rw [List.size_toArray, ← hl]; exact h4) (by rw [hk]; exact ⟨_, I', q⟩)
  · have hk : (k + (its.toArray.size : Int)).toNat = j := by
      rw [seqIndex_neg (by omega) h3] at h1
      rw [List.size_toArray, ← hl]
      exact Option.some.inj h1
    exact PySem.W.ki_setBack ho (by omega) (by rw [List.size_toArray, ← hl]; exact h3) (by omega) (by rw [hk]; exact ⟨_, I', q⟩)

def rSlL (K : PySem.W.Frag) : V → Option Int → Option Int → Hp → VK → Prop := fun x lo hi H Q => ∃ a xs, x = .ref a ∧ SqL K H a xs ∧ ∀ p, H p = none → Q (.ref p) (upd H p (.lst (cutV xs lo hi)))
def flatV : V → Bool
  | .non => true
  | .bl _ => true
  | .int _ => true
  | .str _ => true
  | _ => false
def eqV : V → V → Bool
  | .non, .non => true
  | .bl a, .bl b => a == b
  | .bl a, .int b => (if a then 1 else 0) == b
  | .int a, .bl b => a == (if b then 1 else 0)
  | .int a, .int b => a == b
  | .str a, .str b => a == b
  | _, _ => false
def eqU (x : V) (u : Value) : Bool := match u with
  | .none => eqV .non x
  | .bool b => eqV (.bl b) x
  | .int i _ => eqV (.int i) x
  | .str z _ => eqV (.str z) x
  | _ => false
def inV (x : V) (xs : List V) : Bool := xs.any fun y => eqV y x
def rIn (K : PySem.W.Frag) (neg : Bool) : R2 := fun x y H Q => ∃ p xs, y = .ref p ∧ (SqL K H p xs ∨ SqT K H p xs) ∧ flatV x = true ∧ xs.all flatV = true ∧ Q (.bl (if neg then !inV x xs else inV x xs)) H
theorem call_len_seq : CallR X (.builtin "len") (fun xs H Q => ∃ p ys, xs = [.ref p] ∧ (SqL X.K H p ys ∨ SqT X.K H p ys) ∧ Q (.int ys.length) H) := by
  intro pins s σ H xs us Q I r h
  obtain ⟨p, ys, rfl, hq, q⟩ := h
  obtain ⟨u, rfl, rx⟩ := vals1 r
  cases rx
  have hn := line63
  rcases hq with hq | hq
  · obtain ⟨its, r', pl, hz⟩ := I.list hq
    have hlen := r'.length
    exact Calls.call_len_list pl.isList (by simp only [List.size_toArray] <;> omega) ⟨.int ys.length, H, I.tok _, ⟨s.toks + 1, by rw [List.size_toArray, hlen]⟩, q⟩
  · obtain ⟨its, r', pl, hz⟩ := I.tuple hq
    have hlen := r'.length
    exact len_tuple pl (by simp only [List.size_toArray] <;> omega) ⟨.int ys.length, H, I.tok _, ⟨s.toks + 1, by rw [List.size_toArray, hlen]⟩, q⟩
def tyV (K : PySem.W.Frag) (T : String) (x : V) (H : Hp) : Prop := match x with
  | .str _ => T = "str"
  | .int _ => T = "int"
  | .ref p => (T = "list" ∧ ∃ xs, SqL K H p xs) ∨ (T = "tuple" ∧ ∃ o, K.lookup p = some o ∧ o.cls = .type "tuple" ∧ o.dict = none) ∨
      (T = "dict" ∧ ((∃ kvs, H p = some (.dK kvs)) ∨ ∃ kvs, H p = some (.dT kvs))) ∨ (T = "set" ∧ ∃ S n, H p = some (.set S n))
  | _ => False
theorem tyV_is {pins : List (Addr × Obj)} {σ : St} {H : Hp} {s : Shared} {T : String} {x : V} {v : Value} (I : Inv X pins σ H s) (r : RelV x v) (ty : tyV X.K T x H) :
    s.TypeIs v T ∧ ∀ a, v = .ref a → ∃ ob, s.heap.get? a = some ob ∧ ob.dict = none := by
  cases x with
  | str z =>
    obtain ⟨t, rfl⟩ := r
    cases (show T = "str" from ty)
    exact ⟨typeIs_str s z t, fun _ e => nomatch e⟩
  | int i =>
    obtain ⟨t, rfl⟩ := r
    cases (show T = "int" from ty)
    exact ⟨typeIs_int s i t, fun _ e => nomatch e⟩
  | ref p =>
    cases r
    rcases ty with ⟨rfl, xs, hq⟩ | ⟨rfl, o, hk, hc, hd⟩ | ⟨rfl, hk⟩ | ⟨rfl, S, n, hk⟩
    · obtain ⟨its, _, pl, _⟩ := I.list hq
      refine ⟨pl.isList.typeIs, fun a e => ?_⟩
      cases e
      obtain ⟨o, n, e, c, hd, _⟩ := pl
      exact ⟨o, e, hd⟩
    · refine ⟨⟨o, I.kIn p o hk, hc⟩, fun a e => ?_⟩
      cases e
      exact ⟨o, I.kIn _ o hk, hd⟩
    · have z : ∃ o, s.heap.get? p = some o ∧ o.ExactDict := by
        rcases hk with ⟨kvs, hk⟩ | ⟨kvs, hk⟩
        · obtain ⟨_, _, _, _, o, _, _, e, ex, _⟩ := I.hok p _ hk
          exact ⟨o, e, ex⟩
        · obtain ⟨_, _, _, _, o, _, _, e, ex, _⟩ := I.hok p _ hk
          exact ⟨o, e, ex⟩
      obtain ⟨o, e, ex⟩ := z
      refine ⟨⟨o, e, ex.1⟩, fun a e2 => ?_⟩
      cases e2
      exact ⟨o, e, ex.2.1⟩
    · obtain ⟨o, _, _, _, e, ex, _⟩ := I.hok p _ hk
      refine ⟨⟨o, e, ex.1⟩, fun a e2 => ?_⟩
      cases e2
      exact ⟨o, e, ex.2.1⟩
  | _ => exact False.elim ty
def tBM0 (K : PySem.W.Frag) (T : String) (r : V → List V → Hp → VK → Prop) (to : TE) : TE := fun σ H Q => to σ H fun x H1 => tyV K T x H1 ∧ r x [] H1 Q
def tBM (K : PySem.W.Frag) (T : String) (r : V → List V → Hp → VK → Prop) (to : TE) (t : TA) : TE := fun σ H Q => to σ H fun x H1 => tyV K T x H1 ∧ t σ H1 fun xs H2 => r x xs H2 Q
variable {o e : Expr} {es : List Expr} {to : TE} {t : TA} {name : Str} {apos cpos : Pos} {T id : String} {r : V → List V → Hp → VK → Prop}
theorem pe_bm (pa : PlainAttrs T) (slot : Slot T name id) (hty : typeOf (.builtin id) = pure (.type "method_descriptor")) (hm : MtR X id r) (ho : PE X o to) (ha : PA X (e :: es) t)
    (hbase : attributeBase o name X.env (eval o X.env) = eval o X.env := by rfl)
    (hfew : ((backTo cpos (starEach (e :: es) X.env)).all (fun x => !x.1) && (backToKw cpos (keywordEach [] X.env)).all (fun x => x.1.isSome)
      && decide ((e :: es).length + ([] : List Keyword).length + (if ([] : List Keyword).isEmpty then 0 else 1) < 30)) = true := by rfl)
    (hline : (apos.endLine == cpos.line) = true := by rfl) (hs : starEach (e :: es) X.env = (false, eval e X.env) :: starEach es X.env := by rfl) (hplain : (backTo cpos (starEach es X.env)).any (·.1) = false := by rfl) :
    PE X (.Call (.Attribute o name apos) (e :: es) [] cpos) (tBM X.K T r to t) := by
  intro pins s σ H Q I h
  refine wpAny_Call_method_late hbase hfew hline rfl (thn (ho pins s σ H _ I h) fun v s1 ⟨x, H1, I1, r1, ty, q1⟩ => ?_)
  obtain ⟨h1, h2⟩ := tyV_is I1 r1 ty
  refine ⟨T, id, pa, slot, hty, h1, h2, ?_⟩
  have hA := ha cpos pins s1 σ H1 _ I1 q1
  rw [hs] at hA ⊢
  refine Calls.callWith_builtin (by show (false || (backTo cpos (starEach es X.env)).any (·.1)) = false; rw [hplain] <;> rfl) (Calls.evalArgs_plain ?_)
  exact thn hA fun us s2 ⟨vs, H2, I2, r2, q2⟩ => hm pins s2 σ H2 x vs v us Q I2 r1 r2 q2
/- xs.append(e), list.index on a module's tuple .. are MtR facts of 06m -/
end
end L2

namespace L2
open PySem PySem.Spec PyProof.Rows

def MtM (X : Cx) (id : String) (r : V → List V → Hp → VK → Prop) : Prop :=
  ∀ (pins : List (Addr × Obj)) (s : Shared) (σ : St) (H : Hp) (x : V) (xs : List V) (v : Value) (us : List Value) (Q : VK), Inv X pins σ H s → RelV x v → Vals xs us → r x xs H Q →
    wpAny (model X.prog X.w) X.A (call (.builtin id) (v :: us)) (EP X pins σ Q) X.xe s

theorem Vals.one : ∀ {x : V} {us : List Value}, Vals [x] us → ∃ u, us = [u] ∧ RelV x u
  | _, _, .cons r .nil => ⟨_, rfl, r⟩
theorem Vals.two : ∀ {x y : V} {us : List Value}, Vals [x, y] us → ∃ u v, us = [u, v] ∧ RelV x u ∧ RelV y v
  | _, _, _, .cons r (.cons q .nil) => ⟨_, _, rfl, r, q⟩
section
variable {X : Cx} {pins : List (Addr × Obj)} {σ : St} {H : Hp} {s : Shared} {l b : Addr} {xs ys zs : List V}

theorem Inv.lset {its its' : List Value} {n : Nat} {f : Array Value → Array Value} {t' : Nat} (I : Inv X pins σ H s) (hH : H l = some (.lst xs))
    (e : s.heap.get? l = some { cls := .type "list", data := .seq its.toArray n }) (hf : f its.toArray = its'.toArray) (hv : Vals ys its') (hz : ys.length ≤ sizeLine) :
    Inv X pins σ (upd H l (.lst ys)) { s with heap := s.heap.update l (Obj.mapSeq f), toks := t' } := by
  have q := PySem.IsL.update e f
  rw [hf] at q
  refine I.write (x := l) (e := l) (by rw [hH]; exact trivial) (.inl rfl) (fun b' u hb hu => (Heap.get?_update_other s.heap (Obj.mapSeq f) (Ne.symm hb)).trans hu) ⟨_, q⟩ ?_
  exact ⟨hz, its', _, hv, q⟩
theorem Inv.lnew {its : List Value} {t' : Nat} (I : Inv X pins σ H s) (hv : Vals ys its) (hz : ys.length ≤ sizeLine) :
    Inv X pins σ (upd H s.heap.objs.size (.lst ys)) { s with heap := s.heap.push { cls := .type "list", data := .seq its.toArray }, toks := t' } :=
  I.laid (fun _ _ q => Heap.get?_push_of_some _ q) (Nat.le_refl _) ⟨hz, its, 0, hv, Heap.get?_push_size _ rfl⟩
theorem Inv.fresh (I : Inv X pins σ H s) : H s.heap.objs.size = none := I.hok.fresh (Nat.le_refl _)
theorem Inv.lstM (I : Inv X pins σ H s) (hH : H l = some (.lst xs)) : xs.length ≤ sizeLine ∧ ∃ (its : List Value) (n : Nat), Vals xs its ∧ xs.length = its.length ∧ s.heap.get? l = some { cls := .type "list", data := .seq its.toArray n } := by
  obtain ⟨z, its, n, r, e⟩ := I.hok l _ hH
  exact ⟨z, its, n, r, r.length, e⟩

end

section
variable {X : Cx}

def rAppend : V → List V → Hp → VK → Prop := fun x vs H Q => ∃ l xs y, x = .ref l ∧ vs = [y] ∧ H l = some (.lst xs) ∧ xs.length < sizeLine ∧ Q .non (upd H l (.lst (xs ++ [y])))
theorem mt_append : MtM X "list.append" rAppend := by
  intro pins s σ H x vs v us Q I rx rv h
  obtain ⟨l, xs, y, rfl, rfl, hH, hz, q⟩ := h
  cases rx
  obtain ⟨u, rfl, ru⟩ := rv.one
  obtain ⟨z, its, n, r, hl, e⟩ := I.lstM hH
  refine call_meets F.slot_list_append ⟨_, e, rfl⟩ F.entry_list_append (F.args_list_append_2 _ _) (PySem.list_append l its.toArray n u (by rw [List.size_toArray]; omega)) ⟨e, ?_⟩
  refine ⟨.non, _, I.lset (its' := its ++ [u]) hH e (by simp) (r.append (.cons ru .nil)) ?_, rfl, q⟩
  rw [List.length_append, List.length_singleton]
  omega

def rExtend : V → List V → Hp → VK → Prop := fun x vs H Q => ∃ l b xs zs, x = .ref l ∧ vs = [.ref b] ∧ H l = some (.lst xs) ∧ H b = some (.lst zs) ∧ xs.length + zs.length ≤ sizeLine ∧ Q .non (upd H l (.lst (xs ++ zs)))
def rPop : V → List V → Hp → VK → Prop := fun x vs H Q => ∃ l xs y, x = .ref l ∧ vs = [] ∧ H l = some (.lst xs) ∧ xs[xs.length - 1]? = some y ∧ Q y (upd H l (.lst xs.dropLast))
def rPopAt : V → List V → Hp → VK → Prop := fun x vs H Q => ∃ l xs i k y, x = .ref l ∧ vs = [.int i] ∧ H l = some (.lst xs) ∧ -(2 ^ 63) ≤ i ∧ i < 2 ^ 63 ∧ seqIndex? i xs.length = some k ∧ xs[k]? = some y ∧ Q y (upd H l (.lst (xs.eraseIdx k)))
def rReverse : V → List V → Hp → VK → Prop := fun x vs H Q => ∃ l xs, x = .ref l ∧ vs = [] ∧ H l = some (.lst xs) ∧ Q .non (upd H l (.lst xs.reverse))
def rClear : V → List V → Hp → VK → Prop := fun x vs H Q => ∃ l xs, x = .ref l ∧ vs = [] ∧ H l = some (.lst xs) ∧ Q .non (upd H l (.lst []))
def rCat : R2 := fun x y H Q => ∃ l b xs zs, x = .ref l ∧ y = .ref b ∧ H l = some (.lst xs) ∧ H b = some (.lst zs) ∧ xs.length + zs.length ≤ sizeLine ∧ ∀ p, H p = none → Q (.ref p) (upd H p (.lst (xs ++ zs)))
theorem op_cat : OpR X (binaryOp .Add) rCat := by
  intro pins s σ H x y v u Q I rx ry h
  obtain ⟨l, b, xs, zs, rfl, rfl, hH, hB, hz, q⟩ := h
  cases rx
  cases ry
  obtain ⟨z, its, n, r, hl, e⟩ := I.lstM hH
  obtain ⟨z2, its2, n2, r2, hl2, e2⟩ := I.lstM hB
  refine PySem.P.add_list e e2 ?_ (by rw [List.size_toArray, List.size_toArray]; omega)
  have ea : its.toArray ++ its2.toArray = (its ++ its2).toArray := by simp
  rw [ea]
  exact ⟨.ref _, _, I.lnew (t' := s.toks) (r.append r2) (by rw [List.length_append]; omega), rfl, q _ I.fresh⟩
def rRep : R2 := fun x y H Q => ∃ l k xs, x = .ref l ∧ y = .int k ∧ H l = some (.lst xs) ∧ -(2 ^ 63) ≤ k ∧ k < 2 ^ 63 ∧ xs.length * k.toNat ≤ sizeLine ∧
  ∀ p, H p = none → Q (.ref p) (upd H p (.lst (List.replicate k.toNat xs).flatten))
end

section
variable {prog : Program} {w : World} {A : Around} {E : Value → Shared → Prop} {s : Shared}
end

section
variable {X : Cx}
end
end L2

namespace Att
open PySem PySem.W PySem.Calls PyProof.Rows

theorem ints_of_wellAll {P : Params} {h : Heap} : ∀ (ns : List Int) (vs : List Value), WellAll P h vs (ns.map WData.int) → IntsAre vs ns := by
  intro ns
  induction ns with
  | nil =>
    intro vs w
    rw [List.map_nil] at w
    cases w
    exact .nil
  | cons n ns ih =>
    intro vs w
    rw [List.map_cons] at w
    cases w with
    | cons a b =>
      cases a
      exact .cons _ _ (ih _ b)

theorem script_of {l : OpenLaw} {n : Nat} (hn : l.most = some n) {P : Params} {h : Heap} {args : List WData} {vals : List Value}
    (hpre : l.row.toRowW.claim.pre args = true) (hwl : WellAll P h vals args) :
    ∃ a vs ns, vals = [Value.ref a] ∧ args = [WData.list (ns.map WData.int)] ∧ h.get? a = some { cls := .type "list", data := .seq vs.toArray } ∧ IntsAre vs ns ∧ ns.length ≤ n := by
  have hsh : WShape.hasAll [] args [.list .int] = true := (pre_splitW hpre).1
  have hc : l.pre.holds [] { args := args } = true := (pre_splitW hpre).2
  obtain ⟨d, r, rfl, h1, h2⟩ := hasAllW_cons hsh
  obtain rfl := hasAllW_nil h2
  obtain ⟨xs, rfl, h3⟩ := hasW_list h1
  obtain ⟨ns, rfl⟩ := items_int h3
  have hlen : ns.length ≤ n := by
    unfold OpenLaw.pre at hc
    have h4 : (WTm.not (.lt (.lit (.int (n : Int))) (.len (.arg 0)))).holds [] { args := [.list (ns.map .int)] } = true := by
      have h4 := (holds_andW hc).1
      rw [hn] at h4
      exact h4
    have h5 := condW_of h4 (w_not (w_lt w_lit (w_len_list (w_arg rfl))))
    rw [List.length_map] at h5
    refine Nat.le_of_not_lt fun q => ?_
    have q' : (n : Int) < ((ns.length : Nat) : Int) := by omega
    first
      | (rw [decide_eq_true q'] at h5; exact absurd h5 (by decide))
      | (simp at h5; omega)
  cases hwl with
  | cons w1 w2 =>
    cases w2
    cases w1 with
    | list ho hall => exact ⟨_, _, ns, rfl, rfl, ho, ints_of_wellAll ns _ hall, hlen⟩

theorem post_true (l : OpenLaw) (args : List WData) : l.row.toRowW.claim.post args (.bool true) args = true :=
  postW_of (r := l.row.toRowW) (X := (true == true))
    (show WShape.has [] (.bool true) .bool = true by first | rfl | decide | simp [WShape.has, WShape.arms, WShape.armsAll])
    (show (WTm.eq .res (.lit (.bool true))).value [] { args := args, res := some (.bool true), after := args } = some (.bool (true == true)) from w_eq_bool (w_res rfl) w_lit) rfl

section
variable {prog : Program} {w : World} {A : Around} {E : Value → Shared → Prop} {s : Shared} {K : Frag}

def noObjs (h : Heap) : Heap := { h with objs := #[] }
def ledger (h : Heap) (L d : Addr) : List (Addr × Obj) := (List.range h.objs.size).filterMap fun a => if a = L ∨ a = d then none else (h.get? a).map fun o => (a, o)
end
end Att

namespace L2
open PySem PySem.Spec PyProof.Rows

theorem vals_ints : ∀ {vs : List Value} {ns : List Int}, IntsAre vs ns → Vals (ns.map V.int) vs
  | _, _, .nil => .nil
  | _, _, .cons n t h => .cons ⟨t, rfl⟩ (vals_ints h)

def Only (H : Hp) : Prop := ∀ b, H b = none ∨ ∃ o xs, H b = some (.frz o (.lst xs))

theorem law_call {P : Program} {w : World} {K : PySem.W.Frag} {mg mb : Str → Option Value} {CX : CXT} {k : Nat} {fa a : Addr} {fd : FuncData} {x : Str} {sp : Sp} {s₁ : Shared} {vs : List Value} {ns : List Int}
    (KX : K.In s₁.heap) (hns : s₁.heap.Ns mainGlobals mg) (hb : s₁.heap.Ns builtinsNs mb) (hbb : ∀ x : Str, x ≠ "__name__" → mb x = bootBuiltins x) (hlim : s₁.heap.NoLimit) (hg : s₁.gens = #[])
    (ha : s₁.heap.get? a = some { cls := .type "list", data := .seq vs.toArray }) (hi : IntsAre vs ns) (hl : ns.length ≤ sizeLine) (hr : Room k callerA)
    (F : ∀ base : Heap, K.In base → base.Ns mainGlobals mg → FnOk P w K mg base CX k fa fd [x] sp) (hbind : ∀ (s : Shared) (u : Value), BindsTo s fd ⟨[u], []⟩ [(x, u)])
    (hsp : ∀ H : Hp, Only H → SqL K H a (ns.map V.int) → sp [.ref a] H (fun v _ => v = .bl true) fun _ _ _ => False)
    (hCX : ∀ H e s', CX [] H s₁ (fun _ _ _ => False) e s' → False) :
    codeAny (model P w) callerA (.call (.ref fa) ⟨[.ref a], []⟩) (fun r s' => r = .ok (.ret (.bool true)) ∧ OldK s₁.heap s'.heap ∧ s'.os = s₁.os ∧ AllBare s'.gens) s₁ := by
  have rv := vals_ints hi
  have lenV := hi.length
  -- from an abstract heap in which nothing but the script may be tracked
  have core : ∀ H : Hp, Only H → SqL K H a (ns.map V.int) → HOk P w H s₁.heap → (∀ b, H b ≠ none → b = a) → (H a ≠ none → K.lookup a = none) →
      codeAny (model P w) callerA (.call (.ref fa) ⟨[.ref a], []⟩) (fun r s' => r = .ok (.ret (.bool true)) ∧ OldK s₁.heap s'.heap ∧ s'.os = s₁.os ∧ AllBare s'.gens) s₁ := by
    intro H hO hS hok hA hK
    have base_of : ∀ {b : Addr} {o : Obj}, s₁.heap.get? b = some o → H b = none → (hidT s₁.heap H).get? b = some o := fun e n => hidT_get e n
    have noA : ∀ {b : Addr} {o : Obj} {es : Array DictEntry} {ep : Nat}, s₁.heap.get? b = some o → o.data = .dict es ep → H b = none := fun {b o es ep} e d => by
      cases q : H b with
      | none => rfl
      | some u =>
        have e' : b = a := hA b (by rw [q]; simp)
        subst e'
        rw [ha] at e; cases e
        have d' : Data.seq vs.toArray _ = Data.dict es ep := d
        cases d'
    have nsK : ∀ {b : Addr} {m : Str → Option Value}, s₁.heap.Ns b m → (hidT s₁.heap H).Ns b m := fun {b m} ⟨o, es, ep, e, d, r⟩ => ⟨o, es, ep, base_of e (noA e d), d, r⟩
    have hKb : K.In (hidT s₁.heap H) := fun b o e => base_of (KX b o e) (by
      cases q : H b with
      | none => rfl
      | some u =>
        have e' : b = a := hA b (by rw [q]; simp)
        subst e'
        rw [hK (by rw [q]; simp)] at e; cases e)
    have hM : Mod K mg (hidT s₁.heap H) := ⟨hKb, nsK hns, ⟨mb, nsK hb, hbb⟩, let ⟨mc, h1, h2⟩ := hlim; ⟨mc, nsK h1, h2⟩⟩
    have e0 : Env0 P w K mg (hidT s₁.heap H) callerA [] s₁ H := ⟨rfl, hM, fun b o e => of_hidT e, Nat.le_of_eq (hidT_size _ _), trivial, fun b hb => absurd (show b ∈ ([] : List Addr) from hb) (by simp), hok, .of_eq hg⟩
    refine codeAny_mono ((F _ hKb (nsK hns)).run callerA [] s₁ H ⟨[.ref a], []⟩ [.ref a] [.ref a] _ _ hr e0 (hbind s₁ (.ref a)) (.cons rfl .nil) (hsp H hO hS)) fun r s' h => ?_
    cases r with
    | error e => exact (hCX H e s' h).elim
    | ok fl =>
      cases fl with
      | next => exact False.elim h
      | brk => exact False.elim h
      | cont => exact False.elim h
      | ret u =>
        obtain ⟨v, H', os, bare, un, hok', r', q⟩ := h
        have q' : v = .bl true := q
        subst q'
        obtain rfl : u = Value.bool true := r'
        refine ⟨rfl, OldK.of_keep fun b o e => ?_, os, bare⟩
        cases q : H b with
        | none => exact un.keep b o e q (by intro z; exact absurd (show b ∈ ([] : List Addr) from z) (by simp)) (by simp)
        | some u =>
          rcases hO b with z | ⟨ob, xs, z⟩
          · rw [q] at z; cases z
          · have z2 := un.frzs b ob _ z
            obtain ⟨e1, _⟩ := hok b _ z
            obtain ⟨e2, _⟩ := hok' b _ z2
            rw [e] at e1; cases e1
            exact e2
  cases hk : K.lookup a with
  | some o =>
    -- the script is one of the module's own objects
    have e := KX a o hk
    rw [ha] at e
    cases e
    refine core (fun _ => none) (fun _ => .inl rfl) (.inr ⟨_, vs.toArray, _, hk, rfl, rfl, rfl, by rw [List.size_toArray, lenV]; exact hl, by simpa using rv⟩) (fun b u z => by have z' : (none : Option HO) = some u := z; cases z') (fun b z => absurd rfl z) fun z => absurd rfl z
  | none =>
    refine core (fun b => if b = a then some (.frz { cls := .type "list", data := .seq vs.toArray } (.lst (ns.map V.int))) else none) (fun b => ?_) (.inl (.inr ⟨{ cls := .type "list", data := .seq vs.toArray }, if_pos rfl⟩)) (fun b u z => ?_) (fun b z => ?_) fun _ => hk
    · by_cases hb : b = a
      · exact .inr ⟨_, _, if_pos hb⟩
      · exact .inl (if_neg hb)
    · by_cases hb : b = a
      · have z' := (if_pos hb).symm.trans z
        cases z'
        subst hb
        exact ⟨ha, by rw [List.length_map]; exact hl, vs, _, rv, ha⟩
      · have z' := (if_neg hb).symm.trans z
        cases z'
    · by_cases hb : b = a
      · exact hb
      · exact absurd (if_neg hb) z
end L2

namespace L2
open PySem PySem.Spec PyProof.Rows

abbrev KOf {K : PySem.W.Frag} {h : Heap} (_ : K.In h) : PySem.W.Frag := K

end L2

namespace L2
open PySem PySem.Spec PyProof.Rows

def inClass (s : Stmt) (j : Nat) : Stmt := match s with
  | .ClassDef _ _ _ body _ _ _ _ _ _ _ => body.getD j (.Pass ⟨0, 0, 0, 0⟩)
  | _ => .Pass ⟨0, 0, 0, 0⟩
def defArgs (s : Stmt) : Arguments := match s with
  | .FunctionDef _ a _ _ _ _ _ _ _ _ => a
  | _ => { posonlyargs := [], args := [], vararg := none, kwonlyargs := [], kw_defaults := [], kwarg := none, defaults := [] }
def defBody (s : Stmt) : List Stmt := match s with
  | .FunctionDef _ _ b _ _ _ _ _ _ _ => b
  | _ => []
def defScope (s : Stmt) : Scope := match s with
  | .FunctionDef _ _ _ _ _ _ sc _ _ _ => sc
  | _ => { kind := .function, names := [], isGenerator := false, isCoroutine := false }

abbrev CX0 : CXT := fun _ _ _ _ _ _ => False
abbrev E0 : XK := fun _ _ _ => False
theorem pass0 {X : Cx} : Passes CX0 X E0 := fun _ _ _ _ _ _ _ h => h.elim

structure Fun (K : PySem.W.Frag) (x qual : Str) (st : Stmt) (f : Addr) (fd : FuncData) : Prop where
  ex : ∃ (oc : Value) (od : Option Addr) (kV doc pm : Value) (an : Option Addr) (cdv ct : Value) (osl : Array (Option Value)),
    fd = PySem.W.fnOf x qual (defArgs st) (defBody st) (defScope st) .none kV doc pm an cdv ct ∧ K.lookup f = some ⟨oc, od, .func fd, osl⟩ ∧ PySem.W.codeIn K cdv qual = true
  kp : PySem.W.keepIn K (.ref f) = true
section
variable {P : Program} {w : World} {K : PySem.W.Frag} {mg : Str → Option Value} {base : Heap}
theorem Fun.ok {x qual : Str} {st : Stmt} {f : Addr} {fd : FuncData} {N ps : List Str} {k : Nat} {sp : Sp} (F : Fun K x qual st f fd) (S : FnScope N ps (defScope st)) (len : ∀ vs H Q E, sp vs H Q E → vs.length = ps.length)
    (hbody : ∀ (cdv : Value) (A : Around) (outer : List Env) (s : Shared) (H : Hp) (vs : List V) (Q : VK) (E : XK), Room k (A.deeper (envOfC qual (defScope st) s.heap.objs.size f cdv)) → sp vs H Q E →
      ∃ t, PSs (cxOf CX0 P w K mg base N qual (defScope st) f cdv A outer s H E).nox (defBody st) t ∧ t { nx := fun _ H' => Q .non H', rt := Q } (start N vs) H) : FnOk P w K mg base CX0 (k + 1) f fd ps sp := by
  obtain ⟨oc, od, kV, doc, pm, an, cdv, ct, osl, rfl, lk, hcd⟩ := F.ex
  refine fn_of lk hcd S len fun A outer s H vs Q E hr hsp => ?_
  obtain ⟨t, h, q⟩ := hbody cdv A outer s H vs Q E hr hsp
  exact ⟨t, h.nox, q⟩
theorem Fun.binds {x qual : Str} {st : Stmt} {f : Addr} {fd : FuncData} {ps : List Str} (F : Fun K x qual st f fd)
    (h : ∀ (kV doc pm : Value) (an : Option Addr) (cdv ct : Value) (us : List Value), us.length = ps.length → bindArgs (PySem.W.fnOf x qual (defArgs st) (defBody st) (defScope st) .none kV doc pm an cdv ct) ⟨us, []⟩ = pure (ps.zip us)) : Binds K fd ps [] := by
  obtain ⟨oc, od, kV, doc, pm, an, cdv, ct, osl, rfl, lk, hcd⟩ := F.ex
  exact .all (h kV doc pm an cdv ct)
theorem fun_mk {x qual : Str} {st : Stmt} {f : Addr} {oc : Value} {od an : Option Addr} {osl : Array (Option Value)} {kV doc pm cdv ct : Value} (l : K.lookup f = some ⟨oc, od, .func (PySem.W.fnOf x qual (defArgs st) (defBody st) (defScope st) .none kV doc pm an cdv ct), osl⟩)
    (c : PySem.W.codeIn K cdv qual = true) (k : PySem.W.keepIn K (.ref f) = true) : Fun K x qual st f (PySem.W.fnOf x qual (defArgs st) (defBody st) (defScope st) .none kV doc pm an cdv ct) := ⟨⟨oc, od, kV, doc, pm, an, cdv, ct, osl, rfl, l, c⟩, k⟩
end
section
variable {X : Cx}
theorem pv (i : Nat) {x : Str} {pos : Pos} (hN : X.N[i]? = some x := by rfl) (hv : Vis X.env.scope x := by first | exact Or.inl rfl | exact Or.inr (Or.inl rfl) | exact Or.inr (Or.inr rfl)) (hd : (x == ("__debug__" : Str)) = false := by decide)
    (hcd : (x == ("__classdict__" : Str)) = false := by decide) : PE X (.Name x pos) (tVar i) := pe_var hN hv hd hcd
end

theorem iteF {A B : Prop} (h : B) : if false = true then A else B := by
  rw [if_neg Bool.false_ne_true]
  exact h
theorem iteT {A B : Prop} (h : A) : if true = true then A else B := by
  rw [if_pos rfl]
  exact h
theorem ite2 {c A B : Prop} [Decidable c] (h1 : c → A) (h2 : ¬ c → B) : if c then A else B := by
  by_cases h : c
  · rw [if_pos h]
    exact h1 h
  · rw [if_neg h]
    exact h2 h
theorem iteNS {c A B : Prop} [Decidable c] (hc : c) (h : B) : if (!decide c) = true then A else B := by
  rw [decide_eq_true hc]
  exact iteF h

def Same (H H' : Hp) : Prop := ∀ b o, H b = some o → H' b = some o
theorem Same.refl (H : Hp) : Same H H := fun _ _ h => h
theorem Same.trans {H H1 H2 : Hp} (a : Same H H1) (b : Same H1 H2) : Same H H2 := fun c o h => b c o (a c o h)
theorem Same.free {H H' : Hp} (e : Same H H') {l : Addr} (h : H' l = Option.none) : H l = Option.none := by
  cases q : H l with
  | none => rfl
  | some o =>
    rw [e l o q] at h
    cases h
theorem Same.seq {K : PySem.W.Frag} {H H' : Hp} {a : Addr} {xs : List V} (e : Same H H') (h : SqL K H a xs) : SqL K H' a xs := by
  rcases h with (h | ⟨o, h⟩) | h
  · exact .inl (.inl (e _ _ h))
  · exact .inl (.inr ⟨o, e _ _ h⟩)
  · exact .inr h

end L2

namespace L2
open PySem PySem.Spec PyProof.Rows

section
variable {X : Cx}
theorem op_mulG : OpR X (binaryOp .Mult) (rI IntMulOk fun i j => .int (i * j)) := opI fun _ _ _ _ _ _ _ hc q => mul_int q hc
def CDivL (_ j : Int) : Prop := j ≠ 0 ∧ j.natAbs.log2 < 9000
theorem op_fdivL : OpR X (binaryOp .FloorDiv) (rI CDivL fun i j => .int (i.fdiv j)) :=
  opI fun _ _ _ _ _ _ _ hc q => floordiv_int hc.1 q (.inl (PyProof.noPylong_of_log2 hc.2))
end

section
variable {P : Program} {w : World} {H H1 H2 : Hp} {h h1 h2 : Heap} {a : Addr} {o : HO}
theorem ObjOk.there (x : ObjOk P w H h a o) : ∃ ob, h.get? a = some ob := by
  cases o with
  | lst xs => obtain ⟨_, _, _, _, e⟩ := x; exact ⟨_, e⟩
  | tup xs => obtain ⟨_, _, _, ob, e, _⟩ := x; exact ⟨_, e⟩
  | dK kvs => obtain ⟨_, _, _, _, ob, _, _, e, _⟩ := x; exact ⟨_, e⟩
  | dT kvs => obtain ⟨_, _, _, _, ob, _, _, e, _⟩ := x; exact ⟨_, e⟩
  | set S n => obtain ⟨ob, _, _, _, e, _⟩ := x; exact ⟨_, e⟩
  | ins C dx fs => obtain ⟨_, _, _, e, _⟩ := x; exact ⟨_, e⟩
  | own y => exact x
  | xd fs => obtain ⟨_, ⟨ob, _, _, e, _⟩, _⟩ := x; exact ⟨_, e⟩
  | rng lo hi => obtain ⟨_, _, _, e⟩ := x; exact ⟨_, e⟩
  | frz ob u => obtain ⟨e, _⟩ := x; exact ⟨_, e⟩
  | tbl ps => exact ⟨_, (show h.get? a = some _ from x)⟩
  | met f y => exact ⟨_, (show h.get? a = some _ from x)⟩
  | ext φ => obtain ⟨_, ⟨ob, e⟩, _⟩ := x; exact ⟨_, e⟩
theorem HOk.onward (x : HOk P w H h1) (k : ∀ b ob, H b ≠ none → h1.get? b = some ob → h2.get? b = some ob) : HOk P w H h2 := fun c u e =>
  (x c u e).stay (fun b v hb q => k b v (by rcases hb with rfl | hb
                                            · rw [e]; simp
                                            · rw [hb]; simp) q) (fun _ q => q) fun _ _ q => q
theorem Un.onward {fs : List Addr} (u : Un fs [] H H1 h h1) (keep : ∀ b ob, h1.get? b = some ob → b ∉ fs → (∃ o', h.get? b = some o') → h2.get? b = some ob)
    (slot : ∀ b ob, h1.get? b = some ob → b ∈ fs → (∃ o', h.get? b = some o') → ∃ sl, h2.get? b = some { ob with slots := sl }) : Un fs [] H H1 h h2 where
  keep := fun b ob e n hb hx => keep b ob (u.keep b ob e n hb hx) hb ⟨ob, e⟩
  slot := fun b ob e n hb hx => by
    obtain ⟨sl, e1⟩ := u.slot b ob e n hb hx
    obtain ⟨sl2, e2⟩ := slot b _ e1 hb ⟨ob, e⟩
    exact ⟨sl2, e2⟩
  free := u.free
  there := fun b ob e hx => by
    obtain ⟨o1, e1⟩ := u.there b ob e hx
    by_cases hb : b ∈ fs
    · obtain ⟨sl, e2⟩ := slot b o1 e1 hb ⟨ob, e⟩
      exact ⟨_, e2⟩
    · exact ⟨_, keep b o1 e1 hb ⟨ob, e⟩⟩
  tups := u.tups
  frzs := u.frzs
  tbls := u.tbls
end

structure Fly (P : Program) (w : World) (outer : List Env) (H : Hp) (s : Shared) (cls a0 : Value) (ea : Addr) (B : Heap) (H' : Hp) (s' : Shared) : Prop where
  os : s'.os = s.os
  bare : AllBare s'.gens
  un : Un (frs outer) [] H H' s.heap s'.heap
  hok : HOk P w H' s'.heap
  fly : Heap.FlyingW B outer ea cls a0 s'.heap
  frf : ∀ b ∈ frs outer, H' b = none
  cov : ∀ b o, s'.heap.get? b = some o → b ∉ frs outer → (H' b ≠ none ∨ ∃ o', s.heap.get? b = some o') → B.get? b = some o
def XF (P : Program) (w : World) : CXT := fun outer H s E e s' => ∃ (ea : Addr) (cls a0 : Value) (B : Heap) (H' : Hp), e = .ref ea ∧ Fly P w outer H s cls a0 ea B H' s' ∧ E cls none H'

section
variable {P : Program} {w : World} {K : PySem.W.Frag} {mg : Str → Option Value} {base : Heap} {N : List Str} {qual : Str} {scope : Scope} {f : Addr} {cd : Value} {A : Around} {outer : List Env} {s0 s1 : Shared} {H0 H1 : Hp} {E : XK}
  {pins : List (Addr × Obj)} {σ : St}
theorem frs_tail {env : Env} {l : List Env} {b : Addr} (h : b ∈ frs l) : b ∈ frs (env :: l) := by
  unfold frs at h ⊢
  rw [List.filterMap_cons]
  split
  · exact h
  · exact List.mem_cons_of_mem _ h
theorem raise_xe {h' : Heap} {e : Addr} {cls : Value} {args : List Value} (I : Inv (cxOf (XF P w) P w K mg base N qual scope f cd A outer s0 H0 E) pins σ H1 s1) (hx : Heap.MadeExcOf s1.heap h' e cls args) (hE : E cls none H1) :
    (cxOf (XF P w) P w K mg base N qual scope f cd A outer s0 H0 E).xe (.ref e) { s1 with heap := h' } := by
  have st : s1.heap.FunFrames base (envOfC qual scope s0.heap.objs.size f cd :: outer) := I.stack
  have fz : ∀ b ∈ frs (envOfC qual scope s0.heap.objs.size f cd :: outer), H1 b = none := I.stkFree
  have sub : ∀ b ∈ frs (envOfC qual scope s0.heap.objs.size f cd :: outer), b = (envOfC qual scope s0.heap.objs.size f cd).locals ∨ b ∈ frs outer := fun b hb => List.mem_cons.mp (I.stkSub b hb)
  have above : s0.heap.objs.size ≤ (envOfC qual scope s0.heap.objs.size f cd).locals := I.ok.above
  have old : ∀ b o, s0.heap.get? b = some o → b ∉ frs outer → b ∉ frs (envOfC qual scope s0.heap.objs.size f cd :: outer) := fun b o q nb z => by
    rcases sub b z with z | z
    · subst z
      exact absurd (Nat.lt_of_lt_of_le (Heap.lt_size q) above) (Nat.lt_irrefl _)
    · exact nb z
  show wpAny (model P w) (A.deeper (envOfC qual scope s0.heap.objs.size f cd)) (leaving (envOfC qual scope s0.heap.objs.size f cd) (.ref e)) _ _ _
  refine wpAny_leaves_madeW (base := PySem.W.hideAll s1.heap (frs (envOfC qual scope s0.heap.objs.size f cd :: outer))) (h := s1.heap) I.ok.frames rfl (fun b o q => PySem.W.of_hideAll _ q)
    (PySem.W.funFrames_hide st fun env' he a ha => List.mem_filterMap.mpr ⟨env', he, ha⟩) hx fun h'' t fl tup bt ups => ?_
  have kept : ∀ b o, s1.heap.get? b = some o → b ∉ frs (envOfC qual scope s0.heap.objs.size f cd :: outer) → h''.get? b = some o := fun b o q nb => fl.1 b o (PySem.W.hideAll_get _ q nb)
  have u : Un (frs outer) [] H0 H1 s0.heap s1.heap := I.base
  refine ⟨e, cls, .ref t, _, H1, rfl, ⟨I.os, I.bare, u.onward (fun b o q nb old' => ?_) (fun b o q hb old' => ?_), I.hok.onward fun b o hb q => kept b o q fun z => hb (fz b z), fl, fun b hb => fz b (frs_tail hb), fun b o q nb hc => ?_⟩, hE⟩
  · obtain ⟨o', q'⟩ := old'
    exact kept b o q (old b o' q' nb)
  · obtain ⟨_, o', ho', nf⟩ := st.mem (frs_tail hb)
    rw [q] at ho'; cases ho'
    exact ups b o (hx.keeps b o q) nf
  · have key : ∃ o1, s1.heap.get? b = some o1 ∧ b ∉ frs (envOfC qual scope s0.heap.objs.size f cd :: outer) := by
      rcases hc with hc | ⟨o', q'⟩
      · cases e1 : H1 b with
        | none => exact absurd e1 hc
        | some u1 =>
          obtain ⟨o1, q1⟩ := (I.hok b u1 e1).there
          exact ⟨o1, q1, fun z => hc (fz b z)⟩
      · obtain ⟨o1, q1⟩ := u.there b o' q' (by simp)
        exact ⟨o1, q1, old b o' q' nb⟩
    obtain ⟨o1, q1, n1⟩ := key
    have z := kept b o1 q1 n1
    have q2 : h''.get? b = some o := q
    rw [q2] at z; cases z
    exact PySem.W.hideAll_get _ q1 n1

end
end L2

namespace L2
open PySem PySem.Spec PyProof.Rows PySem.W PySem.Calls Builtin Builtin.ObjectAttr Builtin.Getset_descriptor

def ExcAt (C e : Addr) (h : Heap) : Prop := ∃ o, h.get? e = some o ∧ o.cls = .ref C ∧ notCls o = true
theorem ExcAt.stays {C e : Addr} {h1 h2 : Heap} (x : ExcAt C e h1) (k : ∀ o, h1.get? e = some o → h2.get? e = some o) : ExcAt C e h2 :=
  let ⟨o, a, b⟩ := x
  ⟨o, k o a, b⟩
theorem ExcAt.type {C e : Addr} {h : Heap} {M : Model} (x : ExcAt C e h) : Looks M h (typeOf (.ref e)) (.ref C) := by
  obtain ⟨o, a, b, _⟩ := x
  exact b ▸ (Looks.ld a).andThen .now
structure ExcCls (K : Frag) (C : Addr) : Prop where
  cls : (clsIn K C).isSome = true
  ga : findIn K (.ref C) "__getattribute__" = some (some (.builtin "BaseException.__getattribute__"))
  gt : findIn K (.ref C) "__getattr__" = some none
  cl : findIn K (.ref C) "__class__" = some (some (.builtin "object.__class__"))
  get : specialIn K (.builtin "object.__class__") "__get__" = some (some (.builtin "getset_descriptor.__get__"))
  tk : takesIn K (.builtin "object.__class__") = some true
  ob : mroIn K C (.type "object") = some true
  be : mroIn K C (.type "BaseException") = some true
section
variable {prog : Program} {w : World} {A : Around} {E : Value → Shared → Prop} {s : Shared} {K : Frag} {e C : Addr}
theorem exc_find {M : Model} {h : Heap} (X : K.In h) (T : ExcCls K C) : Looks M h (Builtin.ObjectAttr.find (.ref e) (.ref C) "__class__") (.bind (.builtin "getset_descriptor.__get__") (.builtin "object.__class__")) := by
  have d : Looks M h (Builtin.ObjectAttr.dataDescriptor? (some (.builtin "object.__class__")) (some (.builtin "getset_descriptor.__get__"))) (some (.builtin "getset_descriptor.__get__", .builtin "object.__class__")) := (looks_takesIn X T.tk).andThen .now
  exact (looks_findIn X T.cl).andThen ((looks_specialIn X T.get).andThen (d.andThen (Looks.tag .now)))
theorem exc_class_get {R : Result → Shared → Prop} {tp : Value} (X : K.In s.heap) (I : ExcAt C e s.heap) (hm : mroIn K C (.type "object") = some true)
    (h : R (.ok (.ret (.ref C))) s) : codeAny (model prog w) A (.call (.builtin "getset_descriptor.__get__") ⟨[.builtin "object.__class__", .ref e, tp], []⟩) R s := by
  obtain ⟨hp, gs, dr, tk, os⟩ := s
  have l0 := I.type (M := model prog w)
  have l1 := looks_mroIn (M := model prog w) X hm
  refine codeAny_call_builtin KF.slot_gs.plain KF.entry_gs ?_
  refine KF.slot_gs.check _ _ _ _ _ _ _ _ KF.type_class (KF.args_gs _ _ _) ?_
  unfold Builtin.«getset_descriptor.__get__» descrGet
  rw [dga_obj]
  refine wpAny_bind (wpAny_pure ?_)
  unfold descrGetter descrCheckInstance descrNameAndClass isInstance
  simp only [KF.owner_class]
  repeat lk
  refine ⟨Code.quiet_builtin _ (by decide +kernel), codeAny_builtin KF.entry_class ?_⟩
  unfold Builtin.«object.__class__» shownTypeOf
  repeat lk
  exact h

theorem exc_entry {tk : Tok} {Q : PySem.Fin → Shared → Prop} (X : K.In s.heap) (T : ExcCls K C) (I : ExcAt C e s.heap) (h : Q (.done (.ret (.ref C))) s) :
    wpAny (model prog w) A (Builtin.«object.__getattribute__» ⟨[.ref e, .str "__class__" tk], []⟩) Q E s := by
  obtain ⟨hp, gs, dr, t, os⟩ := s
  have l0 := I.type (M := model prog w)
  have l1 := exc_find (e := e) (M := model prog w) X T
  unfold Builtin.«object.__getattribute__»
  repeat (first | with_reducible refine wpAny_call ?_ | lk)
  refine exc_class_get X I T.ob ?_
  repeat lk
  exact h
theorem exc_class {Q : Option Value → Shared → Prop} (X : K.In s.heap) (T : ExcCls K C) (I : ExcAt C e s.heap) (h : Q (some (.ref C)) { s with toks := s.toks + 1 }) : wpAny (model prog w) A (getAttr? (.ref e) "__class__") Q E s := by
  obtain ⟨hp, gs, dr, t, os⟩ := s
  have l0 := I.type (M := model prog w)
  have l1 := looks_findIn (M := model prog w) X T.ga
  have l2 := looks_findIn (M := model prog w) X T.gt
  have l3 := looks_mroIn (M := model prog w) X T.be
  unfold getAttr? getAttrBy? getAttrBy
  refine wpAny_bind (wpAny_mkText (wpAny_bind (wpAny_attempt (wpAny_holding (wpAny_bind (l0.at (wpAny_bind (l1.at ?_))))))))
  dsimp only
  have ne : (Value.builtin "BaseException.__getattribute__" == Value.builtin "object.__getattribute__") = false := by decide +kernel
  rw [if_neg (by rw [ne, Bool.and_false]; exact Bool.false_ne_true)]
  unfold getAttrByItsOwn hookBefore
  repeat (first | with_reducible refine wpAny_call ?_ | with_reducible refine wpAny_attempt ?_ | lk)
  have hk : builtinKind "BaseException.__getattribute__" = some .slot := by decide +kernel
  have hsplit : splitId "BaseException.__getattribute__" = some ("BaseException", "__getattribute__") := by decide +kernel
  refine codeAny_call_builtin (by decide +kernel) F.entry_bexc_ga ?_
  have ha := F.args_bexc_ga (.ref e) (.str (Str.ofString "__class__") t)
  show wpAny _ _ (checkBuiltinCall "BaseException.__getattribute__" ⟨[.ref e, .str (Str.ofString "__class__") t], []⟩) _ _ _
  simp only [checkBuiltinCall, hk, hsplit]
  unfold isInstance
  refine wpAny_bind (wpAny_bind (l0.at (l3.at ?_)))
  simp only [Bool.not_true, Bool.false_eq_true, if_false]
  refine wpAny_of_eq (show _ = pure () from ha) ?_
  refine wpAny_mono (exc_entry (E := fun _ _ => False) (Q := fun fin s' => fin = .done (.ret (.ref C)) ∧ s' = ⟨hp, gs, dr, t + 1, os⟩) X T I ⟨rfl, rfl⟩) (fun fin s' z => ?_) fun _ _ z => z.elim
  obtain ⟨rfl, rfl⟩ := z
  exact wpAny_pure (wpAny_pure h)
end
theorem kitx_exc {K : Frag} {e C : Addr} (T : ExcCls K C) : KitX K (.ref e) (.ref C) (ExcAt C e) where
  ty := fun _ _ _ I => I.type
  it := fun M h X _ => by
    obtain ⟨cd, hc⟩ := Option.isSome_iff_exists.mp T.cls
    unfold clsIn at hc
    split at hc
    · rename_i c' d' cd' sl' ho
      intro A' Q' E' s' k q
      unfold isType loadHead
      exact wpAny_bind (wpAny_loadPart (k _ _ (X _ _ ho)) (wpAny_pure q))
    · cases hc
  ne := fun h tp dd its n sl X htp => by
    obtain ⟨cd, hc⟩ := Option.isSome_iff_exists.mp T.cls
    refine Bool.eq_false_iff.mpr fun q => ?_
    have ee : C = tp := Value.ref.inj (beq_iff_eq.mp q)
    subst ee
    unfold clsIn at hc
    split at hc
    · rename_i c' d' cd' sl' ho
      have z := (X _ _ ho).symm.trans htp
      cases z
    · cases hc
  ca := fun X I k => exc_class X T I k
end L2

namespace L2
open PySem PySem.Spec PyProof.Rows

structure RoomQ (k : Nat) (A : Around) : Prop where
  dp : A.depth + 3 * k + 5 < recursionLimit
  un : A.units + 16 * k + 200 < cLine
structure FnOkQ (P : Program) (w : World) (K : PySem.W.Frag) (mg : Str → Option Value) (base : Heap) (k : Nat) (f : Addr) (fd : FuncData) (ps : List Str) (sp : Sp) : Prop where
  len : ∀ vs H Q E, sp vs H Q E → vs.length = ps.length
  run : ∀ (A : Around) (outer : List Env) (s : Shared) (H : Hp) (args : Args) (us : List Value) (vs : List V) (Q : VK) (E : XK), RoomQ k A → Env0 P w K mg base A outer s H → BindsTo s fd args (ps.zip us) → Vals vs us → sp vs H Q E →
    codeAny (model P w) A (.call (.ref f) args) (CR CX0 outer P w H s Q E) s
def cxQ (P : Program) (w : World) (K : PySem.W.Frag) (mg : Str → Option Value) (base : Heap) (N : List Str) (qual : Str) (scope : Scope) (f : Addr) (cd : Value) (A : Around) (outer : List Env) (s : Shared) (H : Hp) : Cx :=
  { cxOf CX0 P w K mg base N qual scope f cd A outer s H E0 with calm := false, xe := fun _ _ => False }
section
variable {P : Program} {w : World} {K : PySem.W.Frag} {mg : Str → Option Value} {base : Heap}
theorem Fun.okX {x qual : Str} {st : Stmt} {f : Addr} {fd : FuncData} {N ps : List Str} {k : Nat} {sp : Sp} (F : Fun K x qual st f fd) (S : FnScope N ps (defScope st)) (len : ∀ vs H Q E, sp vs H Q E → vs.length = ps.length)
    (hbody : ∀ (cdv : Value) (A : Around) (outer : List Env) (s : Shared) (H : Hp) (vs : List V) (Q : VK) (E : XK), Room k (A.deeper (envOfC qual (defScope st) s.heap.objs.size f cdv)) → sp vs H Q E →
      ∃ t, PSs (cxOf (XF P w) P w K mg base N qual (defScope st) f cdv A outer s H E) (defBody st) t ∧ t { nx := fun _ H' => Q .non H', rt := Q } (start N vs) H) : FnOk P w K mg base (XF P w) (k + 1) f fd ps sp := by
  obtain ⟨oc, od, kV, doc, pm, an, cdv, ct, osl, rfl, lk, hcd⟩ := F.ex
  exact fn_of lk hcd S len fun A outer s H vs Q E hr hsp => hbody cdv A outer s H vs Q E hr hsp
end
section
variable {X : Cx} {k : Nat} {f : Addr} {fd : FuncData} {ps : List Str} {sp : Sp} {dvs : List V} {ds : List Value} {x : Str} {p pos : Pos} {e : Expr} {es : List Expr} {t : TA}
end
theorem exc_obj {K : PySem.W.Frag} {h : Heap} {C : Addr} {bmB : List Value} {newId : String} (X : K.In h) (q : PySem.W.excIn K C bmB newId = true) :
    ∃ bm N nm qn bs hdct sn sub ab col dd k0 k1 k2 k3 k5 mN, h.get? C = some (excClassObj nm qn C N bs bm hdct sn sub ab col dd k0 k1 k2 k3 k5 newId) ∧ h.Ns N mN ∧ mN "__init__" = none ∧ OwnTail h bmB bm := by
  unfold PySem.W.excIn at q
  split at q
  · rename_i dd cd sl ho
    split at q
    · rename_i C' bm k0 k1 k2 k3 n k5 hm hs
      simp only [Bool.and_eq_true, beq_iff_eq, Bool.not_eq_true'] at q
      obtain ⟨⟨⟨⟨⟨c1, c2⟩, c3⟩, c4⟩, c5⟩, c6⟩ := q
      subst c1 c2
      obtain ⟨nm, bs, mro, ns, qn, hd, sn, sub, ab, col, del⟩ := cd
      dsimp only at hm c3 c5 c6
      subst hm c3
      obtain ⟨l⟩ := sl
      have hs' : l = [k0, k1, k2, k3, some (.builtin n), k5] := hs
      subst hs'
      exact ⟨bm, ns, nm, qn, bs, hd, sn, sub, ab, col, dd, k0, k1, k2, k3, k5, _, X _ _ ho, .of_isNs (PySem.W.isNs_of_in X c5), PySem.W.nsMap_none_of_in X c5 c6, PySem.W.tail_of_in X c4⟩
    · cases q
  · cases q
abbrev bmVE : List Value := [.type "ValueError", .type "Exception", .type "BaseException", .type "object"]
def tRaise (C : Addr) (E : XK) (ta : TA) : TS := fun _ σ H => ta σ H fun vs H1 => vs.length ≤ sizeLine ∧ E (.ref C) none H1
section
variable {P : Program} {w : World} {K : PySem.W.Frag} {mg : Str → Option Value} {base : Heap} {N : List Str} {qual : Str} {scope : Scope} {f : Addr} {cd : Value} {A : Around} {outer : List Env} {s0 : Shared} {H0 : Hp} {E : XK}
  {x : Str} {C : Addr} {np cpos pos : Pos} {e : Expr} {es : List Expr} {t : TA}
theorem ps_raise (hm : mg x = some (.ref C)) (hq : PySem.W.excIn K C bmVE "ValueError.__new__" = true) (hg : Gl (cxOf (XF P w) P w K mg base N qual scope f cd A outer s0 H0 E) x)
    (ha : PA (cxOf (XF P w) P w K mg base N qual scope f cd A outer s0 H0 E) (e :: es) t) (hdb : (x == ("__debug__" : Str)) = false := by decide)
    (he : starEach (e :: es) (cxOf (XF P w) P w K mg base N qual scope f cd A outer s0 H0 E).env = (false, eval e (cxOf (XF P w) P w K mg base N qual scope f cd A outer s0 H0 E).env) :: starEach es (cxOf (XF P w) P w K mg base N qual scope f cd A outer s0 H0 E).env := by rfl)
    (hpl : (backTo cpos (starEach es (cxOf (XF P w) P w K mg base N qual scope f cd A outer s0 H0 E).env)).any (·.1) = false := by rfl) :
    PS (cxOf (XF P w) P w K mg base N qual scope f cd A outer s0 H0 E) (.Raise (some (.Call (.Name x np) (e :: es) [] cpos)) none pos) (tRaise C E t) := by
  intro pins s σ H D I h
  obtain ⟨bm, Nn, nm, qn, bs, hdct, sn, sub, ab, col, dd, k0, k1, k2, k3, k5, mN, hC, hN, hni, TL⟩ := exc_obj I.mod.kin hq
  have hpl' : (backTo cpos (starEach (e :: es) (cxOf (XF P w) P w K mg base N qual scope f cd A outer s0 H0 E).env)).any (·.1) = false := by
    rw [he]
    show (false || (backTo cpos (starEach es _)).any (·.1)) = false
    rw [hpl]
    rfl
  refine wpAny_Raise_call_subT (C := C) (nm := nm) (q := qn) (N := Nn) (bs := bs) (bm := bm) (hdct := hdct) (sn := sn) (sub := sub) (ab := ab) (col := col) (dd := dd) (k0 := k0) (k1 := k1) (k2 := k2) (k3 := k3) (k5 := k5)
    PySem.F.excBase_ValueError (mN := mN) (TL.hasType PySem.F.excBase_ValueError.hasBase) (I.ok.hd rfl) hpl' hni (ld_glob I hg hm ⟨rfl, ?_⟩ hdb)
  have h2 := ha cpos pins s σ H _ I h
  rw [he] at h2 ⊢
  exact Calls.evalArgs_plain (wpAny_mono h2 (fun us s1 ⟨vs, H1, I1, r, z, q⟩ => ⟨rfl, by show us.length ≤ _; rw [← r.length]; exact z, I1.bk _ _ hC, hN.keeps I1.bk, TL.keeps I1.bk, fun h' ea hm' => raise_xe I1 hm' q⟩) fun _ _ y => y)
end
end L2

namespace L2
open PySem PySem.Spec PyProof.Rows

abbrev Cx.marked (X : Cx) (e : Addr) : Cx := { X with A := X.A.mark (some (.ref e)), calm := false, xe := fun _ _ => False }
theorem Cx.Ok.marked {X : Cx} (ok : X.Ok) (e : Addr) : (X.marked e).Ok :=
  ⟨ok.mod, ok.kind, ok.glob, ok.blt, ok.above, ok.inj, ok.has, ok.cab, (fun h => by cases h), ok.frames, ok.stk, ok.exf, ok.bs, ok.bsz, ok.noex, ok.exfs, ok.funs, ok.frf⟩
section
variable {X : Cx} {pins : List (Addr × Obj)} {σ : St} {H H' : Hp} {s s' : Shared} {e : Addr}
theorem Inv.marked (I : Inv X pins σ H s) (e : Addr) : Inv (X.marked e) pins σ H s := ⟨I.ok.marked e, I.os, I.bare, I.base, I.loc, I.cell, I.free, I.freeC, I.pin, I.hok, I.len⟩
theorem Inv.unmarked (ok : X.Ok) (I : Inv (X.marked e) pins σ H s) : Inv X pins σ H s := ⟨ok, I.os, I.bare, I.base, I.loc, I.cell, I.free, I.freeC, I.pin, I.hok, I.len⟩
theorem Un.more {fs : List Addr} {H H1 : Hp} {h h1 : Heap} {a : Addr} {o : HO} (u : Un fs [] H H1 h h1) (n : h.get? a = none) (n1 : H1 a = none) : Un fs [] H (upd H1 a o) h h1 where
  keep := u.keep
  slot := u.slot
  free := fun b ob q m hx => by
    have ne : b ≠ a := fun z => by subst z; rw [n] at q; cases q
    rw [upd_ne ne]
    exact u.free b ob q m hx
  there := u.there
  tups := fun b xs q => by
    have z := u.tups b xs q
    rw [upd_ne (ne_of_none z n1)]
    exact z
  frzs := fun b ob v q => by
    have z := u.frzs b ob v q
    rw [upd_ne (ne_of_none z n1)]
    exact z
  tbls := fun b ps q => by
    obtain ⟨m, z⟩ := u.tbls b ps q
    exact ⟨m, by rw [upd_ne (ne_of_none z n1)]; exact z⟩
theorem HOk.more {P : Program} {w : World} {H1 : Hp} {h1 : Heap} {a : Addr} {o : HO} (x : HOk P w H1 h1) (n1 : H1 a = none) (new : ObjOk P w (upd H1 a o) h1 a o) : HOk P w (upd H1 a o) h1 := fun b u e => by
  by_cases hb : b = a
  · subst hb; rw [upd_same] at e; cases e; exact new
  · rw [upd_ne hb] at e
    exact (x b u e).stay (fun _ _ _ q => q) (fun c q => by rw [upd_ne (ne_of_none q n1)]; exact q) fun c xs q => by rw [upd_ne (ne_of_none q n1)]; exact q
variable {cls a0 : Value} {ea C : Addr} {B h' : Heap} {t' : Nat}
theorem Fly.unF (x : Fly X.prog X.w X.stack H s cls a0 ea B H' s') (k : B.StaysIn h') (ups : s'.heap.UpToSlots h') : Un (frs X.stack) [] H H' s.heap h' :=
  x.un.onward (fun b o q nb old => k b o (x.cov b o q nb (.inr old))) fun b o q hb old => by
    obtain ⟨_, o', ho', nf⟩ := x.fly.2.2.1.mem hb
    rw [q] at ho'; cases ho'
    exact ups b o q nf
theorem Fly.hokF (x : Fly X.prog X.w X.stack H s cls a0 ea B H' s') (k : B.StaysIn h') : HOk X.prog X.w H' h' :=
  x.hok.onward fun b o hb q => k b o (x.cov b o q (fun z => hb (x.frf b z)) (.inl hb))
theorem Fly.notFrame (x : Fly X.prog X.w X.stack H s cls a0 ea B H' s') : ea ∉ frs X.stack := fun z => by
  obtain ⟨_, o', ho', nf⟩ := x.fly.2.2.1.mem z
  obtain ⟨oe, vs, he, _, hd, _⟩ := x.fly.first
  rw [he] at ho'; cases ho'
  exact nf vs hd
theorem Fly.new (x : Fly X.prog X.w X.stack H s cls a0 ea B H' s') : s.heap.get? ea = none ∧ H' ea = none := by
  obtain ⟨oe, vs, he, _, hd, _⟩ := x.fly.first
  constructor
  · cases q : s.heap.get? ea with
    | none => rfl
    | some o' =>
      have z := x.cov ea oe he x.notFrame (.inr ⟨o', q⟩)
      rw [x.fly.2.1] at z; cases z
  · cases q : H' ea with
    | none => rfl
    | some u =>
      have z := x.cov ea oe he x.notFrame (.inl (by rw [q]; simp))
      rw [x.fly.2.1] at z; cases z
theorem Inv.landed (I : Inv X pins σ H s) (x : Fly X.prog X.w X.stack H s cls a0 ea B H' s') (k : B.StaysIn h') (ups : s'.heap.UpToSlots h') : Inv X pins σ H' { s' with heap := h', toks := t' } :=
  I.call' (s' := { s' with heap := h', toks := t' }) (ch := []) x.os (x.unF k ups) (x.hokF k) x.bare fun b z => absurd z (by simp)
theorem Inv.landedE (I : Inv X pins σ H s) (x : Fly X.prog X.w X.stack H s (.ref C) a0 ea B H' s') {l : List Env} (fl : Heap.FlyingW B l ea (.ref C) a0 h') (ups : s'.heap.UpToSlots h') :
    Inv X pins σ (upd H' ea (.ext (ExcAt C ea))) { s' with heap := h', toks := t' } := by
  obtain ⟨oe, vs, he, hc, hd, _⟩ := fl.first
  have at_ : ExcAt C ea h' := ⟨oe, he, hc, by unfold PySem.W.notCls; rw [hd]⟩
  exact I.call' (s' := { s' with heap := h', toks := t' }) (ch := []) x.os ((x.unF fl.1 ups).more x.new.1 x.new.2) ((x.hokF fl.1).more x.new.2 ⟨at_, ⟨oe, he⟩, fun h1 h2 p q => p.stays q⟩) x.bare fun b z => absurd z (by simp)
theorem unbind_ok {M : Model} {A : Around} {E : Value → Shared → Prop} {i : Nat} {n : Str} {pos : Pos} {Q : Unit → Shared → Prop} (I : Inv X pins σ H s) (hN : X.N.Nodup) (hi : X.N[i]? = some n) (hk : X.env.scope.names.lookup n = some .local)
    (h : ∀ s', Inv X pins (σ.set i none) H s' → Q () s') : wpAny M A (do bindName X.env n .none; unbindBehindTheSuite X.env n pos) Q E s := by
  obtain ⟨m, hn, hl⟩ := id I.loc
  have hcls : (X.env.scope.kind == .class || (X.env.scope.kind == .module && X.env.locals != X.env.globals)) = false := by rw [I.ok.kind]; rfl
  have cne := I.cne
  obtain ⟨oL, _, _, hoL, _⟩ := id hn
  refine wpAny_nameGoes_keeps hk hn hcls fun h' v hn' hs => ?_
  have old : ∀ b o, X.s₀.heap.get? b = some o → h'.get? b = s.heap.get? b := fun b o e => hs.2 b (Nat.ne_of_lt (Nat.lt_of_lt_of_le (Heap.lt_size e) I.ok.above))
  refine h _ ⟨I.ok, I.os, I.bare, ⟨fun b o e k hb hx => (old b o e).trans (I.base.keep b o e k hb hx), fun b o e k hb hx => ?_, I.base.free, fun b o e hx => ?_, I.base.tups, I.base.frzs, I.base.tbls⟩, ⟨_, hn', fun j y v' e1 e2 e3 => ?_⟩, fun y c e => ?_, I.free, I.freeC, fun p hp => ?_, fun b ob e => ?_, by simpa using I.len⟩
  · obtain ⟨sl, e1⟩ := I.base.slot b o e k hb hx
    exact ⟨sl, (old b o e).trans e1⟩
  · obtain ⟨o', e1⟩ := I.base.there b o e hx
    exact ⟨o', (old b o e).trans e1⟩
  · by_cases hj : j = i
    · subst hj
      exfalso
      have hlt : j < σ.length := by rw [I.len]; exact (List.getElem?_eq_some_iff.mp hi).1
      rw [List.getElem?_set_self hlt] at e2
      cases e2
    · rw [List.getElem?_set_ne (Ne.symm hj)] at e2
      obtain ⟨u', r', q⟩ := hl j y v' e1 e2 e3
      refine ⟨u', r', ?_⟩
      rcases q with ⟨k, e⟩ | ⟨k, c, e, z⟩
      · refine .inl ⟨k, ?_⟩
        have ne : y ≠ n := fun z => hj (nodup_ix hN e1 (z ▸ hi))
        show (if y = n then v else m y) = some u'
        rw [if_neg ne]
        exact e
      · exact .inr ⟨k, c, e, z.sameBut hs (cne y c e)⟩
  · obtain ⟨w', z⟩ := I.cell y c e
    exact ⟨w', z.sameBut hs (cne y c e)⟩
  · obtain ⟨e, k, ne, nf, d⟩ := I.pin p hp
    exact ⟨(hs.2 p.1 ne).trans e, k, ne, nf, d⟩
  · refine (I.hok b ob e).stay (fun c w' hc q => (hs.2 c ?_).trans q) (fun _ q => q) fun _ _ q => q
    rintro rfl
    rcases hc with rfl | hc
    · rw [I.free] at e; cases e
    · rw [I.free] at hc; cases hc
def asEnds (D : Ends) (i : Nat) : Ends := { nx := fun σ H => D.nx (σ.set i none) H, rt := D.rt, bk := fun σ H => D.bk (σ.set i none) H, ct := fun σ H => D.ct (σ.set i none) H }
end
def tTryAs (sp : Sp) (C : Addr) (i : Nat) (ta : TA) (ts : TS) : TS := fun D σ H => ta σ H fun vs H1 => sp vs H1 (fun _ H2 => D.nx σ H2) fun cls _ H2 => cls = .ref C ∧ ∀ e, H2 e = none → ts (asEnds D i) (σ.set i (some (.ref e))) (upd H2 e (.ext (ExcAt C e)))
section
variable {X : Cx} {k : Nat} {f C : Addr} {fd : FuncData} {ps : List Str} {sp : Sp} {g x n : Str} {p pos pos2 pos3 np hpos : Pos} {e : Expr} {es : List Expr} {t : TA} {ts : TS} {b₀ : Stmt} {suite : List Stmt} {i : Nat}
end
end L2

namespace L2
open PySem PySem.Spec PyProof.Rows

theorem reads_bools (h : Heap) : ∀ {bs : List Bool} {us : List Value}, Vals (bs.map V.bl) us → ReadsAll h us (bs.map PyData.bool) []
  | [], _, .nil => .nil
  | b :: r, _, .cons q t => by
    have q' : _ = Value.bool b := q
    subst q'
    exact ReadsAll.cons (as := []) (bs := []) (.bool b) (reads_bools h t)
def rCount : V → List V → Hp → VK → Prop := fun x vs H Q => ∃ (l : Addr) (bs : List Bool) (k : Bool), x = .ref l ∧ vs = [.bl k] ∧ H l = some (.lst (bs.map V.bl)) ∧ Q (.int (countIn (.bool k) (bs.map PyData.bool))) H
inductive TyX (K : PySem.W.Frag) (H : Hp) : V → Value → Prop where
  | of {x : V} {t : Value} (h : TyOf K H x t) : TyX K H x t
  | exc {e C : Addr} (T : ExcCls K C) (h : H e = some (.ext (ExcAt C e))) : TyX K H (.ref e) (.ref C)
def valOf : V → Value
  | .ref a => .ref a
  | .ty n => .type n
  | _ => .none
def rIsi (K : PySem.W.Frag) : List V → Hp → VK → Prop := fun xs H Q => ∃ x c t b, xs = [x, c] ∧ ((∃ a, c = .ref a) ∨ ∃ n, c = .ty n) ∧ TyX K H x t ∧ PySem.W.kitOne K t (valOf c) = some b ∧ Q (.bl b) H
theorem call_isi {X : Cx} : CallR X (.builtin "isinstance") (rIsi X.K) := by
  intro pins s σ H xs us Q I rv h
  obtain ⟨x, c, t, b, rfl, hc, ty, e, q⟩ := h
  obtain ⟨u, uc, rfl, ru, rc⟩ := rv.two
  have huc : uc = valOf c := by
    rcases hc with ⟨a, rfl⟩ | ⟨n, rfl⟩
    · exact rc
    · exact rc
  subst huc
  have fin : ∀ tk, EP X pins σ Q (.bool b) { s with toks := tk } := fun tk => ⟨.bl b, H, I.tok tk, rfl, q⟩
  cases ty with
  | of ty => exact isinst_ok I ru ty e fin
  | @exc ea C T he =>
    have ru' : u = Value.ref ea := ru
    subst ru'
    obtain ⟨p, _, _⟩ := (show ObjOk X.prog X.w H s.heap ea (.ext (ExcAt C ea)) from I.hok ea _ he)
    exact PySem.W.kia_one (kitx_exc T) I.kIn p e (fun z => nomatch z) fin

theorem bits_of_lay {ns : List Int} (h : PySem.W.WData.layableAll [PySem.W.WData.list (ns.map PySem.W.WData.int)] = true) : ∀ n ∈ ns, Builtin.Int.intBits n ≤ 1048576 := fun n hn => by
  have h1 := (PySem.W.layW_cons h).1
  have h2 := PySem.W.layableW_item h1 (.int n) (List.mem_map.mpr ⟨n, hn, rfl⟩)
  have h3 : PyData.layable0 (.int n) = true := h2
  exact PyData.bits_of_layable h3
theorem walk_b {l : PySem.W.OpenLaw} {n k : Nat} {q : Program} {loose : List Str} {XP : (Str → Option Value) → Heap → Prop} {YP : World → Heap → Prop} {d : DefRec} {K : Params → PySem.W.Frag} {CX : World → CXT} {sp : World → Sp} {x : Str}
    (hn : l.most = some n) (hn2 : n ≤ sizeLine) (hdf : d.params.defaults = []) (hr : Room k callerA)
    (hY : ∀ (w : World) (h : Heap), YP w h → (K w.params).In h)
    (F : ∀ (w : World) (mg : Str → Option Value) (fa : Addr) (h : Heap), (K w.params).In h → h.Ns mainGlobals mg → mg d.name = some (.ref fa) →
      ∃ fd : FuncData, (∀ (s : Shared) (u : Value), BindsTo s fd ⟨[u], []⟩ [(x, u)]) ∧
        ∀ base : Heap, (K w.params).In base → base.Ns mainGlobals mg → FnOk l.prog w (K w.params) mg base (CX w) k fa fd [x] (sp w))
    (hsp : ∀ (w : World) (H : Hp) (a : Addr) (ns : List Int), ns.length ≤ n → (∀ m ∈ ns, Builtin.Int.intBits m ≤ 1048576) → SqL (K w.params) H a (ns.map V.int) → sp w [.ref a] H (fun v _ => v = .bl true) fun _ _ _ => False)
    (hCX : ∀ (w : World) (H : Hp) (s : Shared) (e : Value) (s' : Shared), CX w [] H s (fun _ _ _ => False) e s' → False) :
    PySem.W.WalkO q loose XP YP l.row.toRowW d [] (fun f vs => PySem.call f vs) := by
  intro w s₀ s₁ mg mb G Y fa o pm cd doc dV kV ho hd hcd hD hmg hg args vals as hpre hlay hrd hwl hlo
  obtain ⟨a, vs, ns, rfl, rfl, hobj, hints, hlen⟩ := Att.script_of hn hpre hwl
  have KX := hY w _ Y
  obtain ⟨fd, hb, hF⟩ := F w mg fa _ KX G.T.g hmg
  have call := law_call KX G.T.g G.T.b G.T.builtins G.T.nolimit hg hobj hints (Nat.le_trans hlen hn2) hr hF hb (fun H hO hS => hsp w H a ns hlen (bits_of_lay hlay) hS) fun H e s' => hCX w H s₁ e s'
  refine PySem.W.enter_call (codeAny_mono call fun r s' hq => ?_)
  obtain ⟨rfl, h2, h3, h4⟩ := hq
  exact ⟨.inl ⟨.bool true, .bool true, [], rfl, fun _ => rfl, .bool true, Att.post_true l _, fun _ => ⟨List.Pairwise.nil, fun _ hm => (nomatch hm)⟩⟩, h2, h3, h4⟩
def spLaw (K : PySem.W.Frag) : Sp := fun vs H Q _ => ∃ (a : Addr) (ns : List Int), vs = [.ref a] ∧ SqL K H a (ns.map V.int) ∧ ns.length ≤ 63 ∧ (∀ m ∈ ns, Builtin.Int.intBits m ≤ 1048576) ∧ ∀ H', Q (.bl true) H'
end L2

namespace L2
open PySem PySem.Spec PyProof.Rows

def tCut (t u : TS) : TS := fun D σ H => ∃ R : St → Hp → Prop, t { D with nx := R } σ H ∧ ∀ σ' H', R σ' H' → u D σ' H'
theorem pss_cut {X : Cx} {st : Stmt} {rest : List Stmt} {t u : TS} (h1 : PS X st t) (h2 : PSs X rest u) : PSs X (st :: rest) (tCut t u) := by
  intro pins s σ H D I h
  obtain ⟨R, h, k⟩ := h
  refine wpAny_execs_cons (thn (h1 pins s σ H { D with nx := R } I h) fun f s1 q => ?_)
  cases f with
  | next =>
    obtain ⟨σ', H', I', q⟩ := q
    exact h2 pins s1 σ' H' D I' (k _ _ q)
  | ret v => exact q
  | brk => exact q
  | cont => exact q

theorem bits_lit {i : Int} {k : Nat} (h : i.natAbs < 2 ^ k) (hk : k ≤ 1048576) : Builtin.Int.intBits i ≤ 1048576 := Nat.le_trans (intBits_le h) hk
theorem mulOk {a b : Int} (ha : Builtin.Int.intBits a ≤ 1048576) (hb : Builtin.Int.intBits b ≤ 1048576) : IntMulOk a b := IntMulOk.of_bits ha hb
theorem log2_lt_of {i : Int} {k : Nat} (h : i.natAbs < 2 ^ k) (hk : 0 < k) : i.natAbs.log2 < k := by
  by_cases h0 : i.natAbs = 0
  · rw [h0]; exact hk
  · exact (Nat.log2_lt h0).mpr h

def spCell (K : PySem.W.Frag) : Sp := fun vs H Q _ => ∃ (a : Addr) (ns : List Int) (k : Int), vs = [.ref a, .int k] ∧ SqL K H a (ns.map V.int) ∧ 0 ≤ k ∧ Q (.int (ns.getD k.toNat 0)) H
theorem cell_in {ns : List Int} {k : Int} (h0 : 0 ≤ k) (h : k < ((ns.map V.int).length : Nat)) : atI (ns.map V.int) k = some (.int (ns.getD k.toNat 0)) := by
  rw [List.length_map] at h
  have hk : k.toNat < ns.length := by omega
  have ek : k = ((k.toNat : Nat) : Int) := by omega
  have q : atI (ns.map V.int) ((k.toNat : Nat) : Int) = some (.int (ns.getD k.toNat 0)) := atI_nat (by
    rw [List.getElem?_map, List.getElem?_eq_getElem hk, List.getD_eq_getElem?_getD, List.getElem?_eq_getElem hk]
    rfl)
  rw [← ek] at q
  exact q
theorem cell_out {ns : List Int} {k : Int} (h : ¬ k < ((ns.map V.int).length : Nat)) (h0 : 0 ≤ k) : ns.getD k.toNat 0 = 0 := by
  rw [List.length_map] at h
  rw [List.getD_eq_getElem?_getD, List.getElem?_eq_none (by omega)]
  rfl
def spWhole : Sp := fun vs H Q _ => ∃ n, vs = [.int n] ∧ Q (.bl true) H
def spAlone (C : Addr) : Sp := fun vs H Q _ => ∃ e, vs = [.ref e] ∧ H e = some (.ext (ExcAt C e)) ∧ ∀ H', Same H H' → Q (.bl true) H'
theorem same_new {H : Hp} {p : Addr} (h : H p = none) (o : HO) : Same H (upd H p o) := fun b u q => by rw [upd_ne (ne_of_none q h)]; exact q
end L2
namespace L2
open PySem PySem.Spec PyProof.Rows
def Has (P : Program) (w : World) (K : PySem.W.Frag) (mg : Str → Option Value) (base : Heap) (CX : CXT) (k : Nat) (x : Str) (ps : List Str) (sp : Sp) : Prop :=
  ∃ (f : Addr) (fd : FuncData), FnOk P w K mg base CX k f fd ps sp ∧ Binds K fd ps [] ∧ PySem.W.keepIn K (.ref f) = true ∧ mg x = some (.ref f)
def HasQ (P : Program) (w : World) (K : PySem.W.Frag) (mg : Str → Option Value) (base : Heap) (k : Nat) (x : Str) (ps : List Str) (sp : Sp) : Prop :=
  ∃ (f : Addr) (fd : FuncData), FnOkQ P w K mg base k f fd ps sp ∧ Binds K fd ps [] ∧ PySem.W.keepIn K (.ref f) = true ∧ mg x = some (.ref f)
theorem decT {p : Prop} [Decidable p] (h : decide p = true) : p := of_decide_eq_true h
theorem decF {p : Prop} [Decidable p] (h : ¬ decide p = true) : ¬ p := of_decide_eq_false (Bool.eq_false_iff.mpr h)
theorem int_inj {a b : Int} (h : V.int a = V.int b) : a = b := V.int.inj h
end L2
namespace L2
open PySem PySem.Spec PyProof.Rows
inductive IntsE : List Expr → List Int → Prop where
  | nil : IntsE [] []
  | cons {i : Int} {j : Nat} {pos : Pos} {es : List Expr} {ns : List Int} (h : IntsE es ns) : IntsE (.Constant (.int i) j pos :: es) (i :: ns)
theorem pa_ints {X : Cx} {es : List Expr} {ns : List Int} (h : IntsE es ns) : PA X es (fun _ H Q => Q (ns.map V.int) H) := by
  induction h with
  | nil => exact pa_nil
  | cons h ih => exact pa_cons pe_int ih
end L2
namespace L2
open PySem PySem.Spec PyProof.Rows
end L2

namespace Pr
theorem quot (x y : Int) : x = y * Int.fdiv x y + Int.fmod x y := by rw [Int.fmod_def]; omega
theorem mul_ge {a b c : Int} (h : 1 ≤ b) (ha : c ≤ a) (hc : 0 ≤ c) : c ≤ a * b := by
  have := Int.mul_le_mul ha h (by omega) (by omega)
  omega
theorem pow_pos' {p : Int} (hp : 1 ≤ p) : ∀ n : Nat, 1 ≤ p ^ n
  | 0 => by simp
  | n + 1 => by
    rw [Int.pow_succ]
    exact mul_ge hp (pow_pos' hp n) (by omega)
def NoDiv (x d : Int) : Prop := ∀ k, 2 ≤ k → k < d → ¬ k ∣ x
structure Prm (p : Int) : Prop where
  two : 2 ≤ p
  no : ∀ k, 2 ≤ k → k * k ≤ p → ¬ k ∣ p
theorem sq_lt_of {k d : Int} (hk : 0 ≤ k) (hd : 0 ≤ d) (h : k * k < d * d) : k < d := by
  rcases Int.lt_or_le k d with h1 | h1
  · exact h1
  · have := Int.mul_le_mul h1 h1 hd hk
    omega
theorem prm_of {d x : Int} (h2 : 2 ≤ d) (h : NoDiv x d) (hd : d ∣ x) : Prm d := by
  refine ⟨h2, fun k k2 kk hk => h k k2 ?_ (Int.dvd_trans hk hd)⟩
  have := Int.mul_le_mul_of_nonneg_right k2 (show 0 ≤ k by omega)
  omega
theorem prm_left {d x : Int} (h2 : 2 ≤ d) (h : NoDiv x d) (hx : x < d * d) (x1 : 1 < x) : Prm x := by
  refine ⟨by omega, fun k k2 kk hk => h k k2 ?_ hk⟩
  exact sq_lt_of (by omega) (by omega) (by omega)
theorem left_ge {d x : Int} (h : NoDiv x d) (x1 : 1 < x) : d ≤ x := by
  rcases Int.lt_or_le x d with h1 | h1
  · exact absurd (Int.dvd_refl x) (h x (by omega) h1)
  · exact h1
def prodP : List (Int × Int) → Int
  | [] => 1
  | x :: r => x.1 ^ x.2.toNat * prodP r
theorem prodP_app (xs ys : List (Int × Int)) : prodP (xs ++ ys) = prodP xs * prodP ys := by
  induction xs with
  | nil => simp [prodP]
  | cons x r ih => simp only [List.cons_append, prodP, ih, Int.mul_assoc]
theorem prodP_one (p e : Int) : prodP [(p, e)] = p ^ e.toNat := by simp [prodP]
structure Part (x : Int × Int) : Prop where
  prime : Prm x.1
  often : 1 ≤ x.2
structure Told (n : Int) (xs : List (Int × Int)) : Prop where
  all : ∀ x ∈ xs, Part x
  rise : xs.Pairwise fun x y => x.1 < y.1
  prod : prodP xs = n
theorem prodP_pos {xs : List (Int × Int)} (h : ∀ x ∈ xs, Part x) : 1 ≤ prodP xs := by
  induction xs with
  | nil => simp [prodP]
  | cons x r ih =>
    simp only [prodP]
    have h1 := ih fun y hy => h y (.tail _ hy)
    exact mul_ge h1 (pow_pos' (by have := (h x (.head _)).prime.two; omega) _) (by omega)
theorem pow_le_prodP {xs : List (Int × Int)} (h : ∀ x ∈ xs, Part x) {x : Int × Int} (hx : x ∈ xs) : x.1 ^ x.2.toNat ≤ prodP xs := by
  induction xs with
  | nil => exact nomatch hx
  | cons y r ih =>
    simp only [prodP]
    have h1 := prodP_pos fun z hz => h z (.tail _ hz)
    have hy : 1 ≤ y.1 ^ y.2.toNat := pow_pos' (by have := (h y (.head _)).prime.two; omega) _
    rcases List.mem_cons.mp hx with rfl | hx
    · exact mul_ge h1 (Int.le_refl _) (by omega)
    · have h2 := ih (fun z hz => h z (.tail _ hz)) hx
      rw [Int.mul_comm]
      exact mul_ge hy h2 (by have := pow_pos' (show 1 ≤ x.1 by have := (h x (.tail _ hx)).prime.two; omega) x.2.toNat; omega)
theorem two_pow_le {p : Int} (hp : 2 ≤ p) : ∀ n : Nat, (2 : Int) ^ n ≤ p ^ n
  | 0 => by simp
  | n + 1 => by
    rw [Int.pow_succ, Int.pow_succ]
    exact Int.mul_le_mul (two_pow_le hp n) hp (by omega) (by have := pow_pos' (show 1 ≤ p by omega) n; omega)
theorem pow_mono {a b : Nat} (h : a ≤ b) : (2 : Int) ^ a ≤ (2 : Int) ^ b := by
  obtain ⟨c, rfl⟩ := Nat.exists_eq_add_of_le h
  rw [Int.pow_add]
  exact mul_ge (pow_pos' (by omega) c) (Int.le_refl _) (by have := pow_pos' (show (1 : Int) ≤ 2 by omega) a; omega)
theorem often_le {n : Int} {xs : List (Int × Int)} (h : Told n xs) (hn : n ≤ 10 ^ 10) {x : Int × Int} (hx : x ∈ xs) : x.2 ≤ 40 := by
  rcases Int.lt_or_le 40 x.2 with h1 | h1
  · exfalso
    have h2 := pow_le_prodP h.all hx
    have h3 := two_pow_le (h.all x hx).prime.two x.2.toNat
    have h4 := pow_mono (show 40 ≤ x.2.toNat by omega)
    rw [h.prod] at h2
    have : (2 : Int) ^ 40 = 1099511627776 := by decide
    omega
  · exact h1
theorem part_le {n : Int} {xs : List (Int × Int)} (h : Told n xs) {x : Int × Int} (hx : x ∈ xs) : x.1 ≤ n := by
  have h2 := pow_le_prodP h.all hx
  rw [h.prod] at h2
  have h1 := (h.all x hx).often
  obtain ⟨k, hk⟩ : ∃ k, x.2.toNat = k + 1 := ⟨x.2.toNat - 1, by omega⟩
  rw [hk, Int.pow_succ] at h2
  have := mul_ge (pow_pos' (show 1 ≤ x.1 by have := (h.all x hx).prime.two; omega) k) (Int.le_refl x.1) (by have := (h.all x hx).prime.two; omega)
  rw [Int.mul_comm] at this
  omega
structure Out (n left d : Int) (xs : List (Int × Int)) : Prop where
  all : ∀ x ∈ xs, Part x
  rise : xs.Pairwise fun x y => x.1 < y.1
  below : ∀ x ∈ xs, x.1 < d
  prod : prodP xs * left = n
  no : NoDiv left d
  odd : d = 2 ∨ d % 2 = 1
theorem out_start (n : Int) : Out n n 2 [] := ⟨fun _ h => (nomatch h), .nil, fun _ h => (nomatch h), by simp [prodP], fun k h1 h2 => by omega, .inl rfl⟩
theorem out_left {n left d : Int} {xs : List (Int × Int)} (h : Out n left d xs) (l1 : 1 ≤ left) : left ≤ n := by
  have := h.prod
  have := mul_ge (prodP_pos h.all) (Int.le_refl left) (by omega)
  rw [Int.mul_comm] at this
  omega
structure Inn (left₀ d left often : Int) : Prop where
  eq : left₀ = d ^ often.toNat * left
theorem inn_start (left d : Int) : Inn left d left 0 := ⟨by simp⟩
theorem inn_turn {left₀ d left often : Int} (h : Inn left₀ d left often) (o : 0 ≤ often) (hz : Int.fmod left d = 0) : Inn left₀ d (Int.fdiv left d) (often + 1) := by
  have q := quot left d
  rw [hz] at q
  refine ⟨?_⟩
  have e : (often + 1).toNat = often.toNat + 1 := by omega
  rw [e, Int.pow_succ, h.eq, Int.mul_assoc]
  congr 1
  omega
theorem fmod_ne {x d : Int} (h : Int.fmod x d ≠ 0) : ¬ d ∣ x := fun hd => h (Int.fmod_eq_zero_of_dvd hd)
theorem nodiv_next {left₀ d left often : Int} (hi : Inn left₀ d left often) (h2 : 2 ≤ d) (ho : d = 2 ∨ d % 2 = 1) (hn : NoDiv left₀ d) (hz : Int.fmod left d ≠ 0) (d' : Int) (hd : d' = if d = 2 then 3 else d + 2) : NoDiv left d' ∧ (d' = 2 ∨ d' % 2 = 1) ∧ d < d' := by
  have hl : left ∣ left₀ := ⟨d ^ often.toNat, by rw [hi.eq, Int.mul_comm]⟩
  have up : NoDiv left (d + 1) := by
    intro k k2 kd hk
    rcases (show k < d ∨ k = d by omega) with h | h
    · exact hn k k2 h (Int.dvd_trans hk hl)
    · subst h; exact fmod_ne hz hk
  by_cases e : d = 2
  · rw [if_pos e] at hd
    subst hd
    subst e
    exact ⟨up, by omega, by omega⟩
  · rw [if_neg e] at hd
    subst hd
    refine ⟨?_, by omega, by omega⟩
    intro k k2 kd hk
    rcases (show k < d + 1 ∨ k = d + 1 by omega) with h | h
    · exact up k k2 h hk
    · subst h
      refine up 2 (by omega) (by omega) (Int.dvd_trans ?_ hk)
      omega
theorem out_none {n left₀ left d often : Int} {xs : List (Int × Int)} (h : Out n left₀ d xs) (hi : Inn left₀ d left often) (h2 : 2 ≤ d) (o : often = 0) (hz : Int.fmod left d ≠ 0) {d' : Int} (hd : d' = if d = 2 then 3 else d + 2) : Out n left d' xs := by
  obtain ⟨a, b, c⟩ := nodiv_next hi h2 h.odd h.no hz d' hd
  refine ⟨h.all, h.rise, fun x hx => by have := h.below x hx; omega, ?_, a, b⟩
  have e := hi.eq
  subst o
  simp at e
  rw [← e]
  exact h.prod
theorem out_some {n left₀ left d often : Int} {xs : List (Int × Int)} (h : Out n left₀ d xs) (hi : Inn left₀ d left often) (h2 : 2 ≤ d) (o : 0 < often) (hz : Int.fmod left d ≠ 0) {d' : Int} (hd : d' = if d = 2 then 3 else d + 2) : Out n left d' (xs ++ [(d, often)]) := by
  obtain ⟨a, b, c⟩ := nodiv_next hi h2 h.odd h.no hz d' hd
  have dv : d ∣ left₀ := by
    obtain ⟨k, hk⟩ : ∃ k, often.toNat = k + 1 := ⟨often.toNat - 1, by omega⟩
    refine ⟨d ^ k * left, ?_⟩
    rw [hi.eq, hk, Int.pow_succ, Int.mul_comm (d ^ k) d, Int.mul_assoc]
  refine ⟨?_, ?_, ?_, ?_, a, b⟩
  · intro x hx
    rcases List.mem_append.mp hx with hx | hx
    · exact h.all x hx
    · rw [List.mem_singleton.mp hx]
      exact ⟨prm_of h2 h.no dv, by omega⟩
  · refine List.pairwise_append.mpr ⟨h.rise, List.pairwise_singleton _ _, ?_⟩
    intro x hx y hy
    rw [List.mem_singleton.mp hy]
    exact h.below x hx
  · intro x hx
    rcases List.mem_append.mp hx with hx | hx
    · have := h.below x hx; omega
    · rw [List.mem_singleton.mp hx]; exact c
  · rw [prodP_app, prodP_one, Int.mul_assoc, ← hi.eq]
    exact h.prod
theorem told_last {n left d : Int} {xs : List (Int × Int)} (h : Out n left d xs) (h2 : 2 ≤ d) (hx : left < d * d) (l1 : 1 < left) : Told n (xs ++ [(left, 1)]) := by
  refine ⟨?_, ?_, ?_⟩
  · intro x hx'
    rcases List.mem_append.mp hx' with hx' | hx'
    · exact h.all x hx'
    · rw [List.mem_singleton.mp hx']
      exact ⟨prm_left h2 h.no hx l1, by omega⟩
  · refine List.pairwise_append.mpr ⟨h.rise, List.pairwise_singleton _ _, ?_⟩
    intro x hx' y hy
    rw [List.mem_singleton.mp hy]
    have := h.below x hx'
    have := left_ge h.no l1
    show x.1 < left
    omega
  · rw [prodP_app, prodP_one, show (1 : Int).toNat = 1 from rfl, Int.pow_one]
    exact h.prod
theorem told_none {n left d : Int} {xs : List (Int × Int)} (h : Out n left d xs) (l1 : left = 1) : Told n xs := by
  refine ⟨h.all, h.rise, ?_⟩
  have := h.prod
  subst l1
  omega
theorem len_le {xs : List (Int × Int)} (h : ∀ x ∈ xs, Part x) : (2 : Int) ^ xs.length ≤ prodP xs := by
  induction xs with
  | nil => simp [prodP]
  | cons x r ih =>
    have h1 := ih fun y hy => h y (.tail _ hy)
    have hp := (h x (.head _)).prime.two
    have ho := (h x (.head _)).often
    simp only [prodP, List.length_cons]
    rw [Int.pow_succ, Int.mul_comm]
    obtain ⟨k, hk⟩ : ∃ k, x.2.toNat = k + 1 := ⟨x.2.toNat - 1, by omega⟩
    have : 2 ≤ x.1 ^ x.2.toNat := by
      rw [hk, Int.pow_succ, Int.mul_comm]
      exact mul_ge (pow_pos' (by omega) k) hp (by omega)
    exact Int.mul_le_mul this h1 (by have := pow_pos' (show (1 : Int) ≤ 2 by omega) r.length; omega) (by omega)
theorem prm_one_or {p k : Int} (h : Prm p) (k1 : 1 ≤ k) (hk : k ∣ p) : k = 1 ∨ k = p := by
  have p2 := h.two
  obtain ⟨m, hm⟩ := hk
  rcases (show k = 1 ∨ 2 ≤ k by omega) with e | k2
  · exact .inl e
  · have m1 : 1 ≤ m := by
      rcases Int.lt_or_le m 1 with h1 | h1
      · have := Int.mul_le_mul_of_nonneg_left (show m ≤ 0 by omega) (show 0 ≤ k by omega)
        omega
      · exact h1
    rcases (show m = 1 ∨ 2 ≤ m by omega) with e | m2
    · subst e; exact .inr (by omega)
    · exfalso
      rcases Int.le_total k m with hle | hle
      · have := Int.mul_le_mul_of_nonneg_left hle (show 0 ≤ k by omega)
        exact h.no k k2 (by omega) ⟨m, hm⟩
      · have := Int.mul_le_mul_of_nonneg_right hle (show 0 ≤ m by omega)
        exact h.no m m2 (by omega) ⟨k, by rw [hm, Int.mul_comm]⟩
theorem prm_coprime {p x : Int} (h : Prm p) (hx : ¬ p ∣ x) : Nat.Coprime p.natAbs x.natAbs := by
  have p2 := h.two
  have g1 : (Nat.gcd p.natAbs x.natAbs) ∣ p.natAbs := Nat.gcd_dvd_left _ _
  have g2 : (Nat.gcd p.natAbs x.natAbs) ∣ x.natAbs := Nat.gcd_dvd_right _ _
  have g0 : 0 < Nat.gcd p.natAbs x.natAbs := Nat.gcd_pos_of_pos_left _ (by omega)
  show Nat.gcd p.natAbs x.natAbs = 1
  generalize Nat.gcd p.natAbs x.natAbs = g at g0 g1 g2
  have d1 : (g : Int) ∣ p := Int.ofNat_dvd_left.mpr g1
  rcases prm_one_or h (by omega) d1 with e | e
  · omega
  · exfalso
    apply hx
    rw [← e]
    exact Int.ofNat_dvd_left.mpr g2
theorem euclid {p x y : Int} (h : Prm p) (hd : p ∣ x * y) : p ∣ x ∨ p ∣ y := by
  by_cases hx : p ∣ x
  · exact .inl hx
  · right
    have c := prm_coprime h hx
    have d : p.natAbs ∣ x.natAbs * y.natAbs := by
      rw [← Int.natAbs_mul]
      exact Int.natAbs_dvd_natAbs.mpr hd
    exact Int.natAbs_dvd_natAbs.mp (c.dvd_of_dvd_mul_left d)
theorem prm_dvd_prm {p q : Int} (h : Prm p) (k : Prm q) (hd : p ∣ q) : p = q := by
  rcases prm_one_or k (by have := h.two; omega) hd with e | e
  · have := h.two; omega
  · exact e
theorem prm_not_one {p : Int} (h : Prm p) : ¬ p ∣ 1 := fun hd => by
  have := Int.le_of_dvd (by omega) hd
  have := h.two
  omega
theorem prm_some : ∀ (n : Nat) (k : Int), 2 ≤ k → k.toNat ≤ n → ∃ q, Prm q ∧ q ∣ k := by
  intro n
  induction n with
  | zero => intro k h1 h2; omega
  | succ n ih =>
    intro k h1 h2
    by_cases h : ∃ j, 2 ≤ j ∧ j * j ≤ k ∧ j ∣ k
    · obtain ⟨j, j2, jj, hj⟩ := h
      have := Int.mul_le_mul_of_nonneg_right j2 (show 0 ≤ j by omega)
      obtain ⟨q, hq, hd⟩ := ih j j2 (by omega)
      exact ⟨q, hq, Int.dvd_trans hd hj⟩
    · exact ⟨k, ⟨h1, fun j j2 jj hj => h ⟨j, j2, jj, hj⟩⟩, Int.dvd_refl k⟩
def coreP : List (Int × Int) → Int
  | [] => 1
  | x :: r => (if x.2 % 2 = 1 then x.1 else 1) * coreP r
def rootP : List (Int × Int) → Int
  | [] => 1
  | x :: r => x.1 ^ (x.2 / 2).toNat * rootP r
theorem coreP_app (xs ys : List (Int × Int)) : coreP (xs ++ ys) = coreP xs * coreP ys := by
  induction xs with
  | nil => simp [coreP]
  | cons x r ih => simp only [List.cons_append, coreP, ih, Int.mul_assoc]
theorem rootP_app (xs ys : List (Int × Int)) : rootP (xs ++ ys) = rootP xs * rootP ys := by
  induction xs with
  | nil => simp [rootP]
  | cons x r ih => simp only [List.cons_append, rootP, ih, Int.mul_assoc]
theorem half_pow {p e : Int} (he : 0 ≤ e) : (if e % 2 = 1 then p else 1) * (p ^ (e / 2).toNat * p ^ (e / 2).toNat) = p ^ e.toNat := by
  rw [← Int.pow_add]
  split
  · rw [Int.mul_comm, ← Int.pow_succ]
    congr 1
    omega
  · rw [Int.one_mul]
    congr 1
    omega
theorem core_root {xs : List (Int × Int)} (h : ∀ x ∈ xs, Part x) : coreP xs * rootP xs * rootP xs = prodP xs := by
  induction xs with
  | nil => simp [coreP, rootP, prodP]
  | cons x r ih =>
    have h1 := ih fun y hy => h y (.tail _ hy)
    simp only [coreP, rootP, prodP]
    rw [← h1, ← half_pow (p := x.1) (show 0 ≤ x.2 by have := (h x (.head _)).often; omega)]
    grind
theorem rootP_pos {xs : List (Int × Int)} (h : ∀ x ∈ xs, Part x) : 1 ≤ rootP xs := by
  induction xs with
  | nil => simp [rootP]
  | cons x r ih =>
    simp only [rootP]
    exact mul_ge (ih fun y hy => h y (.tail _ hy)) (pow_pos' (by have := (h x (.head _)).prime.two; omega) _) (by omega)
theorem core_in {q : Int} (h : Prm q) {xs : List (Int × Int)} (hx : ∀ x ∈ xs, Part x) (hd : q ∣ coreP xs) : ∃ x ∈ xs, x.1 = q := by
  induction xs with
  | nil => exact absurd hd (prm_not_one h)
  | cons x r ih =>
    simp only [coreP] at hd
    rcases euclid h hd with e | e
    · split at e
      · exact ⟨x, .head _, (prm_dvd_prm h (hx x (.head _)).prime e).symm⟩
      · exact absurd e (prm_not_one h)
    · obtain ⟨y, hy, e⟩ := ih (fun y hy => hx y (.tail _ hy)) e
      exact ⟨y, .tail _ hy, e⟩
theorem core_no_sq {q : Int} (h : Prm q) {xs : List (Int × Int)} (hx : ∀ x ∈ xs, Part x) (hr : xs.Pairwise fun x y => x.1 < y.1) : ¬ q * q ∣ coreP xs := by
  induction xs with
  | nil =>
    intro hd
    exact prm_not_one h (Int.dvd_trans ⟨q, rfl⟩ hd)
  | cons x r ih =>
    intro hd
    have hr' := List.pairwise_cons.mp hr
    have hx' := fun y hy => hx y (List.Mem.tail _ hy)
    simp only [coreP] at hd
    have hp := (hx x (.head _)).prime
    split at hd
    · by_cases e : q = x.1
      · subst e
        have h1 : x.1 ∣ coreP r := by
          obtain ⟨m, hm⟩ := hd
          rw [Int.mul_assoc] at hm
          have := Int.eq_of_mul_eq_mul_left (by have := hp.two; omega) hm
          exact ⟨m, this⟩
        obtain ⟨y, hy, e⟩ := core_in h hx' h1
        have := hr'.1 y hy
        omega
      · have c : Nat.Coprime q.natAbs x.1.natAbs := prm_coprime h fun hd' => e (prm_dvd_prm h hp hd')
        have c2 : Nat.Coprime (q * q).natAbs x.1.natAbs := by rw [Int.natAbs_mul]; exact c.mul_left c
        have d : (q * q).natAbs ∣ x.1.natAbs * (coreP r).natAbs := by
          rw [← Int.natAbs_mul]
          exact Int.natAbs_dvd_natAbs.mpr hd
        exact ih hx' hr'.2 (Int.natAbs_dvd_natAbs.mp (c2.dvd_of_dvd_mul_left d))
    · rw [Int.one_mul] at hd
      exact ih hx' hr'.2 hd
end Pr

namespace Jc
def S (f : Nat → Nat) : Nat → Nat
  | 0 => 0
  | m + 1 => S f m + f (m + 1)
def e (a n k : Nat) : Nat := if n < 2 * (a * k % n) then 1 else 0
def pi (a n k : Nat) : Nat := if n < 2 * (a * k % n) then n - a * k % n else a * k % n
def mu (a n : Nat) : Nat := S (e a n) (n / 2)
structure Ok (a n : Nat) : Prop where
  odd : n % 2 = 1
  cop : Nat.gcd a n = 1
def sg (k : Nat) : Int := if k % 2 = 0 then 1 else -1
def jac (a n : Nat) : Int := if Nat.gcd a n = 1 then sg (mu a n) else 0
def two (n : Nat) : Int := if n % 8 = 3 ∨ n % 8 = 5 then -1 else 1
def turn (a n : Nat) : Int := if a % 4 = 3 ∧ n % 4 = 3 then -1 else 1
end Jc

namespace Jc
@[irreducible] def J (x n : Int) : Int := jac (x % n).toNat n.toNat
def twoI (n : Int) : Int := if n % 8 = 3 ∨ n % 8 = 5 then -1 else 1
def turnI (a n : Int) : Int := if a % 4 = 3 ∧ n % 4 = 3 then -1 else 1
def GG (a b : Int) : Nat := Nat.gcd (a % b).toNat b.toNat
end Jc

namespace Jc
structure Dec (x p l o : Int) : Prop where
  eq : x = p ^ o.toNat * l
  o0 : 0 ≤ o
  nd : ¬ p ∣ l
def odd4 (p o1 l1 o2 l2 : Int) : Int := if o1 % 2 = 1 then (if o2 % 2 = 1 then J (-l1 * l2) p else J l2 p) else (if o2 % 2 = 1 then J l1 p else 1)
def two4 (o1 l1 o2 l2 : Int) : Int := turnI l1 l2 * (if o1 % 2 = 1 then twoI l2 else 1) * (if o2 % 2 = 1 then twoI l1 else 1)
def hs (p o1 l1 o2 l2 : Int) : Int := if p = 2 then two4 o1 l1 o2 l2 else odd4 p o1 l1 o2 l2
end Jc

namespace Jc
def anyZ (p n M c b yp : Nat) : Nat → Bool
  | 0 => false
  | z + 1 => bif anyZ p n M c b yp z then true else bif Nat.ble 1 (yp + z % p) then Nat.testBit M ((c + b * z * z) % n) else false
def anyY (p n M a b k : Nat) : Nat → Bool
  | 0 => false
  | y + 1 => bif anyY p n M a b k y then true else anyZ p n M (a * y * y) b (y % p) k
def fits (p n M a b : Nat) : Bool := anyY p n M a b (n / 2 + 1) (n / 2 + 1)
def ordR (p r : Nat) : Int := if r % p = 0 then 1 else 0
def unitR (p r : Nat) : Int := if r % p = 0 then (r / p : Nat) else (r : Nat)
def hsR (p ra rb : Nat) : Int := hs p (ordR p ra) (unitR p ra) (ordR p rb) (unitR p rb)
def maskOk (n M : Nat) : Bool := (List.range n).all fun r => Nat.testBit M r == (List.range n).any fun x => x * x % n == r
def chkR (p n M ra rb : Nat) : Bool := bif (ra % (p * p) == 0 || rb % (p * p) == 0) then true else bif fits p n M ra rb then decide (hsR p ra rb = 1) else decide (hsR p ra rb = -1)
def chkP (p n M : Nat) : Bool := (List.range n).all fun ra => (List.range n).all fun rb => chkR p n M ra rb
def FitsR (a b : Int) (p n : Nat) : Prop := ∃ y z : Nat, y < n ∧ z < n ∧ 1 ≤ y % p + z % p ∧ ∃ x : Nat, x < n ∧ (x : Int) * x % n = (a * y * y + b * z * z) % n
end Jc

namespace Jc
end Jc

namespace Jc
open Pr (Prm)
end Jc

namespace Pw
@[irreducible] def PM (x : Int) (k : Nat) (n : Int) : Int := x ^ k % n
end Pw

namespace Jc
open Pr (Prm)
def PN (f : Nat → Nat) : Nat → Nat
  | 0 => 1
  | m + 1 => PN f m * f (m + 1)
end Jc

namespace Pl
open Jc
def PL : List Nat := [3, 5, 7, 11, 13, 17, 19, 23, 29, 31, 37, 41, 43, 47, 53, 59, 61, 67, 71, 73, 79, 83, 89, 97, 101, 103, 107, 211, 307, 499, 997]
def chkQ (p : Nat) : Bool := (List.range p).all fun x => (List.range (p / 2 + 1)).any (fun r => r * r % p == x) || x ^ (p / 2) % p == p - 1
def F27 (a b c : Nat) : Bool := [0, 1, 4].any fun x => [0, 1, 4].any fun y => [0, 1, 4].any fun z => (x == 1 || y == 1 || z == 1) && (a * x + b * y + c * z) % 8 == 0
def adm (a b c : Nat) : Bool := (a % 4 != 0) && (b % 4 != 0) && (c % 4 != 0) && !(a % 2 == 0 && b % 2 == 0) && !(b % 2 == 0 && c % 2 == 0) && !(c % 2 == 0 && a % 2 == 0)
def chk2 (a b c : Nat) : Bool := !(adm a b c) || (decide (hsR 2 ((16 - a) * c % 16) ((16 - b) * c % 16) = -1) == !(F27 a b c))
end Pl

namespace Pl
open Pr (Prm Told)
open Jc
structure Pln (a b c : Int) : Prop where
  a0 : a ≠ 0
  b0 : b ≠ 0
  c0 : c ≠ 0
  sa : ∀ p, Prm p → ¬ p * p ∣ a
  sb : ∀ p, Prm p → ¬ p * p ∣ b
  sc : ∀ p, Prm p → ¬ p * p ∣ c
  ab : ∀ p, Prm p → p ∣ a → ¬ p ∣ b
  bc : ∀ p, Prm p → p ∣ b → ¬ p ∣ c
  ca : ∀ p, Prm p → p ∣ c → ¬ p ∣ a
theorem Pln.rot {a b c : Int} (h : Pln a b c) : Pln b c a := ⟨h.b0, h.c0, h.a0, h.sb, h.sc, h.sa, h.bc, h.ca, h.ab⟩
theorem root_one {n : Int} {xs : List (Int × Int)} (h : Told n xs) (sq : ∀ p, Prm p → ¬ p * p ∣ n) : Pr.rootP xs = 1 := by
  have r1 := Pr.rootP_pos h.all
  by_cases e : Pr.rootP xs = 1
  · exact e
  · obtain ⟨q, hq, hd⟩ := Pr.prm_some (Pr.rootP xs).toNat (Pr.rootP xs) (by omega) (Nat.le_refl _)
    exfalso
    refine sq q hq ?_
    rw [← h.prod, ← Pr.core_root h.all, Int.mul_assoc]
    exact Int.dvd_trans (Int.mul_dvd_mul hd hd) (Int.dvd_mul_left _ _)
theorem gcd_one {a b g : Int} (h : ∀ p, Prm p → p ∣ a → ¬ p ∣ b) (a0 : a ≠ 0) (g0 : 0 ≤ g) (ga : g ∣ a) (gb : g ∣ b) : g = 1 := by
  by_cases e : g = 1
  · exact e
  · exfalso
    have gn : g ≠ 0 := fun z => a0 (Int.zero_dvd.mp (z ▸ ga))
    obtain ⟨q, hq, hd⟩ := Pr.prm_some g.toNat g (by omega) (Nat.le_refl _)
    exact h q hq (Int.dvd_trans hd ga) (Int.dvd_trans hd gb)
def Rt (x p : Int) : Prop := ∃ r : Int, p ∣ r * r - x
def Fit8 (a b c : Int) : Prop := ∃ x y z : Int, (x % 2 = 1 ∨ y % 2 = 1 ∨ z % 2 = 1) ∧ (a * x * x + b * y * y + c * z * z) % 8 = 0
def Bad (a b c x : Int) : Prop := (x = 0 ∧ ((a < 0 ∧ b < 0 ∧ c < 0) ∨ (0 < a ∧ 0 < b ∧ 0 < c))) ∨ (x = 2 ∧ ¬ Fit8 a b c) ∨
  (Prm x ∧ x ≠ 2 ∧ ((x ∣ a ∧ ¬ Rt (-(b * c)) x) ∨ (x ∣ b ∧ ¬ Rt (-(c * a)) x) ∨ (x ∣ c ∧ ¬ Rt (-(a * b)) x)))
end Pl

namespace Jc
open Pr (Prm)
def noDivs (p : Nat) (m : Nat) : Bool := (List.range m).all fun k => Nat.ble k 1 || !(p % k == 0)
end Jc

namespace Jc
open Pr (Prm)
def HS (p a b v : Int) : Prop := ∃ l1 o1 l2 o2, Dec a p l1 o1 ∧ Dec b p l2 o2 ∧ v = hs p o1 l1 o2 l2
open Classical in
noncomputable def H (p a b : Int) : Int := if h : ∃ v, HS p a b v then choose h else 1
def inf (a b : Int) : Int := if a < 0 ∧ b < 0 then -1 else 1
def PP (f : Int → Int) : List Int → Int
  | [] => 1
  | p :: L => f p * PP f L
noncomputable def W (L : List Int) (a b : Int) : Int := inf a b * PP (fun p => H p a b) L
section
variable {L : List Int}
end
end Jc

namespace Jc
open Pr (Prm)
noncomputable def At0 (a b x : Int) : Int := if x = 0 then inf a b else H x a b
def BadJ (a b c x : Int) : Prop := (x = 0 ∧ ((a < 0 ∧ b < 0 ∧ c < 0) ∨ (0 < a ∧ 0 < b ∧ 0 < c))) ∨ (x = 2 ∧ ¬ Pl.Fit8 a b c) ∨
  (Prm x ∧ x ≠ 2 ∧ ((x ∣ a ∧ J (-(b * c)) x = -1) ∨ (x ∣ b ∧ J (-(c * a)) x = -1) ∨ (x ∣ c ∧ J (-(a * b)) x = -1)))
end Jc

namespace Jc
open Pr (Prm)
def Df (f : Int → Int) : Int → Int := fun x => f (x + 1) - f x
def Dg : Nat → Int → (Int → Int) → Prop
  | 0, c, f => ∀ x, f x = c
  | k + 1, c, f => Dg k (((k : Int) + 1) * c) (Df f)
end Jc

namespace Jc
open Pr (Prm)
structure Sf (n : Int) : Prop where
  n0 : n ≠ 0
  sq : ∀ p, Prm p → ¬ p * p ∣ n
section
variable {a b p x y z : Int}
end
structure Good (a b : Int) : Prop where
  a0 : a ≠ 0
  b0 : b ≠ 0
  i : inf a b = 1
  h : ∀ p, Prm p → H p a b = 1
theorem prm_div : ∀ (m : Nat) (n : Int), n.natAbs ≤ m → 2 ≤ n → ∃ p, Prm p ∧ p ∣ n
  | 0, n, h, n2 => by omega
  | m + 1, n, h, n2 => by
    by_cases c : ∃ k, 2 ≤ k ∧ k * k ≤ n ∧ k ∣ n
    · obtain ⟨k, k2, kk, d⟩ := c
      have lt : k < n := by
        have := Int.mul_le_mul_of_nonneg_right k2 (show 0 ≤ k by omega)
        omega
      obtain ⟨p, hp, hd⟩ := prm_div m k (by omega) k2
      exact ⟨p, hp, Int.dvd_trans hd d⟩
    · exact ⟨n, ⟨n2, fun k k2 kk d => c ⟨k, k2, kk, d⟩⟩, Int.dvd_refl n⟩
end Jc

namespace Jc
open Pr (Prm)
structure Ton (p n root over turner : Int) (h : Nat) : Prop where
  ro : root * root % p = n * over % p
  ov : over ^ (if h = 0 then 1 else 2 * h) % p = 1 % p
  tu : h ≠ 0 → turner ^ (2 * h) % p = (-1) % p
  two : h = 0 ∨ ∃ j, h = 2 ^ j
end Jc

namespace Jc
open Pr (Prm)
abbrev Q24 : List Int := [2, 3, 5, 7, 11, 13, 17, 19, 23, 29, 31, 37, 41, 43, 47, 53, 59, 97, 193, 257, 10007, 99991, 483289, 999983]
def noDiv2 (p m : Nat) : Bool := (List.range m).all fun k => Nat.ble k 1 || (Nat.blt p (k * k) || !(p % k == 0))
def nrOf (p : Nat) : Nat := if p = 17 then 3 else if p = 41 then 3 else if p = 97 then 5 else if p = 193 then 5 else if p = 257 then 3 else 31
structure Lst (n : Int) : Prop where
  pos : 1 ≤ n
  sq : ∀ q, Prm q → ¬ q * q ∣ n
  ins : ∀ q, Prm q → q ∣ n → q ∈ Q24
end Jc

namespace Sh
theorem quot (x y : Int) : x = y * Int.fdiv x y + Int.fmod x y := by rw [Int.fmod_def]; omega
structure Rows (x y a s t b u v : Int) : Prop where
  up : a = s * x + t * y
  lo : b = u * x + v * y
  one : ∃ p q, x = p * a + q * b
  two : ∃ p q, y = p * a + q * b
theorem rows_start (x y : Int) : Rows x y x 1 0 y 0 1 := ⟨by omega, by omega, ⟨1, 0, by omega⟩, ⟨0, 1, by omega⟩⟩
theorem rows_turn {x y a s t b u v : Int} (h : Rows x y a s t b u v) (q : Int) : Rows x y b u v (a - q * b) (s - q * u) (t - q * v) := by
  obtain ⟨h1, h2, ⟨p1, q1, h3⟩, ⟨p2, q2, h4⟩⟩ := h
  refine ⟨h2, by grind, ⟨p1 * q + q1, p1, ?_⟩, ⟨p2 * q + q2, p2, ?_⟩⟩ <;> grind
theorem rows_end {x y a s t b u v : Int} (h : Rows x y a s t b u v) (hb : b = 0) : a = s * x + t * y ∧ (∃ p, x = p * a) ∧ (∃ p, y = p * a) := by
  obtain ⟨h1, h2, ⟨p1, q1, h3⟩, ⟨p2, q2, h4⟩⟩ := h
  subst hb
  exact ⟨h1, ⟨p1, by grind⟩, ⟨p2, by grind⟩⟩
structure Sz (B a s t b u v : Int) : Prop where
  a0 : a.natAbs ≤ B.natAbs
  b0 : b.natAbs ≤ B.natAbs
  s0 : s.natAbs ≤ B.natAbs
  t0 : t.natAbs ≤ B.natAbs
  u0 : u.natAbs ≤ B.natAbs
  v0 : v.natAbs ≤ B.natAbs
  way : (s = 1 ∧ t = 0 ∧ u = 0 ∧ v = 1 ∧ a.natAbs + 2 * b.natAbs ≤ B.natAbs) ∨
    ((0 ≤ a ∧ 0 ≤ b ∨ a ≤ 0 ∧ b ≤ 0) ∧ s.natAbs * b.natAbs + u.natAbs * a.natAbs ≤ B.natAbs ∧ t.natAbs * b.natAbs + v.natAbs * a.natAbs ≤ B.natAbs)
theorem le_of_mul {m n B : Nat} (h : m * n ≤ B) (hn : n ≠ 0) : m ≤ B := Nat.le_trans (Nat.le_mul_of_pos_right m (Nat.pos_of_ne_zero hn)) h
theorem fmod_abs {a b : Int} (hb : b ≠ 0) : (Int.fmod a b).natAbs < b.natAbs := by
  rcases Int.lt_or_gt_of_ne hb with h | h
  · have h1 := Int.fmod_lt_of_pos (-a) (show 0 < -b by omega)
    have h2 := Int.fmod_nonneg_of_pos (-a) (show 0 < -b by omega)
    rw [Int.neg_fmod_neg] at h1 h2
    omega
  · have h1 := Int.fmod_lt_of_pos a h
    have h2 := Int.fmod_nonneg_of_pos a h
    omega
theorem fmod_sign {a b : Int} (hb : b ≠ 0) : 0 ≤ b ∧ 0 ≤ Int.fmod a b ∨ b ≤ 0 ∧ Int.fmod a b ≤ 0 := by
  rcases Int.lt_or_gt_of_ne hb with h | h
  · have h2 := Int.fmod_nonneg_of_pos (-a) (show 0 < -b by omega)
    rw [Int.neg_fmod_neg] at h2
    omega
  · have h2 := Int.fmod_nonneg_of_pos a h
    omega
theorem abs_sub_mul (s q u : Int) : (s - q * u).natAbs ≤ s.natAbs + q.natAbs * u.natAbs := by
  have := Int.natAbs_sub_le s (q * u)
  rw [Int.natAbs_mul] at this
  exact this
theorem sum_turn {s u a b q r : Int} (hq : (q * b).natAbs + r.natAbs ≤ a.natAbs) : u.natAbs * r.natAbs + (s - q * u).natAbs * b.natAbs ≤ s.natAbs * b.natAbs + u.natAbs * a.natAbs := by
  have h1 := Nat.mul_le_mul_right b.natAbs (abs_sub_mul s q u)
  have h2 := Nat.mul_le_mul_left u.natAbs hq
  rw [Int.natAbs_mul] at h2
  rw [Nat.add_mul] at h1
  rw [Nat.mul_add] at h2
  have e : q.natAbs * u.natAbs * b.natAbs = u.natAbs * (q.natAbs * b.natAbs) := by
    rw [Nat.mul_comm q.natAbs, Nat.mul_assoc]
  omega
theorem sz_start {x y : Int} : Sz ((x.natAbs : Int) + 2 * y.natAbs + 1) x 1 0 y 0 1 := by
  refine ⟨by omega, by omega, by omega, by omega, by omega, by omega, .inl ⟨rfl, rfl, rfl, rfl, by omega⟩⟩
theorem sz_turn {B a s t b u v : Int} (h : Sz B a s t b u v) (hb : b ≠ 0) (q r : Int) (hq : a = b * q + r) (hr : r = Int.fmod a b) :
    Sz B b u v r (s - q * u) (t - q * v) := by
  have ra : r.natAbs < b.natAbs := hr ▸ fmod_abs hb
  have rs : 0 ≤ b ∧ 0 ≤ r ∨ b ≤ 0 ∧ r ≤ 0 := hr ▸ fmod_sign hb
  have eq : q * b = a - r := by rw [Int.mul_comm]; omega
  rcases h.way with ⟨rfl, rfl, rfl, rfl, h1⟩ | ⟨hs, h1, h2⟩
  · have hq' : (q * b).natAbs ≤ a.natAbs + r.natAbs := by rw [eq]; omega
    have hqb : q.natAbs ≤ (q * b).natAbs := by
      rw [Int.natAbs_mul]
      exact Nat.le_mul_of_pos_right _ (by omega)
    have e1 : (1 - q * 0).natAbs = 1 := by rw [Int.mul_zero]; rfl
    have e2 : (0 - q * 1).natAbs = q.natAbs := by rw [Int.mul_one]; omega
    have b0 := h.b0
    refine ⟨h.b0, by omega, h.u0, h.v0, by rw [e1]; omega, by rw [e2]; omega, .inr ⟨rs, ?_, ?_⟩⟩
    · rw [e1]; simp; omega
    · have e3 : q.natAbs * b.natAbs = (q * b).natAbs := (Int.natAbs_mul q b).symm
      have e4 : (1 : Int).natAbs * r.natAbs = r.natAbs := by rw [show (1 : Int).natAbs = 1 from rfl, Nat.one_mul]
      rw [e2, e3, e4]
      omega
  · have hq' : (q * b).natAbs + r.natAbs ≤ a.natAbs := by
      have q0 : 0 ≤ q := by
        rcases (show 0 ≤ q ∨ q ≤ -1 by omega) with h0 | h0
        · exact h0
        · exfalso
          rcases (show 0 < b ∨ b < 0 by omega) with hb' | hb'
          · have := Int.mul_le_mul_of_nonneg_left h0 (Int.le_of_lt hb')
            omega
          · have := Int.mul_le_mul_of_nonneg_left h0 (show 0 ≤ -b by omega)
            rw [Int.neg_mul, Int.neg_mul] at this
            omega
      rcases (show 0 < b ∨ b < 0 by omega) with hb' | hb'
      · have := Int.mul_nonneg q0 (Int.le_of_lt hb')
        omega
      · have := Int.mul_nonneg q0 (show 0 ≤ -b by omega)
        rw [Int.mul_neg] at this
        omega
    have k1 := sum_turn (s := s) (u := u) hq'
    have k2 := sum_turn (s := t) (u := v) hq'
    refine ⟨h.b0, by have := h.b0; omega, h.u0, h.v0, ?_, ?_, .inr ⟨rs, by omega, by omega⟩⟩
    · exact le_of_mul (n := b.natAbs) (by omega) (by omega)
    · exact le_of_mul (n := b.natAbs) (by omega) (by omega)
end Sh

namespace L2
open PySem PySem.Spec PyProof.Rows

def cxC (X : Cx) (N : List Str) (scope : Scope) (cl : List (Str × Addr)) (C : Addr) (s0 : Shared) (H0 : Hp) (fp : List Addr) (pins : List (Addr × Obj)) : Cx :=
  { X with N := N, s₀ := s0, H₀ := H0, env := compEnvC scope cl C X.env, outer := X.stack, ex := fp, fn := fun _ => false, pn := X.pn ++ pins, xe := fun _ _ => False }
structure CompScope (X : Cx) (N : List Str) (fr : List Nat) (x : Str) (scope : Scope) (cl : List (Str × Addr)) : Prop where
  kind : scope.kind = .function
  nocell : ∀ y ∈ scope.names, y.2 ≠ .cell
  loc : ∀ y ∈ scope.names, y.2 = .local → scope.names.lookup y.1 = some .local
  own : scope.names.lookup x = some .local
  clos : closureFor scope X.env = pure cl
  sub : ∀ y c, cl.lookup y = some c → X.env.cells.lookup y = some c
  has : ∀ y, ((relabel scope X.env).names.lookup y = some .cell ∨ (relabel scope X.env).names.lookup y = some .free) → ∃ c, cl.lookup y = some c
  nd : N.Nodup
  hN : N[0]? = some x
  len : N.length = fr.length + 1
  ownOnly : ∀ (j : Nat) (y : Str), N[j + 1]? = some y → (relabel scope X.env).names.lookup y ≠ some .local
  out : ∀ (j k : Nat), fr[j]? = some k → ∃ y, N[j + 1]? = some y ∧ X.N[k]? = some y ∧ X.env.kindOf y = some .cell
def compSt (σ : St) (fr : List Nat) (v : Option V) : St := v :: fr.map fun k => (σ[k]?).join
def tComp (wi : TI) (fr : List Nat) (te : TE) : TE := fun σ H Q => wi σ H fun J H1 => ∀ acc, H1 acc = none → ∃ W : Nat → Nat → Hp → List V → Prop, (∃ m, W 0 m (upd H1 acc (.lst [])) []) ∧
  ∀ i m H' vs, W i m H' vs → H' acc = some (.lst vs) ∧ ((J.stop i H' ∧ Q (.ref acc) H') ∨ (J.go i H' ∧ vs.length < sizeLine ∧ ∀ x H2, J.yld i H' x H2 → te (compSt σ fr (some x)) H2 fun y H3 => H3 acc = some (.lst vs) ∧ ∃ m', m' < m ∧ W (i + 1) m' (upd H3 acc (.lst (vs ++ [y]))) (vs ++ [y])))
def tCompIf (wi : TI) (fr : List Nat) (tc : TT) (te : TE) : TE := fun σ H Q => wi σ H fun J H1 => ∀ acc, H1 acc = none → ∃ W : Nat → Nat → Hp → List V → Prop, (∃ m, W 0 m (upd H1 acc (.lst [])) []) ∧
  ∀ i m H' vs, W i m H' vs → H' acc = some (.lst vs) ∧ ((J.stop i H' ∧ Q (.ref acc) H') ∨ (J.go i H' ∧ vs.length < sizeLine ∧ ∀ x H2, J.yld i H' x H2 → tc (compSt σ fr (some x)) H2 fun b H3 =>
    if b = true then te (compSt σ fr (some x)) H3 fun y H4 => H4 acc = some (.lst vs) ∧ ∃ m', m' < m ∧ W (i + 1) m' (upd H4 acc (.lst (vs ++ [y]))) (vs ++ [y]) else ∃ m', m' < m ∧ W (i + 1) m' H3 vs))
section
variable {X : Cx} {N : List Str} {fr : List Nat} {x : Str} {scope : Scope} {cl : List (Str × Addr)} {elt iter : Expr} {px pos : Pos} {wi : TI} {te : TE}
theorem cxC_ok {pins : List (Addr × Obj)} {σ : St} {H : Hp} {s : Shared} {fp : List Addr} {C : Addr} (S : CompScope X N fr x scope cl) (I : Inv X pins σ H s) (hf : ∀ b ∈ fp, FpOk X pins H b) (hC : s.heap.objs.size ≤ C) (hfl : ∀ b ∈ fp, b < s.heap.objs.size) : (cxC X N scope cl C s H fp pins).Ok where
  mod := I.ok.mod
  kind := S.kind
  glob := I.ok.glob
  blt := I.ok.blt
  above := hC
  inj := fun y z c h1 h2 => I.ok.inj y z c (S.sub _ _ h1) (S.sub _ _ h2)
  has := fun y h => S.has y h
  cab := fun y c h => by cases h
  hd := I.ok.hd
  frames := I.ok.frames
  stk := .inl rfl
  exf := fun b hb => ⟨Nat.ne_of_lt (Nat.lt_of_lt_of_le (hfl b hb) hC), fun y c h => (hf b hb).2.2.2.2.1 y c (S.sub _ _ h)⟩
  bs := fun b o e => I.bs b o e
  bsz := Nat.le_trans I.ok.bsz I.sz
  noex := fun b o e hb => by
    rcases (hf b hb).2.2.2.1 with z | z
    · exact I.ok.noex b o e z
    · exact absurd (Nat.lt_of_lt_of_le (Heap.lt_size e) (Nat.le_trans I.ok.bsz z)) (Nat.lt_irrefl _)
  exfs := fun b hb z => by
    rcases List.mem_cons.mp (I.stkSub b z) with e | e
    · exact (hf b hb).2.1 e
    · exact (hf b hb).2.2.1 e
  funs := I.stack
  frf := I.stkFree
theorem cxC_start {pins : List (Addr × Obj)} {σ : St} {H : Hp} {s s4 : Shared} {fp : List Addr} {C : Addr} {m : Str → Option Value} (S : CompScope X N fr x scope cl) (I : Inv X pins σ H s) (hf : ∀ b ∈ fp, FpOk X pins H b) (hC : s.heap.objs.size ≤ C) (hfl : ∀ b ∈ fp, b < s.heap.objs.size)
    (hn : s4.heap.Ns C m) (hk : ∀ b o, s.heap.get? b = some o → s4.heap.get? b = some o) (ho : s4.os = s.os) (hg : s4.gens = s.gens) : Inv (cxC X N scope cl C s H fp pins) [] (compSt σ fr none) H s4 := by
  obtain ⟨m0, hn0, hl⟩ := id I.loc
  refine ⟨cxC_ok S I hf hC hfl, ho, by rw [hg]; exact I.bare, Un.kept hk, ⟨m, hn, fun i y v e1 e2 e3 => ?_⟩, fun y c h => ?_, I.hok.fresh hC, fun y c h => I.freeC y c (S.sub _ _ h), fun p hp => ?_, I.hok.kept hk, ?_⟩
  · cases i with
    | zero => cases e2
    | succ j =>
      have e2' : (fr.map fun k => (σ[k]?).join)[j]? = some (some v) := e2
      rw [List.getElem?_map] at e2'
      cases ek : fr[j]? with
      | none => rw [ek] at e2'; cases e2'
      | some k =>
        rw [ek] at e2'
        have e4 : (σ[k]?).join = some v := Option.some.inj e2'
        obtain ⟨y', h1, h2, h3⟩ := S.out j k ek
        have e1' : N[j + 1]? = some y := e1
        obtain rfl : y' = y := Option.some.inj (h1.symm.trans e1')
        have e5 : σ[k]? = some (some v) := by
          cases q : σ[k]? with
          | none => rw [q] at e4; cases e4
          | some w => rw [q] at e4; exact congrArg some e4
        obtain ⟨u, r, lk⟩ := hl k y' v h2 e5 (.inr (.inl h3))
        refine ⟨u, r, .inr ?_⟩
        rcases lk with ⟨z, _⟩ | ⟨_, c, hc, hcell⟩
        · rw [h3] at z; cases z
        · have e6 : Vis (relabel scope X.env) y' := e3
          have hk2 : (relabel scope X.env).names.lookup y' = some .cell ∨ (relabel scope X.env).names.lookup y' = some .free := by
            rcases e6 with e6 | e6 | e6
            · exfalso
              have nd := S.nd
              -- a name of the block's own is the first one
              exact S.ownOnly _ _ h1 e6
            · exact .inl e6
            · exact .inr e6
          obtain ⟨c2, hc2⟩ := S.has y' hk2
          have := S.sub _ _ hc2
          rw [hc] at this; cases this
          obtain ⟨o, z1, z2⟩ := hcell
          exact ⟨hk2, c, hc2, o, hk _ _ z1, z2⟩
  · obtain ⟨v, o, z1, z2⟩ := I.cell y c (S.sub _ _ h)
    exact ⟨v, o, hk _ _ z1, z2⟩
  · rw [List.append_nil] at hp
    obtain ⟨e, k, ne, nf, d⟩ := I.pin p hp
    refine ⟨hk _ _ e, k, Nat.ne_of_lt (Nat.lt_of_lt_of_le (Heap.lt_size e) hC), fun z => ?_, d⟩
    rcases List.mem_cons.mp (I.stkSub _ z) with q | q
    · exact ne q
    · exact nf q
  · show (compSt σ fr none).length = N.length
    rw [S.len]
    simp [compSt]
theorem cxC_end {pins : List (Addr × Obj)} {σ σ' : St} {H H' : Hp} {s s' : Shared} {fp : List Addr} {C : Addr} {h' : Heap} (I : Inv X pins σ H s) (hf : ∀ b ∈ fp, FpOk X pins H b) (hC : s.heap.objs.size ≤ C) (J : Inv (cxC X N scope cl C s H fp pins) [] σ' H' s') (hs : Heap.SameBut C s'.heap h') :
    Inv X pins σ H' { s' with heap := h' } := by
  have ne : ∀ b o, s.heap.get? b = some o → b ≠ C := fun b o e => Nat.ne_of_lt (Nat.lt_of_lt_of_le (Heap.lt_size e) hC)
  have u : Un (frs X.stack) fp H H' s.heap s'.heap := J.base
  have u2 : Un (frs X.stack) fp H H' s.heap h' := ⟨fun b o e n hb hx => (hs.2 b (ne b o e)).trans (u.keep b o e n hb hx), fun b o e n hb hx => (by
      obtain ⟨sl, q⟩ := u.slot b o e n hb hx
      exact ⟨sl, (hs.2 b (ne b o e)).trans q⟩), u.free, fun b o e hx => (by
      obtain ⟨o', q⟩ := u.there b o e hx
      exact ⟨o', (hs.2 b (ne b o e)).trans q⟩), u.tups, u.frzs, u.tbls⟩
  have nC : H' C = none := J.free
  refine I.call' (s' := { s' with heap := h' }) (ch := fp) J.os u2 (J.hok.onward fun b o hb q => (hs.2 b fun z => hb (z ▸ nC)).trans q) J.bare fun b hb => ?_
  obtain ⟨_, f2, _, f4, f5, f6⟩ := hf b hb
  exact ⟨f4, f2, f5, f6⟩
def PTs (X : Cx) (ifs : List Expr) (t : TT) : Prop :=
  ∀ (pins : List (Addr × Obj)) (s : Shared) (σ : St) (H : Hp) (Q : Bool → Hp → Prop), Inv X pins σ H s → t σ H Q → wpAny (model X.prog X.w) X.A (forIn ifs true fun c r => if r = true then do let ok ← PySem.isTrue c X.env (eval c X.env); pure (ForInStep.yield ok) else pure (ForInStep.yield r)) (TP X pins σ Q) X.xe s
theorem pts_nil {X : Cx} : PTs X [] (fun _ H Q => Q true H) := fun pins s σ H Q I q => by
  show wpAny _ _ (pure true) _ _ _
  exact wpAny_pure ⟨H, I, q⟩
theorem comp_core {ifs : List Expr} {tc : TT} {use : Option (Value → Sem Unit)} {R : Value → Shared → Prop} {Q : VK} {pins : List (Addr × Obj)} {s : Shared} {σ : St} {H : Hp} {ep : Pos} (hc : X.calm = true) (S : CompScope X N fr x scope cl) (hi : PI X (.Name x px) iter wi)
    (ht : ∀ (C : Addr) (s0 : Shared) (H0 : Hp) (fp : List Addr) (pins : List (Addr × Obj)), PTs (cxC X N scope cl C s0 H0 fp pins) ifs tc) (he : ∀ (C : Addr) (s0 : Shared) (H0 : Hp) (fp : List Addr) (pins : List (Addr × Obj)), PE (cxC X N scope cl C s0 H0 fp pins) elt te)
    (hs : ∀ y, foldedSetIterable iter X.env y = pure y) (I : Inv X pins σ H s) (h : tCompIf wi fr tc te σ H Q)
    (fin : ∀ (acc C : Addr) (m : Str → Option Value) (H6 : Hp) (s7 : Shared), Q (.ref acc) H6 → s7.heap.Ns C m → (∀ h' : Heap, Heap.SameBut C s7.heap h' → Inv X pins σ H6 { s7 with heap := h' }) → H6 C = none → X.env.locals ≠ C → (∀ z c, X.env.cells.lookup z = some c → c ≠ C) → (∀ p ∈ X.pn ++ pins, p.1 ≠ C) → X.s₀.heap.objs.size ≤ C → compPost (model X.prog X.w) X.A X.xe use R (.ref acc) C (.ok .next) s7) :
    wpAny (model X.prog X.w) X.A (comprehension (.ListComp elt [⟨.Name x px, iter, ifs, 0⟩] scope pos) scope X.env ep (newList []) false (eval iter X.env) use) R X.xe s := by
  refine wpAny_comprehension_free (use := use) rfl hs S.clos S.kind S.loc (thn (hi pins s σ H _ I h) fun v s1 h1 => thn h1 fun itv s2 h2 => ?_)
  obtain ⟨it, fp, tn, J, H2, e, I2, T, st2, f2, hW⟩ := h2
  subst e
  have hfl : ∀ b ∈ fp, b < s2.heap.objs.size := fun b hb => by
    obtain ⟨o, q, _⟩ := T.obj _ _ st2 b hb
    exact Heap.lt_size q
  have hfr : H2 s2.heap.objs.size = none := I2.hok.fresh (Nat.le_refl _)
  refine wpAny_newObj_type ?_
  have keep3 : ∀ b o, s2.heap.get? b = some o → (s2.heap.push { cls := .type "list", dict := none, data := .seq ([] : List Value).toArray }).get? b = some o := fun b o q => Heap.get?_push_of_some _ q
  have I3 : Inv X pins σ (upd H2 s2.heap.objs.size (.lst [])) { s2 with heap := s2.heap.push { cls := .type "list", dict := none, data := .seq ([] : List Value).toArray } } :=
    I2.laid (t' := s2.toks) keep3 (Nat.le_refl _) ⟨Nat.zero_le _, [], 0, .nil, Heap.get?_push_size _ rfl⟩
  obtain ⟨W, ⟨m0, w0⟩, turn⟩ := hW s2.heap.objs.size hfr
  have f3 : ∀ b ∈ fp, FpOk X pins (upd H2 s2.heap.objs.size (.lst [])) b := fun b hb => ⟨by rw [upd_ne (Nat.ne_of_lt (hfl b hb))]; exact (f2 b hb).1, (f2 b hb).2⟩
  refine wpAny_newFunctionEnv S.nocell (by intro y hy; simp at hy) (fun h4 hns hsb => ?_) S.kind
  have hfl3 : ∀ b ∈ fp, b < (s2.heap.push { cls := .type "list", dict := none, data := .seq ([] : List Value).toArray }).objs.size := fun b hb => by
    rw [Heap.size_push]
    exact Nat.lt_succ_of_lt (hfl b hb)
  have keep4 : ∀ b o, (s2.heap.push { cls := .type "list", dict := none, data := .seq ([] : List Value).toArray }).get? b = some o → h4.get? b = some o := fun b o q =>
    (hsb.2 b (Nat.ne_of_lt (Heap.lt_size q))).trans (Heap.get?_push_of_some _ q)
  have I4 : Inv (cxC X N scope cl (s2.heap.push { cls := .type "list", dict := none, data := .seq ([] : List Value).toArray }).objs.size { s2 with heap := s2.heap.push { cls := .type "list", dict := none, data := .seq ([] : List Value).toArray } } (upd H2 s2.heap.objs.size (.lst [])) fp pins) [] (compSt σ fr none) (upd H2 s2.heap.objs.size (.lst []))
      { s2 with heap := h4, toks := s2.toks + ([] : List (Str × Value)).length } := cxC_start S I3 f3 (Nat.le_refl _) hfl3 hns keep4 rfl rfl
  have st4 : tn 0 h4 := T.keep _ _ _ st2 fun b hb o q => keep4 b o (keep3 b o q)
  generalize hY : cxC X N scope cl (s2.heap.push { cls := .type "list", dict := none, data := .seq ([] : List Value).toArray }).objs.size { s2 with heap := s2.heap.push { cls := .type "list", dict := none, data := .seq ([] : List Value).toArray } } (upd H2 s2.heap.objs.size (.lst [])) fp pins = Y at I4
  have hel : PE Y elt te := hY ▸ he _ _ _ _ _
  have htl : PTs Y ifs tc := hY ▸ ht _ _ _ _ _
  have eA : Y.A = X.A := by rw [← hY]; rfl
  have eP : Y.prog = X.prog := by rw [← hY]; rfl
  have ew : Y.w = X.w := by rw [← hY]; rfl
  have eK : Y.K = X.K := by rw [← hY]; rfl
  have eC : Y.calm = true := by rw [← hY]; exact hc
  have eE : Y.env = compEnvC scope cl (s2.heap.push { cls := .type "list", dict := none, data := .seq ([] : List Value).toArray }).objs.size X.env := by rw [← hY]; rfl
  have eX : Y.xe = fun _ _ => False := by rw [← hY]; rfl
  have hg : PG Y (.Name x px) (gName 0) := by
    subst hY
    exact pg_name (i := 0) S.nd S.hN (.inl (lookup_relabel_local S.own)) (.inr (lookup_relabel_local S.own))
  have fY : ∀ {H' : Hp}, (∀ b ∈ fp, H' b = none) → ∀ b ∈ fp, FpOk Y [] H' b := fun {H'} hn b hb => by
    subst hY
    obtain ⟨_, g2, g3, g4, g5, g6⟩ := f3 b hb
    refine ⟨hn b hb, Nat.ne_of_lt (hfl3 b hb), fun z => ?_, .inl hb, fun y c q => g5 y c (S.sub _ _ q), fun p hp => ?_⟩
    · rcases List.mem_cons.mp (I3.stkSub b z) with q | q
      · exact g2 q
      · exact g3 q
    · rw [List.append_nil] at hp
      exact g6 p hp
  have loop : ∀ s5 : Shared, s5 = { s2 with heap := h4, toks := s2.toks + ([] : List (Str × Value)).length } →
      codeAny (model X.prog X.w) X.A (.compLoop (.ListComp elt [⟨.Name x px, iter, ifs, 0⟩] scope pos) 0 (.ref it) (.ref s2.heap.objs.size) (compEnvC scope cl (s2.heap.push { cls := .type "list", dict := none, data := .seq ([] : List Value).toArray }).objs.size X.env))
        (compPost (model X.prog X.w) X.A X.xe use R (.ref s2.heap.objs.size) (s2.heap.push { cls := .type "list", dict := none, data := .seq ([] : List Value).toArray }).objs.size) s5 := by
    rintro s5 rfl
    refine codeAny_compLoop_tests (fun n s' => ∃ i v H' vs, Inv Y [] (compSt σ fr v) H' s' ∧ tn i s'.heap ∧ (∀ b ∈ fp, H' b = none) ∧ W i n H' vs) ?_ m0 ⟨0, none, _, [], I4, st4, fun b hb => (f3 b hb).1, w0⟩
    rintro n s6 ⟨i, v6, H6, vs, I6, st6, fr6, w6⟩
    obtain ⟨hacc, hgo⟩ := turn i n H6 vs w6
    rcases hgo with ⟨stop, qn⟩ | ⟨go, hz, step⟩
    · have hd := T.done Y eP ew eK eC i [] s6 _ H6 (fun _ _ => False) I6 (fY fr6) st6 stop
      rw [eA] at hd
      refine wpAny_mono hd (fun r s7 ⟨hr, I7⟩ => ?_) fun _ _ z => z.elim
      subst hr
      obtain ⟨m, hn, _⟩ := id I7.loc
      rw [eE] at hn
      have hend : ∀ h' : Heap, Heap.SameBut (s2.heap.push { cls := .type "list", dict := none, data := .seq ([] : List Value).toArray }).objs.size s7.heap h' → Inv X pins σ H6 { s7 with heap := h' } := fun h' hs' => by
        subst hY
        exact cxC_end I3 f3 (Nat.le_refl _) I7 hs'
      have cf : H6 (s2.heap.push { cls := .type "list", dict := none, data := .seq ([] : List Value).toArray }).objs.size = none := by
        subst hY
        exact I7.free
      have big : ∀ b o, s2.heap.get? b = some o → b ≠ (s2.heap.push { cls := .type "list", dict := none, data := .seq ([] : List Value).toArray }).objs.size := fun b o q => Nat.ne_of_lt (by rw [Heap.size_push]; exact Nat.lt_succ_of_lt (Heap.lt_size q))
      obtain ⟨m2, hn2, _⟩ := id I2.loc
      obtain ⟨oL, _, _, hoL, _⟩ := id hn2
      exact fin _ _ m H6 s7 qn hn hend cf (big _ _ hoL) (fun z c q => by
        obtain ⟨_, o, w1, _⟩ := I2.cell z c q
        exact big _ _ w1) (fun p hp => by
        obtain ⟨e, _⟩ := I2.pin p hp
        exact big _ _ e) (by
        rw [Heap.size_push]
        exact Nat.le_succ_of_le (Nat.le_trans (Nat.le_refl _) I2.sz))
    · have hd := T.item Y eP ew eK eC i [] s6 _ H6 (fun _ _ => False) I6 (fY fr6) st6 go
      rw [eA] at hd
      refine wpAny_mono hd (fun r s7 ⟨u, hr, h7⟩ => ?_) fun _ _ z => z.elim
      subst hr
      show wpAny _ _ ((pure () : Sem Unit) >>= fun _ => assign (.Name x px) _ u) _ _ s7
      refine wpAny_bind (wpAny_mono h7 (fun _ s8 ⟨y, H8, I8, r8, y8, st8, fr8⟩ => ?_) fun _ _ z => z.elim)
      have I8' := I8.pinned (fY fr8) (T.obj _ _ st8)
      have h9 := hg _ s8 _ H8 y u (fun σ9 H9 => σ9 = compSt σ fr (some y) ∧ H9 = H8) I8' r8 ⟨rfl, rfl⟩
      rw [eA, eP, ew, eE, eX] at h9
      refine wpAny_mono h9 (fun _ s9 ⟨σ9, H9, I9, e9, e9'⟩ => ?_) fun _ _ z => z.elim
      subst e9 e9'
      have ht10 := htl _ s9 _ _ _ I9 (step y _ y8)
      rw [eA, eP, ew, eE, eX] at ht10
      refine wpAny_mono ht10 (fun ok s9t ⟨H9t, I9t, q9t⟩ => ?_) fun _ _ z => z.elim
      cases ok with
      | false =>
        rw [if_neg Bool.false_ne_true] at q9t
        rw [if_neg Bool.false_ne_true]
        obtain ⟨m', hm, w10⟩ := q9t
        refine ⟨m', hm, i + 1, some y, _, vs, I9t.unpinned, T.keep _ _ _ st8 fun b hb o q => (I9t.pin (b, o) (List.mem_append_right _ (List.mem_append_right _ (mem_pinsAt hb q)))).1, fun b hb => ?_, w10⟩
        obtain ⟨o, q, _⟩ := T.obj _ _ st8 b hb
        exact (I9t.pin (b, o) (List.mem_append_right _ (List.mem_append_right _ (mem_pinsAt hb q)))).2.1
      | true =>
      rw [if_pos rfl] at q9t
      rw [if_pos rfl]
      have h10 := hel _ s9t _ _ _ I9t q9t
      rw [eA, eP, ew, eE, eX] at h10
      refine wpAny_mono h10 (fun u10 s10 ⟨z10, H10, I10, r10, a10, m', hm, w10⟩ => ?_) fun _ _ z => z.elim
      have h11 := mt_append _ s10 _ H10 (.ref s2.heap.objs.size) [z10] (.ref s2.heap.objs.size) [u10] (fun _ H11 => H11 = upd H10 s2.heap.objs.size (.lst (vs ++ [z10]))) I10 rfl (.cons r10 .nil) ⟨_, vs, z10, rfl, rfl, a10, hz, rfl⟩
      rw [eA, eP, ew, eX] at h11
      refine wpAny_mono h11 (fun _ s11 ⟨_, H11, I11, _, e11⟩ => ?_) fun _ _ z => z.elim
      subst e11
      refine ⟨m', hm, i + 1, some y, _, vs ++ [z10], I11.unpinned, T.keep _ _ _ st8 fun b hb o q => (I11.pin (b, o) (List.mem_append_right _ (List.mem_append_right _ (mem_pinsAt hb q)))).1, fun b hb => ?_, w10⟩
      obtain ⟨o, q, _⟩ := T.obj _ _ st8 b hb
      exact (I11.pin (b, o) (List.mem_append_right _ (List.mem_append_right _ (mem_pinsAt hb q)))).2.1
  exact codeAny_compStart_list (loop _ rfl) (T.self _ 0 _ _ _ st4 (loop _ rfl))
theorem pe_comp (hc : X.calm = true) (S : CompScope X N fr x scope cl) (hi : PI X (.Name x px) iter wi) (he : ∀ (C : Addr) (s0 : Shared) (H0 : Hp) (fp : List Addr) (pins : List (Addr × Obj)), PE (cxC X N scope cl C s0 H0 fp pins) elt te)
    (hs : ∀ y, foldedSetIterable iter X.env y = pure y := by intro _; rfl) : PE X (.ListComp elt [⟨.Name x px, iter, [], 0⟩] scope pos) (tComp wi fr te) := by
  intro pins s σ H Q I h
  rw [eval_ListComp]
  exact comp_core (tc := fun _ H Q => Q true H) (use := none) hc S hi (fun _ _ _ _ _ => pts_nil) he hs I h fun acc C m H6 s7 qn hn hend _ _ _ _ _ => ⟨m, hn, fun h' hs' => ⟨.ref acc, H6, hend h' hs', rfl, qn⟩⟩
end
end L2

namespace L2
open PySem PySem.Spec PyProof.Rows
theorem call_all {X : Cx} (hc : X.calm = true) : CallR X (.builtin "all") (fun xs H Q => ∃ (l : Addr) (bs : List Bool), xs = [.ref l] ∧ H l = some (.lst (bs.map V.bl)) ∧ Q (.bl (bs.all id)) H) := by
  intro pins s σ H xs us Q I rv h
  obtain ⟨l, bs, rfl, hH, q⟩ := h
  obtain ⟨u, rfl, ru⟩ := rv.one
  cases ru
  obtain ⟨z, its, n, r, hl, e⟩ := I.lstM hH
  have hlt : l < s.heap.objs.size := Heap.lt_size e
  refine call_all_walk (wpAny_pyIter_list (A := X.A.in1) ⟨_, e, rfl, n, rfl⟩ ?_)
  have W := Walks.list (prog := X.prog) (w := X.w) (A := X.A.in1) (show X.A.in1.handled = none from I.ok.hd hc) s.heap.objs.size l (Nat.ne_of_lt hlt) its.toArray
  refine ⟨s.heap.objs.size, _, _, _, _, _, fun i => bs.getD i true, rfl, W, ⟨⟨_, Heap.get?_push_size _ rfl, rfl, rfl⟩, ⟨_, Heap.get?_push_of_some _ e, rfl, n, rfl⟩⟩, ?_, ?_⟩
  · intro i v s' Q' E' hP hQ
    have hv : its[i]? = some v := by simpa using hP
    obtain ⟨b, hb, rfl⟩ : ∃ b, bs[i]? = some b ∧ v = Value.bool b := by
      cases hbi : bs[i]? with
      | none =>
        have h1 := r.none_of (i := i) (by rw [List.getElem?_map, hbi]; rfl)
        rw [h1] at hv; cases hv
      | some b =>
        obtain ⟨u', h1, h2⟩ := r.get (i := i) (x := .bl b) (by rw [List.getElem?_map, hbi]; rfl)
        rw [h1] at hv; cases hv
        exact ⟨b, rfl, h2⟩
    have hQ2 : Q' (bs.getD i true) s' := hQ
    rw [List.getD_eq_getElem?_getD, hb] at hQ2
    exact wpAny_truthy_bool hQ2
  · intro h' tk hk
    have e2 : ((List.range its.toArray.size).all fun i => bs.getD i true) = bs.all id := by
      have hlen : its.toArray.size = bs.length := by
        rw [List.size_toArray, ← r.length, List.length_map]
      rw [hlen]
      rw [Bool.eq_iff_iff, List.all_eq_true, List.all_eq_true]
      constructor
      · intro hA b hb
        obtain ⟨i, hi, e⟩ := List.getElem_of_mem hb
        have := hA i (List.mem_range.mpr hi)
        rw [List.getD_eq_getElem?_getD, List.getElem?_eq_getElem hi, e] at this
        exact this
      · intro hA i hi
        have hi' := List.mem_range.mp hi
        rw [List.getD_eq_getElem?_getD, List.getElem?_eq_getElem hi']
        exact hA _ (List.getElem_mem hi')
    rw [e2]
    refine ⟨.bl (bs.all id), H, ?_, rfl, q⟩
    exact I.kept (h' := h') (t' := tk) fun b o q' => hk b o (fun zz => by
      have : b = s.heap.objs.size := by simpa using zz
      subst this
      exact absurd (Heap.lt_size q') (Nat.lt_irrefl _)) (Heap.get?_push_of_some _ q')
end L2

namespace L2
open PySem PySem.Spec PyProof.Rows

section
variable {κ : Type} [DecidableEq κ]
def valV (kvs : List (κ × V)) (k : κ) : Option V := (kvs.find? fun kv => decide (kv.1 = k)).map (·.2)
def putK (kvs : List (κ × V)) (k : κ) (v : V) : List (κ × V) :=
  if (kvs.any fun kv => decide (kv.1 = k)) = true then kvs.map (fun kv => if kv.1 = k then (kv.1, v) else kv) else kvs ++ [(k, v)]
def dropK (kvs : List (κ × V)) (k : κ) : List (κ × V) := kvs.filter fun kv => decide (kv.1 ≠ k)

end

abbrev KT (H : Hp) : List (List Key × V) → List (List Key × Addr × Value) → Prop := Paired fun p q => p.1 = q.1 ∧ H q.2.1 = some (.tup (p.1.map kV)) ∧ RelV p.2 q.2.2
section
variable {P : Program} {w : World} {H : Hp} {h : Heap} {a : Addr}
end

def DGet (H : Hp) (a : Addr) (y : V) (r : Option V) : Prop :=
  (∃ kvs k, Rd H a (.dK kvs) ∧ y = kV k ∧ r = valV kvs k) ∨ ∃ kvs k b, Rd H a (.dT kvs) ∧ y = .ref b ∧ H b = some (.tup (k.map kV)) ∧ r = valV kvs k
def DPut (H : Hp) (a : Addr) (y v : V) (H' : Hp) : Prop :=
  (∃ kvs k, H a = some (.dK kvs) ∧ y = kV k ∧ kvs.length < sizeLine ∧ H' = upd H a (.dK (putK kvs k v))) ∨
  ∃ kvs k b, H a = some (.dT kvs) ∧ y = .ref b ∧ H b = some (.tup (k.map kV)) ∧ kvs.length < sizeLine ∧ H' = upd H a (.dT (putK kvs k v))
section
variable {X : Cx} {pins : List (Addr × Obj)} {σ : St} {H : Hp} {s : Shared} {a : Addr} {y v : V} {u r : Value} {o : Option V} {A : Around} {E : Value → Shared → Prop}

end

section
variable {X : Cx} {pins : List (Addr × Obj)} {σ : St} {H : Hp} {s : Shared} {a : Addr} {kvs : List (Key × V)} {k : Key} {u : Value} {A : Around} {E : Value → Shared → Prop}
end

def NoSl (i : Expr) : Prop := ∀ ov iv, subscripted i false ov iv = operate [ov, iv] (getItem ov iv)
def tDGet (td ty : TE) : TE := fun σ H Q => td σ H fun x H1 => ty σ H1 fun y H2 => ∃ a v, x = .ref a ∧ DGet H2 a y (some v) ∧ Q v H2
def tDIn (ty td : TE) : TE := fun σ H Q => ty σ H fun y H1 => td σ H1 fun x H2 => ∃ a o, x = .ref a ∧ DGet H2 a y o ∧ Q (.bl o.isSome) H2
def tDNotIn (ty td : TE) : TE := fun σ H Q => ty σ H fun y H1 => td σ H1 fun x H2 => ∃ a o, x = .ref a ∧ DGet H2 a y o ∧ Q (.bl (!o.isSome)) H2
def sDPut (td ty tv : TE) : TS := fun D σ H => tv σ H fun v H1 => td σ H1 fun x H2 => ty σ H2 fun y H3 => ∃ a H4, x = .ref a ∧ DPut H3 a y v H4 ∧ D.nx σ H4
def sDAug (td ty tv : TE) (rd : V → V → Hp → VK → Prop) : TS := fun D σ H => td σ H fun x H1 => ty σ H1 fun y H2 => ∃ a v, x = .ref a ∧ DGet H2 a y (some v) ∧
  tv σ H2 fun y2 H3 => rd v y2 H3 fun z H4 => ∃ H5, DPut H4 a y z H5 ∧ D.nx σ H5
def sDDel (td ty : TE) : TS := fun D σ H => td σ H fun x H1 => ty σ H1 fun y H2 => ∃ a kvs k, x = .ref a ∧ H2 a = some (.dK kvs) ∧ y = kV k ∧ (valV kvs k).isSome = true ∧ D.nx σ (upd H2 a (.dK (dropK kvs k)))

section
variable {X : Cx} {o i e value : Expr} {pos pos' tpos : Pos} {td ty tv : TE}
end

def tDNewK : TE := fun _ H Q => ∀ p, H p = none → Q (.ref p) (upd H p (.dK []))
def tDNewT : TE := fun _ H Q => ∀ p, H p = none → Q (.ref p) (upd H p (.dT []))
section
variable {X : Cx} {pos : Pos}
end

def tPairs : List (TE × TE) → St → Hp → (List (V × V) → Hp → Prop) → Prop
  | [], _, H, Q => Q [] H
  | (tk, tv) :: r, σ, H, Q => tk σ H fun x H1 => tv σ H1 fun y H2 => tPairs r σ H2 fun ps H3 => Q ((x, y) :: ps) H3
abbrev VV : List (V × V) → List (Value × Value) → Prop := Paired fun p q => RelV p.1 q.1 ∧ RelV p.2 q.2
def PPs (X : Cx) (pos : Pos) (keys : List (Option Expr)) (values : List Expr) (trs : List (TE × TE)) : Prop :=
  ∀ (pins : List (Addr × Obj)) (s : Shared) (σ : St) (H : Hp) (Q : List (V × V) → Hp → Prop), Inv X pins σ H s → tPairs trs σ H Q →
    wpAny (model X.prog X.w) X.A (evalPairs (pairTrees keys values X.env pos)) (fun vs s' => ∃ ps H', Inv X pins σ H' s' ∧ VV ps vs ∧ Q ps H') X.xe s
def mergeK (kvs more : List (Key × V)) : List (Key × V) := more.foldl (fun acc kv => putK acc kv.1 kv.2) kvs
def tDisp (trs : List (TE × TE)) : TE := fun σ H Q => ∀ p, H p = none → tPairs trs σ (upd H p (.dK [])) fun ps H2 => H2 p = some (.dK []) ∧ ∃ kvs : List (Key × V), ps = kvs.map (fun kv => (kV kv.1, kv.2)) ∧ kvs.length ≤ 15 ∧ Q (.ref p) (upd H2 p (.dK (mergeK [] kvs)))
structure M1 (X : Cx) (o : Expr) (m : Str) (apos : Pos) (e : Expr) (cpos : Pos) : Prop where
  base : attributeBase o m X.env (eval o X.env) = eval o X.env
  few : ((backTo cpos (starEach [e] X.env)).all (fun x => !x.1) && (backToKw cpos (keywordEach [] X.env)).all (fun x => x.1.isSome)
    && decide (([e] : List Expr).length + ([] : List Keyword).length + (if ([] : List Keyword).isEmpty then 0 else 1) < 30)) = true
  line : (apos.endLine == cpos.line) = true
  trees : backTo cpos (starEach [e] X.env) = [(false, eval e X.env)]
structure M2 (X : Cx) (o : Expr) (m : Str) (apos : Pos) (e f : Expr) (cpos : Pos) : Prop where
  base : attributeBase o m X.env (eval o X.env) = eval o X.env
  few : ((backTo cpos (starEach [e, f] X.env)).all (fun x => !x.1) && (backToKw cpos (keywordEach [] X.env)).all (fun x => x.1.isSome)
    && decide (([e, f] : List Expr).length + ([] : List Keyword).length + (if ([] : List Keyword).isEmpty then 0 else 1) < 30)) = true
  line : (apos.endLine == cpos.line) = true
  trees : backTo cpos (starEach [e, f] X.env) = [(false, eval e X.env), (false, eval f X.env)]

def IsD (H : Hp) (a : Addr) : Prop := (∃ kvs, Rd H a (.dK kvs)) ∨ ∃ kvs, Rd H a (.dT kvs)
section
variable {X : Cx} {pins : List (Addr × Obj)} {σ : St} {H : Hp} {s : Shared} {a : Addr} {y d : V} {u r : Value} {o : Option V} {A : Around} {E : Value → Shared → Prop}
end

def tDGet1 (td ty : TE) : TE := fun σ H Q => td σ H fun x H1 => ∃ a, x = .ref a ∧ IsD H1 a ∧ ty σ H1 fun y H2 => ∃ o, DGet H2 a y o ∧ Q (o.getD .non) H2
def tDGet2 (td ty tx : TE) : TE := fun σ H Q => td σ H fun x H1 => ∃ a, x = .ref a ∧ IsD H1 a ∧ ty σ H1 fun y H2 => tx σ H2 fun z H3 => ∃ o, DGet H3 a y o ∧ Q (o.getD z) H3
def tDPop1 (td ty : TE) : TE := fun σ H Q => td σ H fun x H1 => ∃ a, x = .ref a ∧ IsD H1 a ∧ ty σ H1 fun y H2 => ∃ kvs k v, H2 a = some (.dK kvs) ∧ y = kV k ∧ valV kvs k = some v ∧ Q v (upd H2 a (.dK (dropK kvs k)))
def tDPop2 (td ty tx : TE) : TE := fun σ H Q => td σ H fun x H1 => ∃ a, x = .ref a ∧ IsD H1 a ∧ ty σ H1 fun y H2 => tx σ H2 fun z H3 => ∃ kvs k, H3 a = some (.dK kvs) ∧ y = kV k ∧
  (∀ v, valV kvs k = some v → Q v (upd H3 a (.dK (dropK kvs k)))) ∧ (valV kvs k = none → Q z H3)
section
variable {X : Cx} {o e f : Expr} {apos cpos : Pos} {td ty tx : TE}
end

section
variable {X : Cx} {pins : List (Addr × Obj)} {σ : St} {H : Hp} {s : Shared} {a : Addr} {y : V} {u : Value} {A : Around} {E : Value → Shared → Prop}
end
end L2

namespace L2
open PySem PySem.Spec PyProof.Rows

section
variable {P : Program} {w : World} {K : PySem.W.Frag} {mg : Str → Option Value} {base : Heap}
end
section
variable {X : Cx}
end

section
variable {κ : Type} [DecidableEq κ]
end
end L2

namespace L2
open PySem PySem.Spec PyProof.Rows
abbrev pairD (x : Int × Int) : PyData := .tuple [.int x.1, .int x.2]
theorem CompScope.one {X : Cx} {x y : Str} {k : Nat} {c : Addr} {scope : Scope} (ns' : List (Str × NameKind)) (kind : scope.kind = .function) (nocell : ∀ z ∈ scope.names, z.2 ≠ .cell) (loc : ∀ z ∈ scope.names, z.2 = .local → scope.names.lookup z.1 = some .local) (own : scope.names.lookup x = some .local)
    (clos : closureFor scope X.env = pure [(y, c)]) (hc : X.env.cells.lookup y = some c) (rl : (relabel scope X.env).names = ns') (only : ∀ p ∈ ns', p.2 = .cell ∨ p.2 = .free → p.1 = y) (ne : x ≠ y) (ny : ns'.lookup y ≠ some .local)
    (hk : X.N[k]? = some y) (kd : X.env.kindOf y = some .cell) : CompScope X [x, y] [k] x scope [(y, c)] := by
  subst rl
  refine ⟨kind, nocell, loc, own, clos, fun z b h => ?_, fun z h => ?_, by simp [ne], rfl, rfl, fun j z h => ?_, fun j k' h => ?_⟩
  · rw [List.lookup_cons] at h
    by_cases e : z = y
    · subst e
      simp at h
      subst h
      exact hc
    · have : (z == y) = false := by simpa using e
      rw [this] at h
      simp at h
  · have e : z = y := by
      rcases h with h | h
      · exact only _ (PySem.mem_of_lookup h) (.inl rfl)
      · exact only _ (PySem.mem_of_lookup h) (.inr rfl)
    subst e
    exact ⟨c, by simp⟩
  · cases j with
    | zero =>
      have e : y = z := by simpa using h
      subst e
      exact ny
    | succ j => simp at h
  · cases j with
    | zero =>
      have e : k = k' := by simpa using h
      subst e
      exact ⟨y, rfl, hk, kd⟩
    | succ j => simp at h
end L2

namespace L2
open PySem PySem.Spec PyProof.Rows
section
variable {X : Cx} {N : List Str} {fr : List Nat} {x : Str} {scope : Scope} {cl : List (Str × Addr)} {elt iter : Expr} {px pos : Pos} {wi : TI} {te : TE}
end
end L2

namespace L2
open PySem PySem.Spec PyProof.Rows
theorem exc_obj2 {v : Value} {K : PySem.W.Frag} {h : Heap} {C : Addr} {bmB : List Value} {newId : String} (X : K.In h) (q : PySem.W.excIn K C bmB newId = true) (em : PySem.W.mroIn K C v = some true) :
    ∃ bm N nm qn bs hdct sn sub ab col dd k0 k1 k2 k3 k5 mN, h.get? C = some (excClassObj nm qn C N bs bm hdct sn sub ab col dd k0 k1 k2 k3 k5 newId) ∧ h.Ns N mN ∧ mN "__init__" = none ∧ OwnTail h bmB bm ∧ (Value.ref C :: bm).contains v = true := by
  unfold PySem.W.excIn at q
  split at q
  · rename_i dd cd sl ho
    split at q
    · rename_i C' bm k0 k1 k2 k3 n k5 hm hs
      have hin : cd.mro.contains v = true := by
        unfold PySem.W.mroIn PySem.W.clsIn at em
        rw [ho] at em
        obtain ⟨cd', a, b⟩ := Option.bind_eq_some_iff.mp em
        cases a
        split at b
        · cases b
        · exact Option.some.inj b
      rw [hm] at hin
      simp only [Bool.and_eq_true, beq_iff_eq, Bool.not_eq_true'] at q
      obtain ⟨⟨⟨⟨⟨c1, c2⟩, c3⟩, c4⟩, c5⟩, c6⟩ := q
      subst c1 c2
      obtain ⟨nm, bs, mro, ns, qn, hd, sn, sub, ab, col, del⟩ := cd
      dsimp only at hm c3 c5 c6
      subst hm c3
      obtain ⟨l⟩ := sl
      have hs' : l = [k0, k1, k2, k3, some (.builtin n), k5] := hs
      subst hs'
      exact ⟨bm, ns, nm, qn, bs, hd, sn, sub, ab, col, dd, k0, k1, k2, k3, k5, _, X _ _ ho, .of_isNs (PySem.W.isNs_of_in X c5), PySem.W.nsMap_none_of_in X c5 c6, PySem.W.tail_of_in X c4, hin⟩
    · cases q
  · cases q

section
variable {M : Model} {A : Around} {E : Value → Shared → Prop}
variable {nm q nm' q' : Str} {C N D N' : Addr} {bs bm bs' bm' : List Value} {hdct hdct' : Bool} {sn sn' : List Str} {sub sub' : List Value} {ab ab' : Bool} {col col' : Option Bool} {dd dd' : Option Addr} {k0 k1 k2 k3 k5 j0 j1 j2 j3 j5 : Option Value} {newId newId' : String}
theorem excMatches_up {h : Heap} {g : Array GenState} {d : Drawn} {t : Nat} {os : OsState} {e : Addr} {oe : Obj} {Q : Bool → Shared → Prop}
    (hC : h.get? C = some (excClassObj nm q C N bs bm hdct sn sub ab col dd k0 k1 k2 k3 k5 newId)) (hD : h.get? D = some (excClassObj nm' q' D N' bs' bm' hdct' sn' sub' ab' col' dd' j0 j1 j2 j3 j5 newId')) (he : h.get? e = some oe) (hcls : oe.cls = .ref C)
    (hbase : bm'.contains (.type "BaseException") = true) (hcC : (Value.ref C :: bm).contains (.ref D) = true)
    (hq : Q true ⟨h, g, d, t, os⟩) : wpAny M A (excMatches (.ref e) (.ref D)) Q E ⟨h, g, d, t, os⟩ := by
  have hcB : (Value.ref D :: bm').contains (.type "BaseException") = true := by rw [List.contains_cons, hbase, Bool.or_true]
  have f := tc_notTuple
  unfold excMatches
  repeat (first | (with_reducible refine wpAny_loadPart_at he ?_; rw [hcls]) | with_reducible refine wpAny_loadPart_at hD ?_ | with_reducible refine wpAny_loadPart_at hC ?_ | (with_reducible refine wpAny_isSubtype_exc hD ?_; rw [hcB]) | (with_reducible refine wpAny_isSubtype_exc hC ?_; rw [hcC]) | wp_step)
  exact hq
end
section
variable {X : Cx} {pins : List (Addr × Obj)} {σ : St} {H H' : Hp} {s s' : Shared} {e : Addr} {cls a0 : Value} {ea C : Addr} {B h' : Heap} {t' : Nat}
theorem handle_as2 {Dc : Addr} {D : Ends} {ts : TS} {x n : Str} {np hpos : Pos} {b₀ : Stmt} {suite : List Stmt} {i : Nat} (I : Inv X pins σ H s) (fly : Fly X.prog X.w X.stack H s (.ref C) a0 ea B H' s') (hst : X.stack = X.env :: X.outer) (hf : X.env.frame = some X.env.locals)
    (hm : X.mg x = some (.ref Dc)) (hg : Gl X x) (hq : PySem.W.excIn X.K C bmVE "ValueError.__new__" = true) (hqD : PySem.W.excIn X.K Dc bmVE "ValueError.__new__" = true) (hcd : PySem.W.mroIn X.K C (.ref Dc) = some true) (hN : X.N.Nodup) (hi : X.N[i]? = some n) (hk : X.env.scope.names.lookup n = some .local)
    (hsu : PSs (X.marked ea) (b₀ :: suite) ts) (h : ts (asEnds D i) (σ.set i (some (.ref ea))) (upd H' ea (.ext (ExcAt C ea)))) (hdb : (x == ("__debug__" : Str)) = false) :
    wpAny (model X.prog X.w) X.A (noteFrame (.ref ea) X.env) (fun _ s₂ => wpAny (model X.prog X.w) X.A (setFlight (.ref ea) none) (fun _ s₃ =>
      wpAny (model X.prog X.w) X.A (handleBy (.ref ea) X.env [.ExceptHandler (some (.Name x np)) (some n) (b₀ :: suite) hpos]) (SP X pins D) X.xe s₃) X.xe s₂) X.xe s' := by
  obtain ⟨hp, gs, dr, tk, os⟩ := s'
  have fr : X.A.frames = some (X.env :: X.outer) := by rw [← hst]; exact I.ok.frames
  have fl : Heap.FlyingW B (X.env :: X.outer) ea (.ref C) a0 hp := by rw [← hst]; exact fly.fly
  refine wpAny_looks_onW fr hf fl fun h4 held4 u4 => ?_
  refine wpAny_landsW held4 fun h5 fl5 u5 => ?_
  have I5 : Inv X pins σ H' ⟨h5, gs, dr, tk, os⟩ := I.landed (t' := tk) fly fl5.1 (u4.trans u5)
  obtain ⟨ob, hob, hobc⟩ := fl5.there
  refine wpAny_handleBy_cons (codeAny_handlers_test (ld_glob (I5.marked ea) hg hm ?_ hdb)) (by intro q; cases q)
  obtain ⟨bm, Nn, nm, qn, bs, hdct, sn, sub, ab, col, dd, k0, k1, k2, k3, k5, mN, hC, hNs, hni, TL, hin⟩ := exc_obj2 I5.kIn hq hcd
  obtain ⟨bm', Nn', nm', qn', bs', hdct', sn', sub', ab', col', dd', j0, j1, j2, j3, j5, mN', hD, hNs', hni', TL'⟩ := exc_obj I5.kIn hqD
  refine excMatches_up hC hD hob hobc (TL'.hasType PySem.F.excBase_ValueError.hasBase) hin ?_
  refine codeAny_handlers_suite_as ?_
  refine lands_againW fl5 fun h6 fl6 u6 => ?_
  have I6 : Inv X pins σ (upd H' ea (.ext (ExcAt C ea))) ⟨h6, gs, dr, tk, os⟩ := I.landedE (t' := tk) fly fl6 ((u4.trans u5).trans u6)
  refine store_ok (X := X.marked ea) (i := i) (v := .ref ea) (I6.marked ea) hN hi (.inl hk) rfl (fun s7 I7 => ?_) (.inr hk)
  refine wpAny_mono (hsu pins s7 _ _ _ I7 h) (fun fw s8 q => ?_) fun _ _ z => False.elim z
  cases fw with
  | next =>
    obtain ⟨σ2, H2, J, q⟩ := q
    exact unbind_ok (J.unmarked I.ok) hN hi hk fun s9 J9 => ⟨_, _, J9, q⟩
  | ret v =>
    obtain ⟨v', σ2, H2, J, r, q⟩ := q
    exact unbind_ok (J.unmarked I.ok) hN hi hk fun s9 J9 => ⟨v', _, _, J9, r, q⟩
  | brk =>
    obtain ⟨σ2, H2, J, q⟩ := q
    exact unbind_ok (J.unmarked I.ok) hN hi hk fun s9 J9 => ⟨_, _, J9, q⟩
  | cont =>
    obtain ⟨σ2, H2, J, q⟩ := q
    exact unbind_ok (J.unmarked I.ok) hN hi hk fun s9 J9 => ⟨_, _, J9, q⟩
end
section
variable {X : Cx} {k : Nat} {f C : Addr} {fd : FuncData} {ps : List Str} {sp : Sp} {g x n : Str} {p pos pos2 pos3 np hpos : Pos} {e : Expr} {es : List Expr} {t : TA} {ts : TS} {b₀ : Stmt} {suite : List Stmt} {i : Nat}
theorem ps_tryAs2 {Dc : Addr} (F : FnOk X.prog X.w X.K X.mg X.base (XF X.prog X.w) k f fd ps sp) (hr : Room k X.A) (hgf : Gl X g) (hmf : X.mg g = some (.ref f)) (hkf : PySem.W.keepIn X.K (.ref f) = true) (hb : Binds X.K fd ps []) (ha : PA X.nox (e :: es) t)
    (hm : X.mg x = some (.ref Dc)) (hg : Gl X x) (hq : PySem.W.excIn X.K C bmVE "ValueError.__new__" = true) (hqD : PySem.W.excIn X.K Dc bmVE "ValueError.__new__" = true) (hcd : PySem.W.mroIn X.K C (.ref Dc) = some true) (hN : X.N.Nodup) (hi : X.N[i]? = some n) (hk : X.env.scope.names.lookup n = some .local) (hsu : ∀ ea, PSs (X.marked ea) (b₀ :: suite) ts)
    (hst : X.stack = X.env :: X.outer := by rfl) (hf : X.env.frame = some X.env.locals := by rfl)
    (hdf : (g == ("__debug__" : Str)) = false := by decide) (hdb : (x == ("__debug__" : Str)) = false := by decide)
    (he : starEach (e :: es) X.env = (false, eval e X.env) :: starEach es X.env := by rfl) (hpl : (backTo pos (starEach es X.env)).any (·.1) = false := by rfl)
    (hsw : swapsWith (.Call (.Name g p) (e :: es) [] pos) none pos2.line X.env = pure false := by rfl) :
    PS X (.Try [.Expr (.Call (.Name g p) (e :: es) [] pos) pos2] [.ExceptHandler (some (.Name x np)) (some n) (b₀ :: suite) hpos] [] [] pos3) (tTryAs sp C i t ts) := by
  intro pins s σ H D I h
  refine wpAny_Try_except (wpAny_execs_cons (wpAny_Expr_any (Q := fun f s₁ => match f with | .next => wpAny (model X.prog X.w) X.A (execs [] X.env) _ _ s₁ | f => _) ?_ I.quiet hsw))
  refine wpAny_Call_Name_kw (ld_glob I hgf hmf ?_ hdf)
  refine PySem.W.callWith_K (h₀ := X.base) I.ok.mod.kin hkf (wpAny_mono (ha pos pins s σ H _ (I.wish _) h) (fun us s1 ⟨vs, H1, I1, r, q⟩ => ⟨I1.unwish.kIn, ?_⟩) fun _ _ z => z.elim) he hpl
  have J := I1.unwish
  have hl : us.length = ps.length := by rw [← r.length]; exact F.len _ _ _ _ q
  have hb' := hb s1 us J.kIn (by rw [List.append_nil]; exact hl)
  rw [List.append_nil] at hb'
  refine wpAny_call (codeAny_mono (F.run X.A X.stack s1 H1 ⟨us, []⟩ us vs _ _ hr J.env0 hb' r q) fun rr s' hq' => ?_)
  cases rr with
  | error ex =>
    obtain ⟨ea, cls, a0, B, H', rfl, fly, hcl, hh⟩ := hq'
    subst hcl
    exact handle_as2 J fly hst hf hm hg hq hqD hcd hN hi hk (hsu ea) (hh ea fly.new.2) hdb
  | ok fl =>
    cases fl with
    | ret u =>
      obtain ⟨v, H2, I2, r2, q2⟩ := J.after hq'
      exact wpAny_execs_nil (wpAny_execs_nil ⟨σ, H2, I2, q2⟩)
    | next => exact False.elim hq'
    | brk => exact False.elim hq'
    | cont => exact False.elim hq'
end
end L2

namespace L2
open PySem PySem.Spec PyProof.Rows
theorem op_eqBl {X : Cx} (hu : X.A.units + 64 < cLine) : OpR X (compareOp .Eq) (fun x y H Q => ∃ (p p' : Addr) (bs : List Bool), x = .ref p ∧ y = .ref p' ∧ H p = some (.lst (bs.map V.bl)) ∧ H p' = some (.lst (bs.map V.bl)) ∧ SeqAt.shaped (.list (bs.map PyData.bool)) = true ∧ Q (.bl true) H) := by
  intro pins s σ H x y v u Q I rx ry h
  obtain ⟨p, p', bs, rfl, rfl, hp, hp', sh, q⟩ := h
  cases rx
  cases ry
  obtain ⟨its, rv, ⟨o, n, e1, e2, _, e3⟩, _⟩ := I.list (SqL.of hp)
  obtain ⟨its', rv', ⟨o', n', e1', e2', _, e3'⟩, _⟩ := I.list (SqL.of hp')
  have ra : Reads s.heap (.ref p) (.list (bs.map PyData.bool)) [p] := .list e1 e2 e3 (reads_bools _ rv)
  have rb : Reads s.heap (.ref p') (.list (bs.map PyData.bool)) [p'] := .list e1' e2' e3' (reads_bools _ rv')
  have cl : PyData.canLay0 (.list (bs.map PyData.bool)) = true := by
    unfold SeqAt.shaped at sh
    rw [Bool.and_eq_true] at sh
    exact sh.1
  refine eq_dataH ra rb sh sh hu ?_
  rw [SeqAt.eqv_refl _ cl]
  exact ⟨.bl true, H, I, rfl, q⟩
def bls (c : Int) (i : Nat) : List Bool := (List.range i).map fun (j : Nat) => decide (V.int (0 + (j : Int)) = V.int c)
theorem bls_len (c : Int) (i : Nat) : (bls c i).length = i := by unfold bls; rw [List.length_map, List.length_range]
theorem bls_more (c : Int) (i : Nat) : bls c (i + 1) = bls c i ++ [decide (V.int (0 + (i : Int)) = V.int c)] := by
  unfold bls
  rw [List.range_succ, List.map_append]
  rfl
def spAloneS (C : Addr) (k : Int) : Sp := fun vs H Q _ => ∃ e, vs = [.ref e, .int k] ∧ H e = some (.ext (ExcAt C e)) ∧ ∀ H', Same H H' → Q (.bl true) H'
end L2

namespace L2
open PySem PySem.Spec PyProof.Rows
end L2

namespace L2
open PySem PySem.Spec PyProof.Rows
def tTryAs3 (sp : Sp) (C C2 : Addr) (i : Nat) (ta : TA) (ts : TS) : TS := fun D σ H => ta σ H fun vs H1 => sp vs H1 (fun _ H2 => D.nx σ H2) fun cls _ H2 =>
  (cls = .ref C ∧ ∀ e, H2 e = none → ts (asEnds D i) (σ.set i (some (.ref e))) (upd H2 e (.ext (ExcAt C e)))) ∨ (cls = .ref C2 ∧ ∀ e, H2 e = none → ts (asEnds D i) (σ.set i (some (.ref e))) (upd H2 e (.ext (ExcAt C2 e))))
section
variable {X : Cx} {k : Nat} {f C : Addr} {fd : FuncData} {ps : List Str} {sp : Sp} {g x n : Str} {p pos pos2 pos3 np hpos : Pos} {e : Expr} {es : List Expr} {t : TA} {ts : TS} {b₀ : Stmt} {suite : List Stmt} {i : Nat}
end
end L2

namespace L2
open PySem PySem.Spec PyProof.Rows
inductive IsiE (X : Cx) (C0 : Addr) : List Expr → List Bool → Prop where
  | nil : IsiE X C0 [] []
  | cons {x : Str} {C : Addr} {b : Bool} {p p2 p3 p4 : Pos} {es : List Expr} {bs : List Bool} (h5 : Gl X x) (h6 : X.mg x = some (.ref C)) (h7 : (x == ("__debug__" : Str)) = false) (k : PySem.W.kitOne X.K (.ref C0) (.ref C) = some b) (h : IsiE X C0 es bs) :
      IsiE X C0 (.Call (.Name "isinstance" p) [.Name "_law_e" p2, .Name x p3] [] p4 :: es) (b :: bs)
def tIsis (C0 : Addr) (bs : List Bool) : TA := fun σ H Q => ∃ a, σ[0]? = some (some (V.ref a)) ∧ H a = some (.ext (ExcAt C0 a)) ∧ Q (bs.map V.bl) H
theorem pa_isis {X : Cx} {C0 : Addr} (T : ExcCls X.K C0) (h1 : X.N[0]? = some ("_law_e" : Str)) (h2 : Vis X.env.scope "_law_e") (h3 : Gl X "isinstance") (h4 : X.mg "isinstance" = none) (hb : bootBuiltins "isinstance" = some (.builtin "isinstance")) {es : List Expr} {bs : List Bool} (h : IsiE X C0 es bs) : PA X es (tIsis C0 bs) := by
  induction h with
  | nil =>
    intro pos pins s σ H Q I q
    obtain ⟨a, e1, e2, q⟩ := q
    exact pa_nil pos pins s σ H Q I q
  | @cons x C b p p2 p3 p4 es bs h5 h6 h7 k h ih =>
    intro pos pins s σ H Q I q
    obtain ⟨a, e1, e2, q⟩ := q
    have z := pa_cons (e := .Call (.Name "isinstance" p) [.Name "_law_e" p2, .Name x p3] [] p4) (pe_callB call_isi h3 h4 hb (pa_cons (pv 0 h1 h2) (pa_cons (pe_glob (v := V.ref C) h5 h6 rfl h7) pa_nil))) ih
    exact z pos pins s σ H Q I ⟨_, e1, _, _, _, _, rfl, .inl ⟨_, rfl⟩, .exc T e2, k, a, e1, e2, q⟩
end L2

namespace L2
open PySem PySem.Spec PyProof.Rows
def tSetC (wi : TI) (fr : List Nat) (tc : TT) (te : TE) (k : Nat) : TS := fun D σ H => tCompIf wi fr tc te σ H fun v H' => D.nx (σ.set k (some v)) H'
section
variable {X : Cx} {N : List Str} {fr : List Nat} {x : Str} {scope : Scope} {cl : List (Str × Addr)} {elt iter : Expr} {px pos : Pos} {wi : TI} {te : TE}
end
end L2

namespace L2
open PySem PySem.Spec PyProof.Rows
def CompEnd (J : It) (Q : VK) (H1 : Hp) (te : TE) (σ : V → St) : Prop := ∀ acc, H1 acc = none → ∃ W : Nat → Nat → Hp → List V → Prop, (∃ m, W 0 m (upd H1 acc (.lst [])) []) ∧
  ∀ i m H' vs, W i m H' vs → H' acc = some (.lst vs) ∧ ((J.stop i H' ∧ Q (.ref acc) H') ∨ (J.go i H' ∧ vs.length < sizeLine ∧ ∀ x H2, J.yld i H' x H2 → te (σ x) H2 fun y H3 => H3 acc = some (.lst vs) ∧ ∃ m', m' < m ∧ W (i + 1) m' (upd H3 acc (.lst (vs ++ [y]))) (vs ++ [y])))
def CompIfEnd (J : It) (Q : VK) (H1 : Hp) (tc : TT) (te : TE) (σ : V → St) : Prop := ∀ acc, H1 acc = none → ∃ W : Nat → Nat → Hp → List V → Prop, (∃ m, W 0 m (upd H1 acc (.lst [])) []) ∧
  ∀ i m H' vs, W i m H' vs → H' acc = some (.lst vs) ∧ ((J.stop i H' ∧ Q (.ref acc) H') ∨ (J.go i H' ∧ vs.length < sizeLine ∧ ∀ x H2, J.yld i H' x H2 → tc (σ x) H2 fun b H3 =>
    if b = true then te (σ x) H3 fun y H4 => H4 acc = some (.lst vs) ∧ ∃ m', m' < m ∧ W (i + 1) m' (upd H4 acc (.lst (vs ++ [y]))) (vs ++ [y]) else ∃ m', m' < m ∧ W (i + 1) m' H3 vs))
def tCompC (wi : TI) (fr : List Nat) (te : TE) : TE := fun σ H Q => wi σ H fun J H1 => CompEnd J Q H1 te (fun x => compSt σ fr (some x))
def tCompIfC (wi : TI) (fr : List Nat) (tc : TT) (te : TE) : TE := fun σ H Q => wi σ H fun J H1 => CompIfEnd J Q H1 tc te (fun x => compSt σ fr (some x))
def tSetC0 (wi : TI) (fr : List Nat) (te : TE) (k : Nat) : TS := fun D σ H => tCompC wi fr te σ H fun v H' => D.nx (σ.set k (some v)) H'
section
variable {X : Cx} {N : List Str} {fr : List Nat} {x : Str} {scope : Scope} {cl : List (Str × Addr)} {elt iter : Expr} {px pos : Pos} {wi : TI} {te : TE}
end

section
variable {X : Cx} {N : List Str} {fr : List Nat} {x : Str} {scope : Scope} {cl : List (Str × Addr)} {elt iter : Expr} {px pos : Pos} {wi : TI} {te : TE}
theorem pe_compC (hc : X.calm = true) (S : CompScope X N fr x scope cl) (hi : PI X (.Name x px) iter wi) (he : ∀ (C : Addr) (s0 : Shared) (H0 : Hp) (fp : List Addr) (pins : List (Addr × Obj)), PE (cxC X N scope cl C s0 H0 fp pins) elt te)
    (hs : ∀ y, foldedSetIterable iter X.env y = pure y := by intro _; rfl) : PE X (.ListComp elt [⟨.Name x px, iter, [], 0⟩] scope pos) (tCompC wi fr te) := pe_comp hc S hi he hs
end
theorem same_upd {H0 H : Hp} {p : Addr} {o : HO} (g : Same H0 H) (h : H0 p = none) : Same H0 (upd H p o) := fun b u q => by
  rw [upd_ne (ne_of_none q h)]
  exact g b u q
theorem comp_range {te : TE} {σ : V → St} {H : Hp} {Q : VK} {lo : Int} (n : Nat) (hn : n < sizeLine) (R : Nat → List V → Hp → Prop) (R0 : ∀ p, H p = none → R 0 [] (upd H p (.lst [])))
    (he : ∀ i vs H' acc (Q' : VK), i < n → Same H H' → H acc = none → H' acc = some (.lst vs) → R i vs H' → vs.length = i → (∀ y H2, Same H' H2 → (R (i + 1) (vs ++ [y]) (upd H2 acc (.lst (vs ++ [y])))) → Q' y H2) → te (σ (.int (lo + i))) H' Q')
    (q : ∀ p H' vs, Same H H' → H p = none → H' p = some (.lst vs) → vs.length = n → R n vs H' → Q (.ref p) H') : CompEnd (Itr lo n) Q H te σ := by
  intro acc hacc
  refine ⟨fun i m H' vs => i ≤ n ∧ m = n - i ∧ Same H H' ∧ H' acc = some (.lst vs) ∧ vs.length = i ∧ R i vs H', ⟨n, Nat.zero_le _, by simp, same_new hacc _, upd_same, rfl, R0 _ hacc⟩, ?_⟩
  rintro i m H' vs ⟨hi, rfl, g, ha, hl, r⟩
  refine ⟨ha, ?_⟩
  by_cases h : i = n
  · subst h
    exact .inl ⟨Nat.le_refl _, q acc H' vs g hacc ha hl r⟩
  · refine .inr ⟨by (show i < n; omega), by omega, ?_⟩
    rintro z H2 ⟨rfl, rfl⟩
    refine he i vs H2 acc _ (by omega) g hacc ha r hl fun y H3 g3 r3 => ⟨g3 _ _ ha, n - (i + 1), by omega, by omega, rfl, same_upd (g.trans g3) hacc, upd_same, ?_, r3⟩
    rw [List.length_append, hl]
    rfl
theorem comp_rangeF {te : TE} {σ : V → St} {H : Hp} {Q : VK} {lo : Int} (n : Nat) (hn : n < sizeLine) (f : Nat → V)
    (he : ∀ i H' (Q' : VK), i < n → Same H H' → (∀ H2, Same H' H2 → Q' (f i) H2) → te (σ (.int (lo + i))) H' Q')
    (q : ∀ p H', Same H H' → H p = none → H' p = some (.lst ((List.range n).map f)) → Q (.ref p) H') : CompEnd (Itr lo n) Q H te σ := by
  refine comp_range n hn (fun i vs _ => vs = (List.range i).map f) (fun _ _ => rfl) ?_ ?_
  · intro i vs H' acc Q' hi g h0 h1 r hl k
    refine he i H' Q' hi g fun H2 g2 => k _ _ g2 ?_
    rw [r, List.range_succ, List.map_append]
    rfl
  · intro p H' vs g h0 h1 hl r
    exact q p H' g h0 (r ▸ h1)
theorem comp_listF {K : PySem.W.Frag} {a : Addr} {xs : List V} {te : TE} {σ : V → St} {H : Hp} {Q : VK} (hx : SqL K H a xs) (hn : xs.length < sizeLine) (f : V → V) (hK : ∀ H', Same H H' → SqL K H' a xs)
    (he : ∀ (i : Nat) (x : V) (H' : Hp) (Q' : VK), xs[i]? = some x → Same H H' → (∀ H2, Same H' H2 → Q' (f x) H2) → te (σ x) H' Q')
    (q : ∀ p H', Same H H' → H p = none → H' p = some (.lst (xs.map f)) → Q (.ref p) H') : CompEnd (Itl K a) Q H te σ := by
  intro acc hacc
  refine ⟨fun i m H' vs => i ≤ xs.length ∧ m = xs.length - i ∧ Same H H' ∧ H' acc = some (.lst vs) ∧ vs = (xs.take i).map f, ⟨xs.length, Nat.zero_le _, by simp, same_new hacc _, upd_same, by simp⟩, ?_⟩
  rintro i m H' vs ⟨hi, rfl, g, ha, rfl⟩
  refine ⟨ha, ?_⟩
  by_cases h : i = xs.length
  · refine .inl ⟨⟨xs, hK _ g, by omega⟩, q acc H' g hacc ?_⟩
    rw [ha, h, List.take_length]
  · have hlt : i < xs.length := by omega
    refine .inr ⟨⟨xs, xs[i], hK _ g, by simp [hlt]⟩, by rw [List.length_map, List.length_take]; omega, ?_⟩
    rintro z H2 ⟨rfl, hz⟩
    have hz' := hz xs (hK _ g)
    refine he i z H2 _ hz' g fun H3 g3 => ⟨g3 _ _ ha, xs.length - (i + 1), by omega, by omega, rfl, same_upd (g.trans g3) hacc, upd_same, ?_⟩
    rw [List.take_succ, hz', List.map_append]
    rfl
theorem comp_tupF {K : PySem.W.Frag} {a : Addr} {xs : List V} {te : TE} {σ : V → St} {H : Hp} {Q : VK} (hx : SqT K H a xs) (hn : xs.length < sizeLine) (f : V → V) (hK : ∀ H', Same H H' → SqT K H' a xs)
    (he : ∀ (i : Nat) (x : V) (H' : Hp) (Q' : VK), xs[i]? = some x → Same H H' → (∀ H2, Same H' H2 → Q' (f x) H2) → te (σ x) H' Q')
    (q : ∀ p H', Same H H' → H p = none → H' p = some (.lst (xs.map f)) → Q (.ref p) H') : CompEnd (Itt K a) Q H te σ := by
  intro acc hacc
  refine ⟨fun i m H' vs => i ≤ xs.length ∧ m = xs.length - i ∧ Same H H' ∧ H' acc = some (.lst vs) ∧ vs = (xs.take i).map f, ⟨xs.length, Nat.zero_le _, by simp, same_new hacc _, upd_same, by simp⟩, ?_⟩
  rintro i m H' vs ⟨hi, rfl, g, ha, rfl⟩
  refine ⟨ha, ?_⟩
  by_cases h : i = xs.length
  · refine .inl ⟨⟨xs, hK _ g, by omega⟩, q acc H' g hacc ?_⟩
    rw [ha, h, List.take_length]
  · have hlt : i < xs.length := by omega
    refine .inr ⟨⟨xs, xs[i], hK _ g, by simp [hlt]⟩, by rw [List.length_map, List.length_take]; omega, ?_⟩
    rintro z H2 ⟨rfl, hz⟩
    have hz' := hz xs (hK _ g)
    refine he i z H2 _ hz' g fun H3 g3 => ⟨g3 _ _ ha, xs.length - (i + 1), by omega, by omega, rfl, same_upd (g.trans g3) hacc, upd_same, ?_⟩
    rw [List.take_succ, hz', List.map_append]
    rfl

mutual
inductive DA (H : Hp) : V → PyData → Prop where
  | int {i : Int} : DA H (.int i) (.int i)
  | bl {b : Bool} : DA H (.bl b) (.bool b)
  | str {x : Str} : DA H (.str x) (.str x)
  | lst {p : Addr} {xs : List V} {ds : List PyData} : H p = some (.lst xs) → DAs H xs ds → DA H (.ref p) (.list ds)
  | tup {p : Addr} {xs : List V} {ds : List PyData} : H p = some (.tup xs) → DAs H xs ds → DA H (.ref p) (.tuple ds)
inductive DAs (H : Hp) : List V → List PyData → Prop where
  | nil : DAs H [] []
  | cons {x : V} {d : PyData} {xs : List V} {ds : List PyData} : DA H x d → DAs H xs ds → DAs H (x :: xs) (d :: ds)
end
def rEqD : R2 := fun x y H Q => ∃ da db : PyData, DA H x da ∧ DA H y db ∧ SeqAt.shaped da = true ∧ SeqAt.shaped db = true ∧ Q (.bl (PyData.eqv da db)) H
def rNeD : R2 := fun x y H Q => ∃ da db : PyData, DA H x da ∧ DA H y db ∧ SeqAt.shaped da = true ∧ SeqAt.shaped db = true ∧ Q (.bl (!PyData.eqv da db)) H
end L2

namespace L2
open PySem PySem.Spec PyProof.Rows

structure CompScope2 (X : Cx) (N : List Str) (fr : List Nat) (x x2 : Str) (scope : Scope) (cl : List (Str × Addr)) : Prop where
  kind : scope.kind = .function
  nocell : ∀ y ∈ scope.names, y.2 ≠ .cell
  loc : ∀ y ∈ scope.names, y.2 = .local → scope.names.lookup y.1 = some .local
  own : scope.names.lookup x = some .local
  own2 : scope.names.lookup x2 = some .local
  clos : closureFor scope X.env = pure cl
  sub : ∀ y c, cl.lookup y = some c → X.env.cells.lookup y = some c
  has : ∀ y, ((relabel scope X.env).names.lookup y = some .cell ∨ (relabel scope X.env).names.lookup y = some .free) → ∃ c, cl.lookup y = some c
  nd : N.Nodup
  hN : N[0]? = some x
  hN2 : N[1]? = some x2
  len : N.length = fr.length + 2
  ownOnly : ∀ (j : Nat) (y : Str), N[j + 2]? = some y → (relabel scope X.env).names.lookup y ≠ some .local
  out : ∀ (j k : Nat), fr[j]? = some k → ∃ y, N[j + 2]? = some y ∧ X.N[k]? = some y ∧ X.env.kindOf y = some .cell
def compSt2 (σ : St) (fr : List Nat) (v v2 : Option V) : St := v :: v2 :: fr.map fun k => (σ[k]?).join
def CompPEnd (K : PySem.W.Frag) (J : It) (Q : VK) (H1 : Hp) (te : TE) (σ : V → V → St) : Prop := ∀ acc, H1 acc = none → ∃ W : Nat → Nat → Hp → List V → Prop, (∃ m, W 0 m (upd H1 acc (.lst [])) []) ∧
  ∀ i m H' vs, W i m H' vs → H' acc = some (.lst vs) ∧ ((J.stop i H' ∧ Q (.ref acc) H') ∨ (J.go i H' ∧ vs.length < sizeLine ∧ ∀ x H2, J.yld i H' x H2 → ∃ (t : Addr) (v1 v2 : V), x = .ref t ∧ SqT K H2 t [v1, v2] ∧ te (σ v1 v2) H2 fun y H3 => H3 acc = some (.lst vs) ∧ ∃ m', m' < m ∧ W (i + 1) m' (upd H3 acc (.lst (vs ++ [y]))) (vs ++ [y])))
def tCompP (K : PySem.W.Frag) (wi : TI) (fr : List Nat) (te : TE) : TE := fun σ H Q => wi σ H fun J H1 => CompPEnd K J Q H1 te (fun v1 v2 => compSt2 σ fr (some v1) (some v2))
theorem compLoop_pairIf {P : Program} {w : World} {A : Around} {s : Shared} {elt iter : Expr} {ifs : List Expr} {es : List Expr} {x1 : Nat} {tp : Pos} {scope : Scope} {pos : Pos} {it acc : Value} {env : Env} {R : Result → Shared → Prop} (I : Nat → Shared → Prop)
    (turn : ∀ n s, I n s → wpAny (model P w) A (pyNext it) (fun r s₁ => match r with
      | none => R (.ok .next) s₁
      | some v => wpAny (model P w) A (letOwnedTupleGo (.Tuple es x1 tp) it v) (fun _ s₁' => wpAny (model P w) A (assign (.Tuple es x1 tp) env v) (fun _ s₂ =>
          wpAny (model P w) A (forIn ifs true fun c r => if r = true then do let ok ← isTrue c env (eval c env); pure (ForInStep.yield ok) else pure (ForInStep.yield r)) (fun ok s₃ =>
            if ok = true then wpAny (model P w) A (eval elt env) (fun x s₄ =>
              wpAny (model P w) A (call (.builtin "list.append") [acc, x]) (fun _ s₅ => ∃ m, m < n ∧ I m s₅) (notedBy (model P w) A env fun e s' => R (.error e) s') s₄) (notedBy (model P w) A env fun e s' => R (.error e) s') s₃
            else ∃ m, m < n ∧ I m s₃) (notedBy (model P w) A env fun e s' => R (.error e) s') s₂)
          (notedBy (model P w) A env fun e s' => R (.error e) s') s₁') (notedBy (model P w) A env fun e s' => R (.error e) s') s₁) (notedBy (model P w) A env fun e s' => R (.error e) s') s)
    (n : Nat) (h : I n s) : codeAny (model P w) A (.compLoop (.ListComp elt [⟨.Tuple es x1 tp, iter, ifs, 0⟩] scope pos) 0 it acc env) R s := by
  refine codeAny_loop rfl I (fun m s1 hI => ?_) n h
  show wpAny _ A ((compTurn (.ListComp elt [⟨.Tuple es x1 tp, iter, ifs, 0⟩] scope pos) 0 it acc env).onRaise (fun x => do noteFrame x env; theTreesLotGoes x)) _ _ s1
  refine wpAny_noted ?_
  rw [compTurn_list]
  refine wpAny_bind (wpAny_standAt (wpAny_bind (wpAny_mono (turn m s1 hI) (fun r s2 k2 => ?_) fun _ _ z => z)))
  cases r with
  | none => exact wpAny_pure k2
  | some v =>
    refine wpAny_bind (wpAny_mono k2 (fun _ s3 k3 => ?_) fun _ _ z => z)
    refine wpAny_bind (wpAny_mono k3 (fun _ s4 k4 => wpAny_bind (wpAny_mono k4 (fun ok s5 k5 => ?_) fun _ _ z => z)) fun _ _ z => z)
    cases ok with
    | false => exact wpAny_pure ⟨rfl, k5⟩
    | true =>
      exact wpAny_bind (wpAny_bind (wpAny_mono k5 (fun x s6 k6 => wpAny_bind (wpAny_mono k6 (fun _ s7 k7 => wpAny_pure (wpAny_pure ⟨rfl, k7⟩)) fun _ _ z => z)) fun _ _ z => z))
def CompPIEnd (K : PySem.W.Frag) (J : It) (Q : VK) (H1 : Hp) (tc : TT) (te : TE) (σ : V → V → St) : Prop := ∀ acc, H1 acc = none → ∃ W : Nat → Nat → Hp → List V → Prop, (∃ m, W 0 m (upd H1 acc (.lst [])) []) ∧
  ∀ i m H' vs, W i m H' vs → H' acc = some (.lst vs) ∧ ((J.stop i H' ∧ Q (.ref acc) H') ∨ (J.go i H' ∧ vs.length < sizeLine ∧ ∀ x H2, J.yld i H' x H2 → ∃ (t : Addr) (v1 v2 : V), x = .ref t ∧ SqT K H2 t [v1, v2] ∧ tc (σ v1 v2) H2 fun b H3 =>
    if b = true then te (σ v1 v2) H3 fun y H4 => H4 acc = some (.lst vs) ∧ ∃ m', m' < m ∧ W (i + 1) m' (upd H4 acc (.lst (vs ++ [y]))) (vs ++ [y]) else ∃ m', m' < m ∧ W (i + 1) m' H3 vs))
def tCompPI (K : PySem.W.Frag) (wi : TI) (fr : List Nat) (tc : TT) (te : TE) : TE := fun σ H Q => wi σ H fun J H1 => CompPIEnd K J Q H1 tc te (fun v1 v2 => compSt2 σ fr (some v1) (some v2))
section
variable {X : Cx} {N : List Str} {fr : List Nat} {x x2 : Str} {scope : Scope} {cl : List (Str × Addr)} {elt iter : Expr} {px px2 tp pos : Pos} {kt : Nat} {wi : TI} {te : TE}
theorem cxC_ok2 {pins : List (Addr × Obj)} {σ : St} {H : Hp} {s : Shared} {fp : List Addr} {C : Addr} (S : CompScope2 X N fr x x2 scope cl) (I : Inv X pins σ H s) (hf : ∀ b ∈ fp, FpOk X pins H b) (hC : s.heap.objs.size ≤ C) (hfl : ∀ b ∈ fp, b < s.heap.objs.size) : (cxC X N scope cl C s H fp pins).Ok where
  mod := I.ok.mod
  kind := S.kind
  glob := I.ok.glob
  blt := I.ok.blt
  above := hC
  inj := fun y z c h1 h2 => I.ok.inj y z c (S.sub _ _ h1) (S.sub _ _ h2)
  has := fun y h => S.has y h
  cab := fun y c h => by cases h
  hd := I.ok.hd
  frames := I.ok.frames
  stk := .inl rfl
  exf := fun b hb => ⟨Nat.ne_of_lt (Nat.lt_of_lt_of_le (hfl b hb) hC), fun y c h => (hf b hb).2.2.2.2.1 y c (S.sub _ _ h)⟩
  bs := fun b o e => I.bs b o e
  bsz := Nat.le_trans I.ok.bsz I.sz
  noex := fun b o e hb => by
    rcases (hf b hb).2.2.2.1 with z | z
    · exact I.ok.noex b o e z
    · exact absurd (Nat.lt_of_lt_of_le (Heap.lt_size e) (Nat.le_trans I.ok.bsz z)) (Nat.lt_irrefl _)
  exfs := fun b hb z => by
    rcases List.mem_cons.mp (I.stkSub b z) with e | e
    · exact (hf b hb).2.1 e
    · exact (hf b hb).2.2.1 e
  funs := I.stack
  frf := I.stkFree
theorem cxC_start2 {pins : List (Addr × Obj)} {σ : St} {H : Hp} {s s4 : Shared} {fp : List Addr} {C : Addr} {m : Str → Option Value} (S : CompScope2 X N fr x x2 scope cl) (I : Inv X pins σ H s) (hf : ∀ b ∈ fp, FpOk X pins H b) (hC : s.heap.objs.size ≤ C) (hfl : ∀ b ∈ fp, b < s.heap.objs.size)
    (hn : s4.heap.Ns C m) (hk : ∀ b o, s.heap.get? b = some o → s4.heap.get? b = some o) (ho : s4.os = s.os) (hg : s4.gens = s.gens) : Inv (cxC X N scope cl C s H fp pins) [] (compSt2 σ fr none none) H s4 := by
  obtain ⟨m0, hn0, hl⟩ := id I.loc
  refine ⟨cxC_ok2 S I hf hC hfl, ho, by rw [hg]; exact I.bare, Un.kept hk, ⟨m, hn, fun i y v e1 e2 e3 => ?_⟩, fun y c h => ?_, I.hok.fresh hC, fun y c h => I.freeC y c (S.sub _ _ h), fun p hp => ?_, I.hok.kept hk, ?_⟩
  · match i, e1, e2 with
    | 0, e1, e2 => cases e2
    | 1, e1, e2 => cases e2
    | j + 2, e1, e2 =>
      have e2' : (fr.map fun k => (σ[k]?).join)[j]? = some (some v) := e2
      rw [List.getElem?_map] at e2'
      cases ek : fr[j]? with
      | none => rw [ek] at e2'; cases e2'
      | some k =>
        rw [ek] at e2'
        have e4 : (σ[k]?).join = some v := Option.some.inj e2'
        obtain ⟨y', h1, h2, h3⟩ := S.out j k ek
        have e1' : N[j + 2]? = some y := e1
        obtain rfl : y' = y := Option.some.inj (h1.symm.trans e1')
        have e5 : σ[k]? = some (some v) := by
          cases q : σ[k]? with
          | none => rw [q] at e4; cases e4
          | some w => rw [q] at e4; exact congrArg some e4
        obtain ⟨u, r, lk⟩ := hl k y' v h2 e5 (.inr (.inl h3))
        refine ⟨u, r, .inr ?_⟩
        rcases lk with ⟨z, _⟩ | ⟨_, c, hc, hcell⟩
        · rw [h3] at z; cases z
        · have e6 : Vis (relabel scope X.env) y' := e3
          have hk2 : (relabel scope X.env).names.lookup y' = some .cell ∨ (relabel scope X.env).names.lookup y' = some .free := by
            rcases e6 with e6 | e6 | e6
            · exfalso
              have nd := S.nd
              -- a name of the block's own is the first one
              exact S.ownOnly _ _ h1 e6
            · exact .inl e6
            · exact .inr e6
          obtain ⟨c2, hc2⟩ := S.has y' hk2
          have := S.sub _ _ hc2
          rw [hc] at this; cases this
          obtain ⟨o, z1, z2⟩ := hcell
          exact ⟨hk2, c, hc2, o, hk _ _ z1, z2⟩
  · obtain ⟨v, o, z1, z2⟩ := I.cell y c (S.sub _ _ h)
    exact ⟨v, o, hk _ _ z1, z2⟩
  · rw [List.append_nil] at hp
    obtain ⟨e, k, ne, nf, d⟩ := I.pin p hp
    refine ⟨hk _ _ e, k, Nat.ne_of_lt (Nat.lt_of_lt_of_le (Heap.lt_size e) hC), fun z => ?_, d⟩
    rcases List.mem_cons.mp (I.stkSub _ z) with q | q
    · exact ne q
    · exact nf q
  · show (compSt2 σ fr none none).length = N.length
    rw [S.len]
    simp [compSt2]
theorem comp_core2 {ifs : List Expr} {tc : TT} {use : Option (Value → Sem Unit)} {R : Value → Shared → Prop} {Q : VK} {pins : List (Addr × Obj)} {s : Shared} {σ : St} {H : Hp} {ep : Pos} (hc : X.calm = true) (S : CompScope2 X N fr x x2 scope cl) (hi : PI X (.Tuple [.Name x px, .Name x2 px2] kt tp) iter wi)
    (ht : ∀ (C : Addr) (s0 : Shared) (H0 : Hp) (fp : List Addr) (pins : List (Addr × Obj)), PTs (cxC X N scope cl C s0 H0 fp pins) ifs tc) (he : ∀ (C : Addr) (s0 : Shared) (H0 : Hp) (fp : List Addr) (pins : List (Addr × Obj)), PE (cxC X N scope cl C s0 H0 fp pins) elt te)
    (hs : ∀ y, foldedSetIterable iter X.env y = pure y) (I : Inv X pins σ H s) (h : tCompPI X.K wi fr tc te σ H Q)
    (fin : ∀ (acc C : Addr) (m : Str → Option Value) (H6 : Hp) (s7 : Shared), Q (.ref acc) H6 → s7.heap.Ns C m → (∀ h' : Heap, Heap.SameBut C s7.heap h' → Inv X pins σ H6 { s7 with heap := h' }) → H6 C = none → X.env.locals ≠ C → (∀ z c, X.env.cells.lookup z = some c → c ≠ C) → (∀ p ∈ X.pn ++ pins, p.1 ≠ C) → X.s₀.heap.objs.size ≤ C → compPost (model X.prog X.w) X.A X.xe use R (.ref acc) C (.ok .next) s7) :
    wpAny (model X.prog X.w) X.A (comprehension (.ListComp elt [⟨.Tuple [.Name x px, .Name x2 px2] kt tp, iter, ifs, 0⟩] scope pos) scope X.env ep (newList []) false (eval iter X.env) use) R X.xe s := by
  refine wpAny_comprehension_free (use := use) rfl hs S.clos S.kind S.loc (thn (hi pins s σ H _ I h) fun v s1 h1 => thn h1 fun itv s2 h2 => ?_)
  obtain ⟨it, fp, tn, J, H2, e, I2, T, st2, f2, hW⟩ := h2
  subst e
  have hfl : ∀ b ∈ fp, b < s2.heap.objs.size := fun b hb => by
    obtain ⟨o, q, _⟩ := T.obj _ _ st2 b hb
    exact Heap.lt_size q
  have hfr : H2 s2.heap.objs.size = none := I2.hok.fresh (Nat.le_refl _)
  refine wpAny_newObj_type ?_
  have keep3 : ∀ b o, s2.heap.get? b = some o → (s2.heap.push { cls := .type "list", dict := none, data := .seq ([] : List Value).toArray }).get? b = some o := fun b o q => Heap.get?_push_of_some _ q
  have I3 : Inv X pins σ (upd H2 s2.heap.objs.size (.lst [])) { s2 with heap := s2.heap.push { cls := .type "list", dict := none, data := .seq ([] : List Value).toArray } } :=
    I2.laid (t' := s2.toks) keep3 (Nat.le_refl _) ⟨Nat.zero_le _, [], 0, .nil, Heap.get?_push_size _ rfl⟩
  obtain ⟨W, ⟨m0, w0⟩, turn⟩ := hW s2.heap.objs.size hfr
  have f3 : ∀ b ∈ fp, FpOk X pins (upd H2 s2.heap.objs.size (.lst [])) b := fun b hb => ⟨by rw [upd_ne (Nat.ne_of_lt (hfl b hb))]; exact (f2 b hb).1, (f2 b hb).2⟩
  refine wpAny_newFunctionEnv S.nocell (by intro y hy; simp at hy) (fun h4 hns hsb => ?_) S.kind
  have hfl3 : ∀ b ∈ fp, b < (s2.heap.push { cls := .type "list", dict := none, data := .seq ([] : List Value).toArray }).objs.size := fun b hb => by
    rw [Heap.size_push]
    exact Nat.lt_succ_of_lt (hfl b hb)
  have keep4 : ∀ b o, (s2.heap.push { cls := .type "list", dict := none, data := .seq ([] : List Value).toArray }).get? b = some o → h4.get? b = some o := fun b o q =>
    (hsb.2 b (Nat.ne_of_lt (Heap.lt_size q))).trans (Heap.get?_push_of_some _ q)
  have I4 : Inv (cxC X N scope cl (s2.heap.push { cls := .type "list", dict := none, data := .seq ([] : List Value).toArray }).objs.size { s2 with heap := s2.heap.push { cls := .type "list", dict := none, data := .seq ([] : List Value).toArray } } (upd H2 s2.heap.objs.size (.lst [])) fp pins) [] (compSt2 σ fr none none) (upd H2 s2.heap.objs.size (.lst []))
      { s2 with heap := h4, toks := s2.toks + ([] : List (Str × Value)).length } := cxC_start2 S I3 f3 (Nat.le_refl _) hfl3 hns keep4 rfl rfl
  have st4 : tn 0 h4 := T.keep _ _ _ st2 fun b hb o q => keep4 b o (keep3 b o q)
  generalize hY : cxC X N scope cl (s2.heap.push { cls := .type "list", dict := none, data := .seq ([] : List Value).toArray }).objs.size { s2 with heap := s2.heap.push { cls := .type "list", dict := none, data := .seq ([] : List Value).toArray } } (upd H2 s2.heap.objs.size (.lst [])) fp pins = Y at I4
  have hel : PE Y elt te := hY ▸ he _ _ _ _ _
  have htl : PTs Y ifs tc := hY ▸ ht _ _ _ _ _
  have eA : Y.A = X.A := by rw [← hY]; rfl
  have eP : Y.prog = X.prog := by rw [← hY]; rfl
  have ew : Y.w = X.w := by rw [← hY]; rfl
  have eK : Y.K = X.K := by rw [← hY]; rfl
  have eC : Y.calm = true := by rw [← hY]; exact hc
  have eE : Y.env = compEnvC scope cl (s2.heap.push { cls := .type "list", dict := none, data := .seq ([] : List Value).toArray }).objs.size X.env := by rw [← hY]; rfl
  have eX : Y.xe = fun _ _ => False := by rw [← hY]; rfl
  have hg : PG Y (.Tuple [.Name x px, .Name x2 px2] kt tp) (gTup Y.K 2 (gCons (gName 0) (gCons (gName 1) gNil))) := by
    refine pg_tup eC (pgs_cons ?_ (pgs_cons ?_ pgs_nil)) (by rfl) (by rfl)
    · subst hY
      exact pg_name (i := 0) S.nd S.hN (.inl (lookup_relabel_local S.own)) (.inr (lookup_relabel_local S.own))
    · subst hY
      exact pg_name (i := 1) S.nd S.hN2 (.inl (lookup_relabel_local S.own2)) (.inr (lookup_relabel_local S.own2))
  have fY : ∀ {H' : Hp}, (∀ b ∈ fp, H' b = none) → ∀ b ∈ fp, FpOk Y [] H' b := fun {H'} hn b hb => by
    subst hY
    obtain ⟨_, g2, g3, g4, g5, g6⟩ := f3 b hb
    refine ⟨hn b hb, Nat.ne_of_lt (hfl3 b hb), fun z => ?_, .inl hb, fun y c q => g5 y c (S.sub _ _ q), fun p hp => ?_⟩
    · rcases List.mem_cons.mp (I3.stkSub b z) with q | q
      · exact g2 q
      · exact g3 q
    · rw [List.append_nil] at hp
      exact g6 p hp
  have loop : ∀ s5 : Shared, s5 = { s2 with heap := h4, toks := s2.toks + ([] : List (Str × Value)).length } →
      codeAny (model X.prog X.w) X.A (.compLoop (.ListComp elt [⟨.Tuple [.Name x px, .Name x2 px2] kt tp, iter, ifs, 0⟩] scope pos) 0 (.ref it) (.ref s2.heap.objs.size) (compEnvC scope cl (s2.heap.push { cls := .type "list", dict := none, data := .seq ([] : List Value).toArray }).objs.size X.env))
        (compPost (model X.prog X.w) X.A X.xe use R (.ref s2.heap.objs.size) (s2.heap.push { cls := .type "list", dict := none, data := .seq ([] : List Value).toArray }).objs.size) s5 := by
    rintro s5 rfl
    refine compLoop_pairIf (fun n s' => ∃ i v v2 H' vs, Inv Y [] (compSt2 σ fr v v2) H' s' ∧ tn i s'.heap ∧ (∀ b ∈ fp, H' b = none) ∧ W i n H' vs) ?_ m0 ⟨0, none, none, _, [], I4, st4, fun b hb => (f3 b hb).1, w0⟩
    rintro n s6 ⟨i, v6, v62, H6, vs, I6, st6, fr6, w6⟩
    obtain ⟨hacc, hgo⟩ := turn i n H6 vs w6
    rcases hgo with ⟨stop, qn⟩ | ⟨go, hz, step⟩
    · have hd := T.done Y eP ew eK eC i [] s6 _ H6 (fun _ _ => False) I6 (fY fr6) st6 stop
      rw [eA] at hd
      refine wpAny_mono hd (fun r s7 ⟨hr, I7⟩ => ?_) fun _ _ z => z.elim
      subst hr
      obtain ⟨m, hn, _⟩ := id I7.loc
      rw [eE] at hn
      have hend : ∀ h' : Heap, Heap.SameBut (s2.heap.push { cls := .type "list", dict := none, data := .seq ([] : List Value).toArray }).objs.size s7.heap h' → Inv X pins σ H6 { s7 with heap := h' } := fun h' hs' => by
        subst hY
        exact cxC_end I3 f3 (Nat.le_refl _) I7 hs'
      have cf : H6 (s2.heap.push { cls := .type "list", dict := none, data := .seq ([] : List Value).toArray }).objs.size = none := by
        subst hY
        exact I7.free
      have big : ∀ b o, s2.heap.get? b = some o → b ≠ (s2.heap.push { cls := .type "list", dict := none, data := .seq ([] : List Value).toArray }).objs.size := fun b o q => Nat.ne_of_lt (by rw [Heap.size_push]; exact Nat.lt_succ_of_lt (Heap.lt_size q))
      obtain ⟨m2, hn2, _⟩ := id I2.loc
      obtain ⟨oL, _, _, hoL, _⟩ := id hn2
      exact fin _ _ m H6 s7 qn hn hend cf (big _ _ hoL) (fun z c q => by
        obtain ⟨_, o, w1, _⟩ := I2.cell z c q
        exact big _ _ w1) (fun p hp => by
        obtain ⟨e, _⟩ := I2.pin p hp
        exact big _ _ e) (by
        rw [Heap.size_push]
        exact Nat.le_succ_of_le (Nat.le_trans (Nat.le_refl _) I2.sz))
    · have hd := T.item Y eP ew eK eC i [] s6 _ H6 (fun _ _ => False) I6 (fY fr6) st6 go
      rw [eA] at hd
      refine wpAny_mono hd (fun r s7 ⟨u, hr, h7⟩ => ?_) fun _ _ z => z.elim
      subst hr
      refine wpAny_mono h7 (fun _ s8 ⟨y, H8, I8, r8, y8, st8, fr8⟩ => ?_) fun _ _ z => z.elim
      have I8' := I8.pinned (fY fr8) (T.obj _ _ st8)
      obtain ⟨ta, va, vb, ey, hta, step'⟩ := step y _ y8
      have h9 := hg _ s8 _ H8 y u (fun σ9 H9 => σ9 = compSt2 σ fr (some va) (some vb) ∧ H9 = H8) I8' r8 ⟨ta, [va, vb], ey, by rw [eK]; exact hta, rfl, va, [vb], rfl, vb, [], rfl, rfl, rfl, rfl⟩
      rw [eA, eP, ew, eE, eX] at h9
      refine wpAny_mono h9 (fun _ s9 ⟨σ9, H9, I9, e9, e9'⟩ => ?_) fun _ _ z => z.elim
      subst e9 e9'
      have ht10 := htl _ s9 _ _ _ I9 step'
      rw [eA, eP, ew, eE, eX] at ht10
      refine wpAny_mono ht10 (fun ok s9t ⟨H9t, I9t, q9t⟩ => ?_) fun _ _ z => z.elim
      cases ok with
      | false =>
        rw [if_neg Bool.false_ne_true] at q9t
        rw [if_neg Bool.false_ne_true]
        obtain ⟨m', hm, w10⟩ := q9t
        refine ⟨m', hm, i + 1, some va, some vb, _, vs, I9t.unpinned, T.keep _ _ _ st8 fun b hb o q => (I9t.pin (b, o) (List.mem_append_right _ (List.mem_append_right _ (mem_pinsAt hb q)))).1, fun b hb => ?_, w10⟩
        obtain ⟨o, q, _⟩ := T.obj _ _ st8 b hb
        exact (I9t.pin (b, o) (List.mem_append_right _ (List.mem_append_right _ (mem_pinsAt hb q)))).2.1
      | true =>
      rw [if_pos rfl] at q9t
      rw [if_pos rfl]
      have h10 := hel _ s9t _ _ _ I9t q9t
      rw [eA, eP, ew, eE, eX] at h10
      refine wpAny_mono h10 (fun u10 s10 ⟨z10, H10, I10, r10, a10, m', hm, w10⟩ => ?_) fun _ _ z => z.elim
      have h11 := mt_append _ s10 _ H10 (.ref s2.heap.objs.size) [z10] (.ref s2.heap.objs.size) [u10] (fun _ H11 => H11 = upd H10 s2.heap.objs.size (.lst (vs ++ [z10]))) I10 rfl (.cons r10 .nil) ⟨_, vs, z10, rfl, rfl, a10, hz, rfl⟩
      rw [eA, eP, ew, eX] at h11
      refine wpAny_mono h11 (fun _ s11 ⟨_, H11, I11, _, e11⟩ => ?_) fun _ _ z => z.elim
      subst e11
      refine ⟨m', hm, i + 1, some va, some vb, _, vs ++ [z10], I11.unpinned, T.keep _ _ _ st8 fun b hb o q => (I11.pin (b, o) (List.mem_append_right _ (List.mem_append_right _ (mem_pinsAt hb q)))).1, fun b hb => ?_, w10⟩
      obtain ⟨o, q, _⟩ := T.obj _ _ st8 b hb
      exact (I11.pin (b, o) (List.mem_append_right _ (List.mem_append_right _ (mem_pinsAt hb q)))).2.1
  exact codeAny_compStart_list (loop _ rfl) (T.self _ 0 _ _ _ st4 (loop _ rfl))
theorem pe_compPair (hc : X.calm = true) (S : CompScope2 X N fr x x2 scope cl) (hi : PI X (.Tuple [.Name x px, .Name x2 px2] kt tp) iter wi) (he : ∀ (C : Addr) (s0 : Shared) (H0 : Hp) (fp : List Addr) (pins : List (Addr × Obj)), PE (cxC X N scope cl C s0 H0 fp pins) elt te)
    (hs : ∀ y, foldedSetIterable iter X.env y = pure y := by intro _; rfl) : PE X (.ListComp elt [⟨.Tuple [.Name x px, .Name x2 px2] kt tp, iter, [], 0⟩] scope pos) (tCompP X.K wi fr te) := by
  intro pins s σ H Q I h
  rw [eval_ListComp]
  exact comp_core2 (tc := fun _ H Q => Q true H) (use := none) hc S hi (fun _ _ _ _ _ => pts_nil) he hs I h fun acc C m H6 s7 qn hn hend _ _ _ _ _ => ⟨m, hn, fun h' hs' => ⟨.ref acc, H6, hend h' hs', rfl, qn⟩⟩
end
end L2

namespace L2
open PySem PySem.Spec PyProof.Rows

structure CompScopeK (X : Cx) (N : List Str) (fr : List Nat) (x : Str) (scope : Scope) (cl : List (Str × Addr)) : Prop where
  kind : scope.kind = .function
  hcf : ∀ n : Nat, cellsFrom n scope.names cl = (x, n) :: cl
  hpc : ∀ h : Heap, pushCells h scope.names = h.push { cls := .type "cell", data := .cell none }
  loc : ∀ y ∈ scope.names, y.2 = .local → scope.names.lookup y.1 = some .local
  own : (relabel scope X.env).names.lookup x = some .cell
  clos : closureFor scope X.env = pure cl
  sub : ∀ y c, cl.lookup y = some c → X.env.cells.lookup y = some c
  has : ∀ y, ((relabel scope X.env).names.lookup y = some .cell ∨ (relabel scope X.env).names.lookup y = some .free) → y = x ∨ ∃ c, cl.lookup y = some c
  nd : N.Nodup
  hN : N[0]? = some x
  len : N.length = fr.length + 1
  ownOnly : ∀ (j : Nat) (y : Str), N[j + 1]? = some y → (relabel scope X.env).names.lookup y ≠ some .local
  out : ∀ (j k : Nat), fr[j]? = some k → ∃ y, N[j + 1]? = some y ∧ X.N[k]? = some y ∧ X.env.kindOf y = some .cell
def cxK (X : Cx) (N : List Str) (x : Str) (scope : Scope) (cl : List (Str × Addr)) (C : Addr) (s0 : Shared) (H0 : Hp) (fp : List Addr) (pins : List (Addr × Obj)) : Cx :=
  { X with N := N, s₀ := s0, H₀ := H0, env := compEnvC scope ((x, C + 1) :: cl) C X.env, outer := X.stack, ex := fp, fn := fun y => y == x, pn := X.pn ++ pins, xe := fun _ _ => False }
section
variable {X : Cx} {N : List Str} {fr : List Nat} {x : Str} {scope : Scope} {cl : List (Str × Addr)} {elt iter : Expr} {px pos : Pos} {wi : TI} {te : TE}
end
end L2

namespace L2
open PySem PySem.Spec PyProof.Rows
end L2

namespace L2
open PySem PySem.Spec PyProof.Rows
section
variable {P : Program} {w : World} {A : Around} {E : Value → Shared → Prop} {s : Shared}
structure ZT (z TI TO j1 j2 a1 a2 : Addr) (us vs : Array Value) (i : Nat) (f0 : Value) (h : Heap) : Prop where
  zip : IsZip h z TI TO f0
  its : IsPair h TI (.ref j1) (.ref j2)
  to : ∃ a b, IsPair h TO a b
  i1 : h.IsTupleIter j1 a1 i
  i2 : h.IsTupleIter j2 a2 i
end
def Itz (K : PySem.W.Frag) (a b : Addr) : It :=
  ⟨fun i H => ∃ xs ys x y, SqT K H a xs ∧ SqT K H b ys ∧ xs[i]? = some x ∧ ys[i]? = some y,
   fun i H v H' => ∃ t x y, v = .ref t ∧ H t = none ∧ H' = upd H t (.tup [x, y]) ∧ (∀ xs, SqT K H a xs → xs[i]? = some x) ∧ ∀ ys, SqT K H b ys → ys[i]? = some y,
   fun i H => ∃ xs ys, SqT K H a xs ∧ SqT K H b ys ∧ xs.length ≤ i⟩
def iZip (K : PySem.W.Frag) (ta : TA) : TI := fun σ H R => ta σ H fun vs H1 => ∃ (a b : Addr) (xs ys : List V), vs = [.ref a, .ref b] ∧ SqT K H1 a xs ∧ SqT K H1 b ys ∧ R (Itz K a b) H1
end L2

namespace L2
open PySem PySem.Spec PyProof.Rows
def tSetCP (K : PySem.W.Frag) (wi : TI) (fr : List Nat) (te : TE) (k : Nat) : TS := fun D σ H => tCompP K wi fr te σ H fun v H' => D.nx (σ.set k (some v)) H'
section
variable {X : Cx} {N : List Str} {fr : List Nat} {x x2 : Str} {scope : Scope} {cl : List (Str × Addr)} {elt iter : Expr} {px px2 tp pos : Pos} {kt : Nat} {wi : TI} {te : TE}
end
theorem compP_tupF {K : PySem.W.Frag} {a : Addr} {xs : List V} {te : TE} {σ : V → V → St} {H : Hp} {Q : VK} (hx : ∀ H', Same H H' → SqT K H' a xs) (hn : xs.length < sizeLine) (p1 p2 f : Nat → V) (hp : ∀ (i : Nat) (x : V), xs[i]? = some x → ∃ t, x = .ref t ∧ H t = some (.tup [p1 i, p2 i]))
    (he : ∀ (i : Nat) (H' : Hp) (Q' : VK), i < xs.length → Same H H' → (∀ H2, Same H' H2 → Q' (f i) H2) → te (σ (p1 i) (p2 i)) H' Q')
    (q : ∀ p H', Same H H' → H p = none → H' p = some (.lst ((List.range xs.length).map f)) → Q (.ref p) H') : CompPEnd K (Itt K a) Q H te σ := by
  intro acc hacc
  refine ⟨fun i m H' vs => i ≤ xs.length ∧ m = xs.length - i ∧ Same H H' ∧ H' acc = some (.lst vs) ∧ vs = (List.range i).map f, ⟨xs.length, Nat.zero_le _, by simp, same_new hacc _, upd_same, by simp⟩, ?_⟩
  rintro i m H' vs ⟨hi, rfl, g, ha, rfl⟩
  refine ⟨ha, ?_⟩
  by_cases h : i = xs.length
  · refine .inl ⟨⟨xs, hx _ g, by omega⟩, q acc H' g hacc ?_⟩
    rw [ha, h]
  · have hlt : i < xs.length := by omega
    refine .inr ⟨⟨xs, xs[i], hx _ g, by simp [hlt]⟩, by rw [List.length_map, List.length_range]; omega, ?_⟩
    rintro z H2 ⟨rfl, hz⟩
    have hz' := hz xs (hx _ g)
    obtain ⟨t, rfl, ht⟩ := hp i z hz'
    refine ⟨t, p1 i, p2 i, rfl, SqT.of (g _ _ ht), he i H2 _ hlt g fun H3 g3 => ⟨g3 _ _ ha, xs.length - (i + 1), by omega, by omega, rfl, same_upd (g.trans g3) hacc, upd_same, ?_⟩⟩
    rw [List.range_succ, List.map_append]
    rfl
theorem outs_ok {X : Cx} {own : List Str} {ys : List Str} {ks : List Nat} (hl : ks.length = ys.length) (hk : ∀ p ∈ ks.zip ys, X.N[p.1]? = some p.2 ∧ X.env.kindOf p.2 = some .cell) : ∀ (j k : Nat), ks[j]? = some k → ∃ y, (own ++ ys)[j + own.length]? = some y ∧ X.N[k]? = some y ∧ X.env.kindOf y = some .cell := by
  intro j k h
  have hj : j < ks.length := (List.getElem?_eq_some_iff.mp h).1
  have hj2 : j < ys.length := by omega
  refine ⟨ys[j], by rw [List.getElem?_append_right (by omega)]; simp [hj2], ?_⟩
  have m : (k, ys[j]) ∈ ks.zip ys := by
    refine List.mem_of_getElem? (i := j) ?_
    rw [List.getElem?_zip_eq_some]
    exact ⟨h, by simp [hj2]⟩
  exact hk _ m
theorem lookup_mem_all {cl : List (Str × Addr)} {P : Str → Addr → Prop} (h : ∀ p ∈ cl, P p.1 p.2) {y : Str} {c : Addr} (e : cl.lookup y = some c) : P y c := h _ (PySem.mem_of_lookup e)
theorem has_of {ns' : List (Str × NameKind)} {cl : List (Str × Addr)} (h : ∀ p ∈ ns', p.2 = .cell ∨ p.2 = .free → (cl.lookup p.1).isSome = true) (y : Str) (e : ns'.lookup y = some .cell ∨ ns'.lookup y = some .free) : ∃ c, cl.lookup y = some c := by
  have : (cl.lookup y).isSome = true := by
    rcases e with e | e
    · exact h _ (PySem.mem_of_lookup e) (.inl rfl)
    · exact h _ (PySem.mem_of_lookup e) (.inr rfl)
  exact Option.isSome_iff_exists.mp this
theorem CompScope.gen {X : Cx} {x : Str} {scope : Scope} {cl : List (Str × Addr)} (ys : List Str) (ks : List Nat) (ns' : List (Str × NameKind)) (kind : scope.kind = .function) (nocell : ∀ z ∈ scope.names, z.2 ≠ .cell) (loc : ∀ z ∈ scope.names, z.2 = .local → scope.names.lookup z.1 = some .local) (own : scope.names.lookup x = some .local)
    (clos : closureFor scope X.env = pure cl) (sub : ∀ p ∈ cl, X.env.cells.lookup p.1 = some p.2) (rl : (relabel scope X.env).names = ns') (only : ∀ p ∈ ns', p.2 = .cell ∨ p.2 = .free → (cl.lookup p.1).isSome = true) (nd : (x :: ys).Nodup) (ny : ∀ y ∈ ys, ns'.lookup y ≠ some .local) (hl : ks.length = ys.length)
    (hk : ∀ p ∈ ks.zip ys, X.N[p.1]? = some p.2 ∧ X.env.kindOf p.2 = some .cell) : CompScope X (x :: ys) ks x scope cl := by
  subst rl
  refine ⟨kind, nocell, loc, own, clos, fun y c h => lookup_mem_all (P := fun y c => X.env.cells.lookup y = some c) sub h, has_of only, nd, rfl, by simp [hl], fun j y h => ?_, fun j k h => outs_ok (own := [x]) hl hk j k h⟩
  exact ny y (List.mem_of_getElem? (by simpa using h))
theorem CompScope2.gen {X : Cx} {x x2 : Str} {scope : Scope} {cl : List (Str × Addr)} (ys : List Str) (ks : List Nat) (ns' : List (Str × NameKind)) (kind : scope.kind = .function) (nocell : ∀ z ∈ scope.names, z.2 ≠ .cell) (loc : ∀ z ∈ scope.names, z.2 = .local → scope.names.lookup z.1 = some .local) (own : scope.names.lookup x = some .local) (own2 : scope.names.lookup x2 = some .local)
    (clos : closureFor scope X.env = pure cl) (sub : ∀ p ∈ cl, X.env.cells.lookup p.1 = some p.2) (rl : (relabel scope X.env).names = ns') (only : ∀ p ∈ ns', p.2 = .cell ∨ p.2 = .free → (cl.lookup p.1).isSome = true) (nd : (x :: x2 :: ys).Nodup) (ny : ∀ y ∈ ys, ns'.lookup y ≠ some .local) (hl : ks.length = ys.length)
    (hk : ∀ p ∈ ks.zip ys, X.N[p.1]? = some p.2 ∧ X.env.kindOf p.2 = some .cell) : CompScope2 X (x :: x2 :: ys) ks x x2 scope cl := by
  subst rl
  refine ⟨kind, nocell, loc, own, own2, clos, fun y c h => lookup_mem_all (P := fun y c => X.env.cells.lookup y = some c) sub h, has_of only, nd, rfl, rfl, by simp [hl], fun j y h => ?_, fun j k h => outs_ok (own := [x, x2]) hl hk j k h⟩
  exact ny y (List.mem_of_getElem? (by simpa using h))
end L2

namespace L2
open PySem PySem.Spec PyProof.Rows
theorem ixK_tup {X : Cx} {K : PySem.W.Frag} (e : X.K = K) : IxR X (rIxT K) := e ▸ ix_tup
theorem ixK_list {X : Cx} {K : PySem.W.Frag} (e : X.K = K) : IxR X (rIxL K) := e ▸ ix_list
def Laid (row : Nat → HO) (i : Nat) (vs : List V) (H : Hp) : Prop := ∃ rs : List Addr, vs = rs.map V.ref ∧ rs.length = i ∧ ∀ (j : Nat) (r : Addr), rs[j]? = some r → H r = some (row j)
end L2

namespace L2
open PySem PySem.Spec PyProof.Rows
section
variable {P : Program} {w : World} {A : Around} {E : Value → Shared → Prop}
theorem draw_lst {j l : Addr} {us : Array Value} (ne : l ≠ j) : ∀ (n i : Nat) (s : Shared) (Q : List Value → Shared → Prop), s.heap.IsListIter j l i → s.heap.IsList l us → i + n ≤ us.size →
    (∀ h', h'.IsListIter j l (i + n) → Heap.SameBut j s.heap h' → Q ((us.toList.drop i).take n) { s with heap := h' }) → wpAny (model P w) A (draw (.ref j) n) Q E s
  | 0, i, s, Q, g0, _, _, q => by
    show wpAny _ _ (pure ([] : List Value)) Q E s
    exact wpAny_pure (by simpa using q s.heap g0 (Heap.SameBut.refl ..))
  | n + 1, i, s, Q, g0, g1, le, q => by
    have lt : i < us.size := by omega
    show wpAny _ _ (pyNext (.ref j) >>= _) Q E s
    refine wpAny_bind (wpAny_pyNext_list_item g0 g1 (x := us[i]) (by simp [lt]) fun w1 k1 b1 => ?_)
    refine wpAny_bind (wpAny_holding (draw_lst ne n (i + 1) _ _ k1 (g1.extBut b1.extBut ne) (by omega) fun w2 k2 b2 => wpAny_pure ?_))
    have dr : us.toList.drop i = us[i] :: us.toList.drop (i + 1) := by simp [List.drop_eq_getElem_cons, lt]
    have z := q w2 (by rw [show i + (n + 1) = i + 1 + n by omega]; exact k2) (b1.trans b2)
    rw [dr, List.take_succ_cons] at z
    exact z
theorem unpack_lst {s : Shared} {l : Addr} {us : Array Value} {ts : List (Bool × (Value → Sem Unit))} {Q : Unit → Shared → Prop} (ha : A.handled = none) (g1 : s.heap.IsList l us) (hn : ts.length = us.size) (hst : ts.findIdx? (·.1) = none)
    (q : ∀ h', Heap.ExtBut s.heap.objs.size s.heap h' → wpAny (model P w) A (assignInOrder (ts.map (·.2)) us.toList) Q E { s with heap := h' }) : wpAny (model P w) A (unpack (.ref l) ts) Q E s := by
  have ne : l ≠ s.heap.objs.size := by
    obtain ⟨o, ho, _⟩ := g1
    exact Nat.ne_of_lt (Heap.lt_size ho)
  unfold unpack
  rw [hn, hst]
  refine wpAny_bind (wpAny_holding ?_)
  unfold unpackItems
  refine wpAny_bind ?_
  unfold notIterableAtAll
  refine wpAny_bind (wpAny_specialOf g1.typeIs slot_list_iter.lookup (wpAny_pure ?_))
  simp only [Bool.false_eq_true, if_false]
  refine wpAny_bind (wpAny_holding (wpAny_pyIter_list g1 ?_))
  refine wpAny_bind (wpAny_holding (draw_lst ne us.size 0 _ _ ⟨_, Heap.get?_push_size _ rfl, rfl, rfl⟩ (g1.push _) (by omega) fun w1 k1 b1 => ?_))
  rw [show List.take us.size (List.drop 0 us.toList) = us.toList by rw [List.drop_zero]; exact List.take_of_length_le (by simp)]
  rw [if_neg (by simp)]
  refine wpAny_bind (wpAny_holding (wpAny_pyNext_list_end ha k1 ((g1.push _).extBut b1.extBut ne) (by simp) fun w2 b2 => ?_))
  simp only [Option.isSome_none, Bool.false_eq_true, if_false]
  exact wpAny_pure (q w2 fun b o hb e => b2 b o hb (b1.extBut b o hb (Heap.get?_push_of_some _ e)))
end
def gLst (K : PySem.W.Frag) (n : Nat) (t : TGs) : TG := fun v σ H Q => ∃ a xs, v = .ref a ∧ SqL K H a xs ∧ xs.length = n ∧ t xs σ H Q
theorem pg_lst {X : Cx} {es : List Expr} {k : Nat} {t : TGs} {n : Nat} {pos : Pos} (hc : X.calm = true) (h : PGs X es t)
    (hn : (assignEach es X.env).length = n := by rfl) (hst : (assignEach es X.env).findIdx? (·.1) = none := by rfl) : PG X (.Tuple es k pos) (gLst X.K n t) := by
  intro pins s σ H v u Q I r hw
  obtain ⟨a, xs, e1, hq, hl, hw⟩ := hw
  subst e1
  cases r
  obtain ⟨its, rv, p, hz⟩ := I.list hq
  rw [assign_Tuple]
  refine wpAny_bind (wpAny_standAt (unpack_lst (I.ok.hd hc) p.isList (by simp [hn, ← hl, rv.length]) hst fun h' hx => ?_))
  have I1 : Inv X pins σ H { s with heap := h' } := I.kept (t' := s.toks) fun b o e => hx b o (Nat.ne_of_lt (Heap.lt_size e)) e
  exact h pins _ σ H xs _ Q I1 (by simpa using rv) hw
end L2

namespace L2
open PySem PySem.Spec PySem.Calls PyProof.Rows
section
variable {X : Cx} {N : List Str} {fr : List Nat} {x x2 : Str} {scope : Scope} {cl : List (Str × Addr)} {elt iter : Expr} {px px2 tp pos : Pos} {kt : Nat} {wi : TI} {te : TE}
end
end L2

namespace L2
open PySem PySem.Spec PyProof.Rows
def tPar3 (i j k : Nat) (ta : TA) : TS := fun D σ H => ta σ H fun vs H1 => ∃ v w z, vs = [v, w, z] ∧ D.nx (((σ.set i (some v)).set j (some w)).set k (some z)) H1
def tSetCI (wi : TI) (fr : List Nat) (tc : TT) (te : TE) (k : Nat) : TS := fun D σ H => tCompIfC wi fr tc te σ H fun v H' => D.nx (σ.set k (some v)) H'
end L2

namespace SetM
open PySem PySem.SetTable
def Up (xs : Array Nat) : Prop := ∀ i j, (hij : i < j) → (h : j < xs.size) → xs[i]'(Nat.lt_trans hij h) < xs[j]
structure Good (b : Bool) (t : SetTable) : Prop where
  up : Up t.place
  no : t.dummies = #[]
  led : t.led = b
end SetM

namespace SetM
open PySem
def SetG (prog : Program) (w : World) (b : Bool) (h : Heap) (a : Addr) (S : Int → Bool) (n : Nat) : Prop :=
  ∃ o es ep t, h.get? a = some o ∧ o.ExactSet ∧ o.data = .set es ep t ∧ ElemsOf (intKind prog w) es.toList ∧ (∀ k, S k = true ↔ ∃ e ∈ es.toList, (intKind prog w).is k e.2 = true) ∧ es.size < scanBound ∧ t.fits es.size = true ∧ es.size = n ∧ Good b t
section
variable {prog : Program} {w : World} {A : Around} {E : Value → Shared → Prop} {s : Shared} {b : Bool}
end
end SetM

namespace SetM
open PySem PyProof.Rows
abbrev byT (w : World) : Bool := w.params.followText "set-order"
abbrev newO (w : World) : Obj := { cls := .type "set", dict := none, data := .set #[] 0 (.fresh 0 0 (!byT w)) }
section
variable {prog : Program} {w : World} {A : Around} {E : Value → Shared → Prop} {s : Shared} {b : Bool}
end
end SetM

namespace SetM
open PySem PyProof.Rows
def SetAt (h : Heap) (a : Addr) (es : Array (Int × Value)) (ep : Nat) (t : SetTable) : Prop := ∃ o, h.get? a = some o ∧ o.ExactSet ∧ o.data = .set es ep t ∧ t.fits es.size = true
def IterAt (h : Heap) (it a : Addr) (first : Value) (i n ep : Nat) : Prop := ∃ o, h.get? it = some o ∧ o.cls = .type "set_iterator" ∧ o.data = .fields #[first, .int i 0, .ref a, .int n 0, .int ep 0]
section
variable {prog : Program} {w : World} {A : Around} {E : Value → Shared → Prop} {s : Shared} {it a : Addr} {es : Array (Int × Value)} {ep i : Nat} {t : SetTable} {first : Value}
end
end SetM

namespace SetM
open PySem PyProof.Rows
def drw (es : Array (Int × Value)) (t : SetTable) : Bool := !t.plain && decide (es.size > 1)
def slotAt (t : SetTable) (i : Nat) : Nat := match i with
  | 0 => 0
  | i + 1 => t.place.getD i 0 + 1
section
variable {prog : Program} {w : World} {A : Around} {E : Value → Shared → Prop} {s : Shared} {it a : Addr} {es : Array (Int × Value)} {ep i : Nat} {t : SetTable}
abbrev picked (w : World) (a : Addr) (ep : Nat) (es : Array (Int × Value)) : Array (Int × Value) := pickOrder (w.params.setOrder a ep) es
end
end SetM

namespace SetM
open PySem PyProof.Rows PySem.W
section
variable {prog : Program} {w : World} {A : Around} {E : Value → Shared → Prop} {s : Shared} {a : Addr} {es : Array (Int × Value)} {ep : Nat} {t : SetTable}
def vAt (es : Array (Int × Value)) (p : Nat) : Value := (es.getD p (0, .none)).2
structure Pk (prog : Program) (w : World) (A : Around) (s s1 : Shared) (a I : Addr) (es : Array (Int × Value)) (fp : List Addr) (P : Nat → Value → Prop) (St : Nat → Heap → Prop) : Prop where
  walk : Walks prog w A I fp [I] es.size P St
  at0 : St 0 s1.heap
  old : ∀ b o, s.heap.get? b = some o → s1.heap.get? b = some o
  new : s.heap.get? I = none
  fps : ∀ b ∈ fp, b = a ∨ s.heap.get? b = none
  same : s1 = { s with heap := s1.heap, drawn := s1.drawn }
  perm : ∀ acc, ItemsOf P acc es.size → acc.toList.Perm (es.toList.map (·.2))
end
end SetM

namespace SetM
open PySem PyProof.Rows PySem.W
section
variable {prog : Program} {w : World} {A : Around} {E : Value → Shared → Prop} {s : Shared} {a : Addr} {es : Array (Int × Value)} {ep : Nat} {t : SetTable}
end
end SetM

namespace L2
open PySem PySem.Spec PyProof.Rows PySem.W SetM
def SetE (P : Program) (w : World) (p : Addr) (ns : List Int) (h : Heap) : Prop := ∃ D : List Int, D.Nodup ∧ (∀ k, k ∈ D ↔ k ∈ ns) ∧ SetG P w (!byT w) h p (fun k => D.any (· == k)) D.length
end L2

namespace K15
open PySem L2
def top (i : Nat) : Stmt := PySem.Challenge.pw_conicplaces_k15_plain_or_not.main.body.getD i (.Pass ⟨0, 0, 0, 0⟩)
abbrev s_prime_parts : Stmt := top 18
abbrev s_divisor_after : Stmt := top 19
abbrev s_taken_out : Stmt := top 20
abbrev s_core_of : Stmt := top 21
abbrev s_is_without_squares : Stmt := top 22
abbrev s_sign_by : Stmt := top 24
abbrev s_sign_of_two : Stmt := top 25
abbrev s_sign_of_turn : Stmt := top 26
abbrev s_shares_of : Stmt := top 28
abbrev s_row_less : Stmt := top 29
abbrev s_is_plain : Stmt := top 31
abbrev s_bad_places : Stmt := top 32
abbrev s_places_without_point : Stmt := top 33
abbrev s_places_in_question : Stmt := top 34
abbrev s_sign_at : Stmt := top 35
abbrev s_sign_at_odd : Stmt := top 36
abbrev s_sign_at_two : Stmt := top 37
abbrev s_cell_at : Stmt := top 39
abbrev s_churn : Stmt := top 40
abbrev s_primes : Stmt := top 41
abbrev s_plain : Stmt := top 42
abbrev s_shared : Stmt := top 43
abbrev s_square_free : Stmt := top 44
abbrev s_spoilt : Stmt := top 45
abbrev s_due : Stmt := top 46
abbrev s_alone : Stmt := top 47
abbrev s_refused : Stmt := top 48
abbrev s_law : Stmt := top 49
structure Adr where
  (ce c0 c1 c2 c3 c4 c5 c6 c7 c8 c9 c10 c11 c12 c13 c14 : Addr)
structure Txt (K : PySem.W.Frag) (mg : Str → Option Value) (t : Adr) : Prop where
  m_CurveError : mg "CurveError" = some (.ref t.ce)
  m_BadPlace : mg "BadPlace" = some (.ref t.c0)
  m_Flat : mg "Flat" = some (.ref t.c1)
  m_NoBack : mg "NoBack" = some (.ref t.c2)
  m_NoJoin : mg "NoJoin" = some (.ref t.c3)
  m_NoLine : mg "NoLine" = some (.ref t.c4)
  m_NoName : mg "NoName" = some (.ref t.c5)
  m_NoNumber : mg "NoNumber" = some (.ref t.c6)
  m_NoPair : mg "NoPair" = some (.ref t.c7)
  m_NoPlace : mg "NoPlace" = some (.ref t.c8)
  m_NoRow : mg "NoRow" = some (.ref t.c9)
  m_NoSign : mg "NoSign" = some (.ref t.c10)
  m_NoText : mg "NoText" = some (.ref t.c11)
  m_NoVertex : mg "NoVertex" = some (.ref t.c12)
  m_NotPlain : mg "NotPlain" = some (.ref t.c13)
  m_OffCurve : mg "OffCurve" = some (.ref t.c14)
  i_ce : PySem.W.kitOne K (.ref t.c13) (.ref t.ce) = some true
  i_0 : PySem.W.kitOne K (.ref t.c13) (.ref t.c0) = some false
  i_1 : PySem.W.kitOne K (.ref t.c13) (.ref t.c1) = some false
  i_2 : PySem.W.kitOne K (.ref t.c13) (.ref t.c2) = some false
  i_3 : PySem.W.kitOne K (.ref t.c13) (.ref t.c3) = some false
  i_4 : PySem.W.kitOne K (.ref t.c13) (.ref t.c4) = some false
  i_5 : PySem.W.kitOne K (.ref t.c13) (.ref t.c5) = some false
  i_6 : PySem.W.kitOne K (.ref t.c13) (.ref t.c6) = some false
  i_7 : PySem.W.kitOne K (.ref t.c13) (.ref t.c7) = some false
  i_8 : PySem.W.kitOne K (.ref t.c13) (.ref t.c8) = some false
  i_9 : PySem.W.kitOne K (.ref t.c13) (.ref t.c9) = some false
  i_10 : PySem.W.kitOne K (.ref t.c13) (.ref t.c10) = some false
  i_11 : PySem.W.kitOne K (.ref t.c13) (.ref t.c11) = some false
  i_12 : PySem.W.kitOne K (.ref t.c13) (.ref t.c12) = some false
  i_13 : PySem.W.kitOne K (.ref t.c13) (.ref t.c13) = some true
  i_14 : PySem.W.kitOne K (.ref t.c13) (.ref t.c14) = some false
  i_ve : PySem.W.kitOne K (.ref t.c13) (.type "ValueError") = some true
  e0 : (PySem.W.clsIn K t.c13).isSome = true
  e1 : PySem.W.findIn K (.ref t.c13) "__getattribute__" = some (some (.builtin "BaseException.__getattribute__"))
  e2 : PySem.W.findIn K (.ref t.c13) "__getattr__" = some none
  e3 : PySem.W.findIn K (.ref t.c13) "__class__" = some (some (.builtin "object.__class__"))
  e4 : PySem.W.specialIn K (.builtin "object.__class__") "__get__" = some (some (.builtin "getset_descriptor.__get__"))
  e5 : PySem.W.takesIn K (.builtin "object.__class__") = some true
  e6 : PySem.W.mroIn K t.c13 (.type "object") = some true
  e7 : PySem.W.mroIn K t.c13 (.type "BaseException") = some true
  x_NotPlain : PySem.W.excIn K t.c13 bmVE "ValueError.__new__" = true
  x_CurveError : PySem.W.excIn K t.ce bmVE "ValueError.__new__" = true
  u_NotPlain : PySem.W.mroIn K t.c13 (.ref t.ce) = some true
  i_ib : PySem.W.kitOne K (.type "int") (.type "bool") = some false
  z_isinstance : mg "isinstance" = none
  z_int : mg "int" = none
  z_bool : mg "bool" = none
  z_len : mg "len" = none
  z_range : mg "range" = none
  z_all : mg "all" = none
  z_abs : mg "abs" = none
  z_tuple : mg "tuple" = none
  z_list : mg "list" = none
  z_ValueError : mg "ValueError" = none
theorem Txt.exc {K : PySem.W.Frag} {mg : Str → Option Value} {t : Adr} (T : Txt K mg t) : ExcCls K t.c13 := ⟨T.e0, T.e1, T.e2, T.e3, T.e4, T.e5, T.e6, T.e7⟩
theorem b_isi : bootBuiltins "isinstance" = some (.builtin "isinstance") := by decide +kernel
theorem b_bool : bootBuiltins "bool" = some (.type "bool") := by decide +kernel
theorem b_all : bootBuiltins "all" = some (.builtin "all") := by decide +kernel
theorem b_abs : bootBuiltins "abs" = some (.builtin "abs") := by decide +kernel
theorem b_ValueError : bootBuiltins "ValueError" = some (.type "ValueError") := by decide +kernel
theorem byL0 {P : List Value → Prop} (h : P []) : ∀ us : List Value, us.length = 0 → P us := fun us hl => match us, hl with | [], _ => h
theorem byL1 {P : List Value → Prop} (h : ∀ a0 : Value, P [a0]) : ∀ us : List Value, us.length = 1 → P us := fun us hl => match us, hl with | [a0], _ => h a0
theorem byL2 {P : List Value → Prop} (h : ∀ a0 a1 : Value, P [a0, a1]) : ∀ us : List Value, us.length = 2 → P us := fun us hl => match us, hl with | [a0, a1], _ => h a0 a1
theorem byL3 {P : List Value → Prop} (h : ∀ a0 a1 a2 : Value, P [a0, a1, a2]) : ∀ us : List Value, us.length = 3 → P us := fun us hl => match us, hl with | [a0, a1, a2], _ => h a0 a1 a2
theorem byL4 {P : List Value → Prop} (h : ∀ a0 a1 a2 a3 : Value, P [a0, a1, a2, a3]) : ∀ us : List Value, us.length = 4 → P us := fun us hl => match us, hl with | [a0, a1, a2, a3], _ => h a0 a1 a2 a3
theorem iteDF {c A B : Prop} [Decidable c] (hc : ¬ c) (h : B) : if decide c = true then A else B := by
  rw [decide_eq_false hc]
  exact iteF h
theorem neT {c : Prop} [Decidable c] (h : (!decide c) = true) : ¬ c := by
  intro z
  rw [decide_eq_true z] at h
  cases h
theorem neF {c : Prop} [Decidable c] (h : ¬ (!decide c) = true) : c := by
  by_cases z : c
  · exact z
  · exact absurd (by rw [decide_eq_false z]; rfl) h
theorem mulS {a b : Int} (h1 : -(2 ^ 64) < b) (h2 : b < 2 ^ 64) : IntMulOk a b := IntMulOk.of_right (intBits_le_64 h1 h2)
def spTaken : Sp := fun vs H Q _ => ∃ (x p : Int), vs = [.int x, .int p] ∧ x ≠ 0 ∧ 2 ≤ p ∧ p.natAbs.log2 < 9000 ∧ ∀ (r : Addr) (H' : Hp) (o l : Int), Same H H' → H' r = some (.tup [.int o, .int l]) → Pr.Inn x p l o → 0 ≤ o → l.fmod p ≠ 0 → l ≠ 0 → l.natAbs ≤ x.natAbs → (0 < x → 0 < l) → (x < 0 → l < 0) → Q (.ref r) H'
theorem taken_less {l p : Int} (h2 : 2 ≤ p) (l0 : l ≠ 0) (hz : l.fmod p = 0) : l.fdiv p ≠ 0 ∧ (l.fdiv p).natAbs < l.natAbs ∧ (0 < l → 0 < l.fdiv p) ∧ (l < 0 → l.fdiv p < 0) := by
  have q := Pr.quot l p
  rw [hz] at q
  have e : l = p * l.fdiv p := by omega
  generalize l.fdiv p = k at e
  have k0 : k ≠ 0 := fun z => l0 (by rw [e, z, Int.mul_zero])
  have ea : l.natAbs = p.natAbs * k.natAbs := by rw [e, Int.natAbs_mul]
  have pa : 2 ≤ p.natAbs := by omega
  have ka : 1 ≤ k.natAbs := by omega
  refine ⟨k0, ?_, fun h => ?_, fun h => ?_⟩
  · have := Nat.mul_le_mul_right k.natAbs pa
    omega
  · rcases Int.lt_trichotomy k 0 with z | z | z
    · have := Int.mul_neg_of_pos_of_neg (show 0 < p by omega) z
      omega
    · exact absurd z k0
    · exact z
  · rcases Int.lt_trichotomy k 0 with z | z | z
    · exact z
    · exact absurd z k0
    · have := Int.mul_pos (show 0 < p by omega) z
      omega

def spTwoI : Sp := fun vs H Q _ => ∃ x : Int, vs = [.int x] ∧ ∀ H', Same H H' → Q (.int (Jc.twoI x)) H'
def spTurnI : Sp := fun vs H Q _ => ∃ a b : Int, vs = [.int a, .int b] ∧ Q (.int (Jc.turnI a b)) H
def spSign : Sp := fun vs H Q _ => ∃ x n : Int, vs = [.int x, .int n] ∧ 0 < n ∧ n % 2 = 1 ∧ n < 2 ^ 64 ∧ ∀ H', Same H H' → Q (.int (Jc.J x n)) H'
def WS (x n : Int) (H : Hp) (m : Nat) (σ : St) (H' : Hp) : Prop := ∃ (sg top bot : Int) (tw od : Option V), σ = [some (.int x), some (.int n), some (.int sg), some (.int top), some (.int bot), tw, od] ∧ Same H H' ∧ 0 ≤ top ∧ 0 < bot ∧ bot % 2 = 1 ∧ bot < 2 ^ 64 ∧ top < 2 ^ 64 ∧ (sg = 1 ∨ sg = -1) ∧ sg * Jc.J top bot = Jc.J x n ∧ m = top.toNat

abbrev TupL (H : Hp) (rs : List Addr) (xs : List (Int × Int)) : Prop := Paired (fun (r : Addr) (x : Int × Int) => H r = some (.tup [.int x.1, .int x.2])) rs xs
theorem TupL.same {H H' : Hp} (g : Same H H') : ∀ {rs : List Addr} {xs : List (Int × Int)}, TupL H rs xs → TupL H' rs xs
  | _, _, .nil => .nil
  | _, _, .cons h t => .cons (g _ _ h) (TupL.same g t)
theorem TupL.app {H : Hp} {r : Addr} {x : Int × Int} (h : H r = some (.tup [.int x.1, .int x.2])) : ∀ {rs : List Addr} {xs : List (Int × Int)}, TupL H rs xs → TupL H (rs ++ [r]) (xs ++ [x])
  | _, _, .nil => .cons h .nil
  | _, _, .cons h' t => .cons h' (TupL.app h t)
theorem TupL.upd {H : Hp} {a : Addr} {o : HO} : ∀ {rs : List Addr} {xs : List (Int × Int)}, TupL H rs xs → (∀ ys, H a ≠ some (.tup ys)) → TupL (upd H a o) rs xs
  | _, _, .nil, _ => .nil
  | _, _, .cons h t, n => .cons (by rw [upd_ne (fun z => by subst z; exact n _ h)]; exact h) (TupL.upd t n)
theorem TupL.len {H : Hp} : ∀ {rs : List Addr} {xs : List (Int × Int)}, TupL H rs xs → rs.length = xs.length
  | _, _, .nil => rfl
  | _, _, .cons _ t => by rw [List.length_cons, List.length_cons, TupL.len t]
theorem TupL.get {H : Hp} : ∀ {rs : List Addr} {xs : List (Int × Int)} {i : Nat} {r : Addr}, TupL H rs xs → rs[i]? = some r → ∃ x, xs[i]? = some x ∧ H r = some (.tup [.int x.1, .int x.2])
  | _, _, _, _, .nil, e => by simp at e
  | _, _, 0, _, .cons h _, e => by simp at e; subst e; exact ⟨_, rfl, h⟩
  | _, _, i + 1, _, .cons _ t, e => by
    obtain ⟨x, h1, h2⟩ := TupL.get (i := i) t (by simpa using e)
    exact ⟨x, by simpa using h1, h2⟩
def spAfter : Sp := fun vs H Q _ => ∃ d : Int, vs = [.int d] ∧ Q (.int (if d = 2 then 3 else d + 2)) H
def spParts (C : Addr) : Sp := fun vs H Q E => ∃ n : Int, vs = [.int n] ∧ ((n < 1 ∧ E (.ref C) none H) ∨ (1 ≤ n ∧ n ≤ 10000000000 ∧
  ∀ (p : Addr) (rs : List Addr) (xs : List (Int × Int)) (H' : Hp), Same H H' → H p = none → H' p = some (.lst (rs.map V.ref)) → TupL H' rs xs → Pr.Told n xs → Q (.ref p) H'))
def W1 (n : Int) (pl : Addr) (H : Hp) (m : Nat) (σ : St) (H' : Hp) : Prop := ∃ (left d : Int) (xs : List (Int × Int)) (rs : List Addr) (of : Option V), σ = [some (.int n), some (.ref pl), some (.int left), some (.int d), of] ∧ Same H H' ∧ H' pl = some (.lst (rs.map V.ref)) ∧
  TupL H' rs xs ∧ Pr.Out n left d xs ∧ 2 ≤ d ∧ d ≤ 10000000002 ∧ 1 ≤ left ∧ m = (left + 1 - d).toNat
theorem le_sq {g : Int} (h : 1 ≤ g) : g ≤ g * g := by
  have := Int.mul_le_mul_of_nonneg_right h (show 0 ≤ g by omega)
  omega
theorem short {n : Int} {xs : List (Int × Int)} (h : ∀ x ∈ xs, Pr.Part x) (hn : Pr.prodP xs ≤ n) (n1 : n ≤ 10000000000) : xs.length < 40 := by
  have h1 := Pr.len_le h
  rcases Nat.lt_or_ge xs.length 40 with h2 | h2
  · exact h2
  · have h3 := Pr.pow_mono h2
    have : (2 : Int) ^ 40 = 1099511627776 := by decide
    omega
theorem out_prod {n left d : Int} {xs : List (Int × Int)} (h : Pr.Out n left d xs) (l1 : 1 ≤ left) : Pr.prodP xs ≤ n := by
  have e := h.prod
  have := Pr.mul_ge l1 (Int.le_refl (Pr.prodP xs)) (by have := Pr.prodP_pos h.all; omega)
  omega
theorem grown {H H1 : Hp} {pl p : Addr} {rs : List Addr} {xs : List (Int × Int)} {x : Int × Int} (g : Same H H1) (hn : H pl = none) (hp : H1 p = none) (h1 : H1 pl = some (.lst (rs.map V.ref))) (h2 : TupL H1 rs xs) :
    Same H (upd (upd H1 p (.tup [.int x.1, .int x.2])) pl (.lst (rs.map V.ref ++ [.ref p]))) ∧ (upd (upd H1 p (.tup [.int x.1, .int x.2])) pl (.lst (rs.map V.ref ++ [.ref p]))) pl = some (.lst ((rs ++ [p]).map V.ref)) ∧
    TupL (upd (upd H1 p (.tup [.int x.1, .int x.2])) pl (.lst (rs.map V.ref ++ [.ref p]))) (rs ++ [p]) (xs ++ [x]) := by
  have npl : p ≠ pl := fun z => by subst z; rw [h1] at hp; cases hp
  have g2 := same_new hp (.tup [.int x.1, .int x.2])
  refine ⟨fun b o q => ?_, ?_, ?_⟩
  · rw [upd_ne (ne_of_none q hn)]
    exact g2 b o (g b o q)
  · rw [upd_same, List.map_append]
    rfl
  · have t : TupL (L2.upd H1 p (.tup [.int x.1, .int x.2])) (rs ++ [p]) (xs ++ [x]) := TupL.app upd_same (TupL.same g2 h2)
    exact t.upd fun ys z => by
      rw [upd_ne npl.symm, h1] at z
      cases z

def spParts0 : Sp := fun vs H Q E => ∃ n : Int, vs = [.int n] ∧ 1 ≤ n ∧ n ≤ 10000000000 ∧
  ∀ (p : Addr) (rs : List Addr) (xs : List (Int × Int)) (H' : Hp), Same H H' → H p = none → H' p = some (.lst (rs.map V.ref)) → TupL H' rs xs → Pr.Told n xs → Q (.ref p) H'
theorem small1000 {n : Nat} (h : n < 1000) : n < sizeLine := Nat.lt_of_lt_of_le h (by decide)
@[irreducible] def Rt : Nat := 2 ^ 500
@[irreducible] def Lm : Nat := 2 ^ 1000
theorem Lm_eq : Lm = 2 ^ 1000 := by unfold Lm; rfl
theorem Lm_pos : 1 ≤ Lm := by rw [Lm_eq]; decide +kernel
theorem Lm_bits {x : Int} (h : x.natAbs ≤ 8 * Lm) : Builtin.Int.intBits x ≤ 1004 := intBits_le_iff.mpr (Nat.lt_of_le_of_lt h (by rw [Lm_eq]; decide +kernel))
theorem Lm_log {x : Int} (h : x.natAbs ≤ 8 * Lm) : x.natAbs.log2 < 9000 := Nat.lt_of_lt_of_le (log2_lt_of (k := 1004) (Nat.lt_of_le_of_lt h (by rw [Lm_eq]; decide +kernel)) (by decide)) (by decide)
theorem mulL {a b : Int} (ha : a.natAbs ≤ 8 * Lm) (hb : b.natAbs ≤ 8 * Lm) : IntMulOk a b := IntMulOk.of_le (Lm_bits ha) (Lm_bits hb) (by decide)
theorem fdiv_rest (a b : Int) : a - a.fdiv b * b = a.fmod b := by rw [Int.fmod_def, Int.mul_comm]
def spRow : Sp := fun vs H Q _ => ∃ (pa pb : Addr) (x s t y u v k : Int), vs = [.ref pa, .ref pb, .int k] ∧ H pa = some (.tup [.int x, .int s, .int t]) ∧ H pb = some (.tup [.int y, .int u, .int v]) ∧ IntMulOk k y ∧ IntMulOk k u ∧ IntMulOk k v ∧
  ∀ (p : Addr) (H' : Hp), Same H H' → H' p = some (.tup [.int (x - k * y), .int (s - k * u), .int (t - k * v)]) → Q (.ref p) H'
def spShares : Sp := fun vs H Q _ => ∃ (x y : Int), vs = [.int x, .int y] ∧ x.natAbs ≤ Lm ∧ y.natAbs ≤ Lm ∧
  ∀ (p : Addr) (H' : Hp) (g s t : Int), Same H H' → H' p = some (.tup [.int g, .int s, .int t]) → 0 ≤ g → g = s * x + t * y → (∃ k, x = k * g) → (∃ k, y = k * g) → s.natAbs ≤ 8 * Lm → t.natAbs ≤ 8 * Lm → Q (.ref p) H'

theorem take_more {xs : List (Int × Int)} {i : Nat} {x : Int × Int} (h : xs[i]? = some x) : xs.take (i + 1) = xs.take i ++ [x] := by
  rw [List.take_succ, h]
  rfl
def absI (n : Int) : Int := if n < 0 then -n else n
def sgn (n : Int) : Int := if n < 0 then -1 else 1
def spCore0 : Sp := fun vs H Q _ => ∃ n : Int, vs = [.int n] ∧ n ≠ 0 ∧ -10000000000 ≤ n ∧ n ≤ 10000000000 ∧
  ∀ (p : Addr) (xs : List (Int × Int)) (H' : Hp), Same H H' → Pr.Told (absI n) xs → H' p = some (.tup [.int (sgn n * Pr.coreP xs), .int (Pr.rootP xs)]) → Q (.ref p) H'
theorem core_more {xs : List (Int × Int)} {i : Nat} {p o : Int} (h : xs[i]? = some (p, o)) : Pr.coreP (xs.take (i + 1)) = Pr.coreP (xs.take i) * (if o % 2 = 1 then p else 1) := by
  rw [take_more h, Pr.coreP_app]
  simp [Pr.coreP]
theorem root_more {xs : List (Int × Int)} {i : Nat} {p o : Int} (h : xs[i]? = some (p, o)) : Pr.rootP (xs.take (i + 1)) = Pr.rootP (xs.take i) * p ^ (o / 2).toNat := by
  rw [take_more h, Pr.rootP_app]
  simp [Pr.rootP]
open Pl
def Sm6 (n : Int) : Prop := n.natAbs ≤ 1000000
theorem abs_dvd {p n : Int} : p ∣ absI n ↔ p ∣ n := by
  unfold absI
  split
  · exact Int.dvd_neg
  · exact Iff.rfl
def spNoSq : Sp := fun vs H Q _ => ∃ n : Int, vs = [.int n] ∧ n ≠ 0 ∧ Sm6 n ∧ (∀ p, Pr.Prm p → ¬ p * p ∣ n) ∧ ∀ H', Same H H' → Q (.bl true) H'
def spPlain : Sp := fun vs H Q _ => ∃ a b c : Int, vs = [.int a, .int b, .int c] ∧ Pln a b c ∧ Sm6 a ∧ Sm6 b ∧ Sm6 c ∧ ∀ H', Same H H' → Q (.bl true) H'
def Odds (n : Int) (os : List Int) : Prop := os.Nodup ∧ ∀ p, p ∈ os ↔ Pr.Prm p ∧ p ≠ 2 ∧ p ∣ n
def spQuest : Sp := fun vs H Q _ => ∃ a b c : Int, vs = [.int a, .int b, .int c] ∧ Pln a b c ∧ Sm6 a ∧ Sm6 b ∧ Sm6 c ∧ ∀ (p : Addr) (ks : List Int) (H' : Hp), Same H H' → H p = none → H' p = some (.lst ((0 :: 2 :: ks).map V.int)) → (0 :: 2 :: ks).Pairwise (· < ·) → (0 :: 2 :: ks).length < 100 → (∀ x, x ∈ ks ↔ Pr.Prm x ∧ x ≠ 2 ∧ (x ∣ a ∨ x ∣ b ∨ x ∣ c)) → Q (.ref p) H'
def InPL (n : Int) : Prop := ∀ p : Int, Pr.Prm p → p ≠ 2 → p ∣ n → ∃ q : Nat, p = q ∧ q ∈ PL
def spBad : Sp := fun vs H Q _ => ∃ a b c : Int, vs = [.int a, .int b, .int c] ∧ Pln a b c ∧ Sm6 a ∧ Sm6 b ∧ Sm6 c ∧ InPL a ∧ InPL b ∧ InPL c ∧ ∀ (p : Addr) (bs : List Int) (H' : Hp), Same H H' → H p = none → H' p = some (.lst (bs.map V.int)) → bs.Pairwise (· < ·) → bs.length < 100 → (∀ x, x ∈ bs ↔ Bad a b c x) → Q (.ref p) H'
def spChurn : Sp := fun vs H Q _ => ∃ (c t : Int), vs = [.int c, .int t] ∧ 0 ≤ t ∧ t ≤ 100 ∧ ∀ x : Int, 0 ≤ x → x ≤ 2147483563 → Q (.int x) H
abbrev Pa : List Int := [2, 3, 5, 7, 11, 13, 17, 19, 23, 29, 31, 37]
abbrev Pb : List Int := [41, 43, 47, 53, 59, 101, 499, 997]
abbrev P20 : List Int := [2, 3, 5, 7, 11, 13, 17, 19, 23, 29, 31, 37, 41, 43, 47, 53, 59, 101, 499, 997]
theorem atL2 {L : List Int} {k : Int} (h0 : 0 ≤ k) (h1 : k < (L.length : Nat)) : atI (L.map V.int) k = some (.int (L.getD k.toNat 0)) := by
  have hk : k.toNat < L.length := by omega
  have q : atI (L.map V.int) ((k.toNat : Nat) : Int) = some (.int (L.getD k.toNat 0)) := atI_nat (by
    rw [List.getElem?_map, List.getD_eq_getElem?_getD, List.getElem?_eq_getElem hk]
    rfl)
  rw [show ((k.toNat : Nat) : Int) = k by omega] at q
  exact q
def spPrimes : Sp := fun vs H Q _ => vs = [] ∧ ∀ (p : Addr) (H' : Hp), Same H H' → H p = none → H' p = some (.lst (P20.map V.int)) → Q (.ref p) H'
structure Hs (H H' : Hp) (l m q0 q1 q2 : Addr) (n0 n1 n2 : Int) (p0 p1 p2 : List Int) : Prop where
  same : Same H H'
  hl : H' l = some (.lst [.int n0, .int n1, .int n2])
  hm : H' m = some (.lst [.ref q0, .ref q1, .ref q2])
  h0 : H' q0 = some (.lst (p0.map V.int))
  h1 : H' q1 = some (.lst (p1.map V.int))
  h2 : H' q2 = some (.lst (p2.map V.int))
  fl : H l = none
  f0 : H q0 = none
  f1 : H q1 = none
  f2 : H q2 = none
  lm : m ≠ l
  l0 : q0 ≠ l
  l1 : q1 ≠ l
  l2 : q2 ≠ l
  m0 : q0 ≠ m
  m1 : q1 ≠ m
  m2 : q2 ≠ m
  d01 : q0 ≠ q1
  d02 : q0 ≠ q2
  d12 : q1 ≠ q2
section
variable {H H' : Hp} {l m q0 q1 q2 : Addr} {n0 n1 n2 : Int} {p0 p1 p2 : List Int}
theorem Hs.grow (h : Hs H H' l m q0 q1 q2 n0 n1 n2 p0 p1 p2) {H2 : Hp} (g : Same H' H2) : Hs H H2 l m q0 q1 q2 n0 n1 n2 p0 p1 p2 :=
  { h with same := h.same.trans g, hl := g _ _ h.hl, hm := g _ _ h.hm, h0 := g _ _ h.h0, h1 := g _ _ h.h1, h2 := g _ _ h.h2 }
theorem same_put {p : Addr} {o : HO} (g : Same H H') (n : H p = none) : Same H (upd H' p o) := fun b u z => by
  rw [upd_ne (ne_of_none z n)]
  exact g b u z
theorem Hs.setn (h : Hs H H' l m q0 q1 q2 n0 n1 n2 p0 p1 p2) (a b c : Int) : Hs H (upd H' l (.lst [.int a, .int b, .int c])) l m q0 q1 q2 a b c p0 p1 p2 :=
  { h with same := same_put h.same h.fl, hl := upd_same, hm := by rw [upd_ne h.lm]; exact h.hm, h0 := by rw [upd_ne h.l0]; exact h.h0, h1 := by rw [upd_ne h.l1]; exact h.h1, h2 := by rw [upd_ne h.l2]; exact h.h2 }
theorem Hs.app0 (h : Hs H H' l m q0 q1 q2 n0 n1 n2 p0 p1 p2) (z : Int) : Hs H (upd H' q0 (.lst (p0.map V.int ++ [.int z]))) l m q0 q1 q2 n0 n1 n2 (p0 ++ [z]) p1 p2 :=
  { h with same := same_put h.same h.f0, hl := by rw [upd_ne h.l0.symm]; exact h.hl, hm := by rw [upd_ne h.m0.symm]; exact h.hm, h0 := by rw [List.map_append]; exact upd_same, h1 := by rw [upd_ne h.d01.symm]; exact h.h1, h2 := by rw [upd_ne h.d02.symm]; exact h.h2 }
theorem Hs.app1 (h : Hs H H' l m q0 q1 q2 n0 n1 n2 p0 p1 p2) (z : Int) : Hs H (upd H' q1 (.lst (p1.map V.int ++ [.int z]))) l m q0 q1 q2 n0 n1 n2 p0 (p1 ++ [z]) p2 :=
  { h with same := same_put h.same h.f1, hl := by rw [upd_ne h.l1.symm]; exact h.hl, hm := by rw [upd_ne h.m1.symm]; exact h.hm, h0 := by rw [upd_ne h.d01]; exact h.h0, h1 := by rw [List.map_append]; exact upd_same, h2 := by rw [upd_ne h.d12.symm]; exact h.h2 }
theorem Hs.app2 (h : Hs H H' l m q0 q1 q2 n0 n1 n2 p0 p1 p2) (z : Int) : Hs H (upd H' q2 (.lst (p2.map V.int ++ [.int z]))) l m q0 q1 q2 n0 n1 n2 p0 p1 (p2 ++ [z]) :=
  { h with same := same_put h.same h.f2, hl := by rw [upd_ne h.l2.symm]; exact h.hl, hm := by rw [upd_ne h.m2.symm]; exact h.hm, h0 := by rw [upd_ne h.d02]; exact h.h0, h1 := by rw [upd_ne h.d12]; exact h.h1, h2 := by rw [List.map_append]; exact upd_same }
end
theorem absI_neg (n : Int) : absI (0 - n) = absI n := by
  unfold absI
  split <;> split <;> omega
theorem absI_pos {n : Int} (h : 0 < n) : absI n = n := by
  unfold absI
  rw [if_neg (by omega)]
theorem atI0 {α : Type} {a b c : α} {k : Int} (e : k = 0) : atI [a, b, c] k = some a := by subst e; rfl
theorem atI1 {α : Type} {a b c : α} {k : Int} (e : k = 1) : atI [a, b, c] k = some b := by subst e; rfl
theorem atI2 {α : Type} {a b c : α} {k : Int} (e : k = 2) : atI [a, b, c] k = some c := by subst e; rfl
theorem ixN0 {k : Int} (e : k = 0) : ixN 3 k = some 0 := by subst e; rfl
theorem ixN1 {k : Int} (e : k = 1) : ixN 3 k = some 1 := by subst e; rfl
theorem ixN2 {k : Int} (e : k = 2) : ixN 3 k = some 2 := by subst e; rfl

noncomputable def Fz (x p : Int) : Bool := decide (2 < p) && !(@decide (Pl.Rt x p) (Classical.propDecidable _))
theorem hu64_of {A : Around} {k : Nat} (hr : Room k A) : A.units + 64 < cLine := by
  have := hr.un
  omega
theorem iteNE {b : Bool} {A B : Prop} (h : b = true) (hB : B) : if (!b) = true then A else B := by
  subst h
  exact iteF hB
theorem iteNF {b : Bool} {A B : Prop} (h : b = false) (hA : A) : if (!b) = true then A else B := by
  subst h
  exact iteT hA
def SqF (n : Int) : Prop := n ≠ 0 ∧ ∀ p, Pr.Prm p → ¬ p * p ∣ n
def Cop (x y : Int) : Prop := ∀ p, Pr.Prm p → p ∣ x → ¬ p ∣ y
noncomputable def bS (n : Int) : Bool := @decide (SqF n) (Classical.propDecidable _)
noncomputable def bC (x y : Int) : Bool := @decide (Cop x y) (Classical.propDecidable _)
theorem bS_iff {n : Int} : bS n = true ↔ SqF n := @decide_eq_true_iff _ (Classical.propDecidable _)
theorem bC_iff {x y : Int} : bC x y = true ↔ Cop x y := @decide_eq_true_iff _ (Classical.propDecidable _)
theorem bS_eq {n : Int} {b : Bool} (h : b = true ↔ SqF n) : bS n = b := by rw [Bool.eq_iff_iff, bS_iff, h]
theorem bC_eq {x y : Int} {b : Bool} (h : b = true ↔ Cop x y) : bC x y = b := by rw [Bool.eq_iff_iff, bC_iff, h]
noncomputable def sqB : V → V
  | .int n => .bl (bS n)
  | v => v
theorem Cop.sym {x y : Int} (h : Cop x y) : Cop y x := fun p hp a b => h p hp b a
theorem pln_iff {a b c : Int} : Pln a b c ↔ (SqF a ∧ SqF b ∧ SqF c) ∧ (Cop a b ∧ Cop b c ∧ Cop c a) :=
  ⟨fun h => ⟨⟨⟨h.a0, h.sa⟩, ⟨h.b0, h.sb⟩, ⟨h.c0, h.sc⟩⟩, h.ab, h.bc, h.ca⟩, fun ⟨⟨x, y, z⟩, u, v, w⟩ => ⟨x.1, y.1, z.1, x.2, y.2, z.2, u, v, w⟩⟩
theorem all3 {x y z : Bool} : ([x, y, z].all id) = true ↔ x = true ∧ y = true ∧ z = true := by
  cases x <;> cases y <;> cases z <;> simp
theorem cop_of {x y g s t : Int} (e : g = s * x + t * y) (h : g = 1) : Cop x y := fun p hp h1 h2 => by
  have : p ∣ g := by
    rw [e]
    exact Int.dvd_add (Int.dvd_trans h1 (Int.dvd_mul_left _ _)) (Int.dvd_trans h2 (Int.dvd_mul_left _ _))
  rw [h] at this
  exact Pr.prm_not_one hp this
theorem get3i {x y z : Int} {i : Nat} {v : V} (h : [V.int x, .int y, .int z][i]? = some v) : ∃ n, v = .int n ∧ (n = x ∨ n = y ∨ n = z) := by
  match i, h with
  | 0, h => exact ⟨x, (Option.some.inj h).symm, .inl rfl⟩
  | 1, h => exact ⟨y, (Option.some.inj h).symm, .inr (.inl rfl)⟩
  | 2, h => exact ⟨z, (Option.some.inj h).symm, .inr (.inr rfl)⟩
  | i + 3, h => cases h
theorem prm_of {n : Int} (h : 2 ≤ n) : ∃ p, Pr.Prm p ∧ p ∣ n := Jc.prm_div n.natAbs n (Nat.le_refl _) h
theorem fmod_lt {u v : Int} (h : v ≠ 0) : (u.fmod v).natAbs < v.natAbs := by
  rcases (show 0 < v ∨ v < 0 by omega) with c | c
  · have h1 := Int.fmod_nonneg_of_pos u c
    have h2 := Int.fmod_lt_of_pos u c
    omega
  · have e := Int.fmod_add_mul_fdiv u v
    have h1 := Int.fmod_nonneg_of_pos (-u) (show 0 < -v by omega)
    have h2 := Int.fmod_lt_of_pos (-u) (show 0 < -v by omega)
    have h3 : (-u).fmod (-v) = -(u.fmod v) := Int.neg_fmod_neg u v
    omega
theorem fmod_dvd {u v d : Int} : (d ∣ v ∧ d ∣ u.fmod v) ↔ (d ∣ u ∧ d ∣ v) := by
  have e := Int.fmod_add_mul_fdiv u v
  constructor
  · rintro ⟨h1, h2⟩
    refine ⟨?_, h1⟩
    rw [← e]
    exact Int.dvd_add h2 (Int.dvd_trans h1 (Int.dvd_mul_right _ _))
  · rintro ⟨h1, h2⟩
    refine ⟨h2, ?_⟩
    have e2 : u.fmod v = u - v * u.fdiv v := by omega
    rw [e2]
    exact Int.dvd_sub h1 (Int.dvd_trans h2 (Int.dvd_mul_right _ _))
theorem cop_g {x y g : Int} (hx : x ≠ 0) (g0 : 0 ≤ g) (h : ∀ d : Int, d ∣ g ↔ (d ∣ x ∧ d ∣ y)) : g = 1 ↔ Cop x y := by
  constructor
  · rintro rfl p hp h1 h2
    exact Pr.prm_not_one hp ((h p).mpr ⟨h1, h2⟩)
  · intro c
    have hg := (h g).mp (Int.dvd_refl g)
    exact Pl.gcd_one c hx g0 hg.1 hg.2
def spNoSqB : Sp := fun vs H Q _ => ∃ n : Int, vs = [.int n] ∧ Sm6 n ∧ ∀ (b : Bool) (H' : Hp), Same H H' → (b = true ↔ SqF n) → Q (.bl b) H'
def spPlainB : Sp := fun vs H Q _ => ∃ a b c : Int, vs = [.int a, .int b, .int c] ∧ Sm6 a ∧ Sm6 b ∧ Sm6 c ∧ ∀ (t : Bool) (H' : Hp), Same H H' → (t = true ↔ Pln a b c) → Q (.bl t) H'
def spBadX15 (C : Addr) : Sp := fun vs H Q E => ∃ a b c : Int, vs = [.int a, .int b, .int c] ∧ Sm6 a ∧ Sm6 b ∧ Sm6 c ∧ ¬ Pln a b c ∧ ∀ H', Same H H' → E (.ref C) none H'
def spSfL : Sp := fun vs H Q _ => ∃ n : Int, vs = [.int n] ∧ Sm6 n ∧ ∀ b : Bool, (b = true ↔ SqF n) → Q (.bl b) H
def spShG : Sp := fun vs H Q _ => ∃ x y : Int, vs = [.int x, .int y] ∧ ∀ g : Int, 0 ≤ g → (∀ d : Int, d ∣ g ↔ (d ∣ x ∧ d ∣ y)) → Q (.int g) H
def L3i (H : Hp) (p : Addr) (a b c : Int) : Prop := H p = some (.lst [.int a, .int b, .int c])
def spDue15 : Sp := fun vs H Q _ => ∃ (p : Addr) (a b c : Int), vs = [.ref p] ∧ L3i H p a b c ∧ Sm6 a ∧ Sm6 b ∧ Sm6 c ∧ ∀ (t : Bool) (H' : Hp), Same H H' → (t = true ↔ Pln a b c) → Q (.bl t) H'
def spSpoil : Sp := fun vs H Q _ => ∃ (B : Hp) (p : Addr) (a b c k : Int), vs = [.ref p, .int k] ∧ Same B H ∧ B p = none ∧ L3i H p a b c ∧ Sm6 a ∧ Sm6 b ∧ Sm6 c ∧ ∀ (H' : Hp) (a b c : Int), Same B H' → L3i H' p a b c → Sm6 a → Sm6 b → Sm6 c → Q (.ref p) H'
def spRef15 : Sp := fun vs H Q _ => ∃ (p : Addr) (a b c : Int), vs = [.ref p] ∧ L3i H p a b c ∧ Sm6 a ∧ Sm6 b ∧ Sm6 c ∧ ¬ Pln a b c ∧ ∀ H', Same H H' → Q (.bl true) H'
structure Bd3 (i : Nat) (M n0 n1 n2 : Int) (p0 p1 p2 : List Int) : Prop where
  k0 : absI n0 ≤ M
  k1 : absI n1 ≤ M
  k2 : absI n2 ≤ M
  l0 : p0.length ≤ i
  l1 : p1.length ≤ i
  l2 : p2.length ≤ i
theorem Bd3.mono {i : Nat} {M n0 n1 n2 : Int} {p0 p1 p2 : List Int} (h : Bd3 i M n0 n1 n2 p0 p1 p2) : Bd3 (i + 1) M n0 n1 n2 p0 p1 p2 := ⟨h.k0, h.k1, h.k2, Nat.le_succ_of_le h.l0, Nat.le_succ_of_le h.l1, Nat.le_succ_of_le h.l2⟩
theorem len_snoc {i : Nat} {ps : List Int} {z : Int} (h : ps.length ≤ i) : (ps ++ [z]).length ≤ i + 1 := by
  rw [List.length_append]
  exact Nat.succ_le_succ h
def spLPlain15 (K : PySem.W.Frag) : Sp := fun vs H Q _ => ∃ (a : Addr) (ns : List Int) (M : Int), vs = [.ref a, .int 3, .int 20, .int M] ∧ SqL K H a (ns.map V.int) ∧ 1 ≤ M ∧ M ≤ 1000000 ∧
  ∀ (t : Addr) (H' : Hp) (l m : Addr) (n0 n1 n2 : Int), Same H H' → H l = none → L3i H' l n0 n1 n2 → H' t = some (.tup [.ref l, .ref m]) → Sm6 n0 → Sm6 n1 → Sm6 n2 → Q (.ref t) H'
theorem step20 : ∀ i : Nat, i < 20 → 2 ≤ P20.getD i 0 ∧ P20.getD i 0 ≤ 997 := by decide
theorem at20 {i : Nat} (h : i < 20) : atI (P20.map V.int) (0 + (i : Int)) = some (.int (P20.getD i 0)) := by
  have q := atL2 (L := P20) (k := 0 + (i : Int)) (by omega) (by show 0 + (i : Int) < 20; omega)
  rw [show (0 + (i : Int)).toNat = i by omega] at q
  exact q
theorem line20 {k : Nat} (h : k ≤ 20) : k < sizeLine := Nat.lt_of_le_of_lt h (by decide)
theorem sm6_abs {n M : Int} (h : absI n ≤ M) (hM : M ≤ 1000000) : Sm6 n := by
  unfold absI at h
  unfold Sm6
  split at h <;> omega
theorem at3m (c : Int) : ∃ M : Int, atI [V.int 50, .int 1000, .int (10 ^ Int.toNat 6)] (c % 3) = some (.int M) ∧ 1 ≤ M ∧ M ≤ 1000000 := by
  rcases (show c % 3 = 0 ∨ c % 3 = 1 ∨ c % 3 = 2 by omega) with z | z | z
  · exact ⟨50, by rw [z]; rfl, by decide, by decide⟩
  · exact ⟨1000, by rw [z]; rfl, by decide, by decide⟩
  · exact ⟨10 ^ Int.toNat 6, by rw [z]; rfl, by decide, by decide⟩
theorem at3s {a b c k : Int} (h0 : 0 ≤ k) (h1 : k < 3) : ∃ n, atI [V.int a, .int b, .int c] k = some (.int n) ∧ (n = a ∨ n = b ∨ n = c) := by
  rcases (show k = 0 ∨ k = 1 ∨ k = 2 by omega) with z | z | z <;> subst z
  · exact ⟨a, rfl, .inl rfl⟩
  · exact ⟨b, rfl, .inr (.inl rfl)⟩
  · exact ⟨c, rfl, .inr (.inr rfl)⟩
theorem set3s {a b c k n : Int} (h0 : 0 ≤ k) (h1 : k < 3) : ∃ j, ixN [V.int a, .int b, .int c].length k = some j ∧ ∃ x y z : Int, [V.int a, .int b, .int c].set j (.int n) = [.int x, .int y, .int z] ∧ (x = a ∨ x = n) ∧ (y = b ∨ y = n) ∧ (z = c ∨ z = n) := by
  rcases (show k = 0 ∨ k = 1 ∨ k = 2 by omega) with z | z | z <;> subst z
  · exact ⟨0, rfl, n, b, c, rfl, .inr rfl, .inl rfl, .inl rfl⟩
  · exact ⟨1, rfl, a, n, c, rfl, .inl rfl, .inr rfl, .inl rfl⟩
  · exact ⟨2, rfl, a, b, n, rfl, .inl rfl, .inl rfl, .inr rfl⟩
theorem get20 {c : Int} : ∃ z : Int, atI (P20.map V.int) (c % 20) = some (.int z) ∧ 2 ≤ z ∧ z ≤ 997 := by
  have h0 := Int.emod_nonneg c (show (20 : Int) ≠ 0 by decide)
  have h1 := Int.emod_lt_of_pos c (show (0 : Int) < 20 by decide)
  obtain ⟨z1, z2⟩ := step20 (c % 20).toNat (by omega)
  exact ⟨_, atL2 (L := P20) h0 h1, z1, z2⟩

section
variable {P : Program} {w : World} {K : PySem.W.Frag} {mg : Str → Option Value} {base : Heap} {t : Adr}
theorem sc_prime_parts : FnScope ["number", "parts", "left", "divisor", "taken"] ["number"] (defScope s_prime_parts) := ⟨rfl, rfl, rfl, by decide +kernel, rfl, by decide +kernel, by decide +kernel⟩
theorem sc_divisor_after : FnScope ["divisor"] ["divisor"] (defScope s_divisor_after) := ⟨rfl, rfl, rfl, by decide +kernel, rfl, by decide +kernel, by decide +kernel⟩
theorem sc_taken_out : FnScope ["number", "prime", "often", "left"] ["number", "prime"] (defScope s_taken_out) := ⟨rfl, rfl, rfl, by decide +kernel, rfl, by decide +kernel, by decide +kernel⟩
theorem sc_core_of : FnScope ["number", "core", "root", "prime", "often", "turn"] ["number"] (defScope s_core_of) := ⟨rfl, rfl, rfl, by decide +kernel, rfl, by decide +kernel, by decide +kernel⟩
theorem sc_is_without_squares : FnScope ["number"] ["number"] (defScope s_is_without_squares) := ⟨rfl, rfl, rfl, by decide +kernel, rfl, by decide +kernel, by decide +kernel⟩
theorem sc_shares_of : FnScope ["one", "other", "upper", "lower", "below"] ["one", "other"] (defScope s_shares_of) := ⟨rfl, rfl, rfl, by decide +kernel, rfl, by decide +kernel, by decide +kernel⟩
theorem sc_row_less : FnScope ["row", "taken", "times"] ["row", "taken", "times"] (defScope s_row_less) := ⟨rfl, rfl, rfl, by decide +kernel, rfl, by decide +kernel, by decide +kernel⟩
theorem sc_is_plain : FnScope ["a", "b", "c"] ["a", "b", "c"] (defScope s_is_plain) := ⟨rfl, rfl, rfl, by decide +kernel, rfl, by decide +kernel, by decide +kernel⟩
theorem sc_bad_places : FnScope ["a", "b", "c"] ["a", "b", "c"] (defScope s_bad_places) := ⟨rfl, rfl, rfl, by decide +kernel, rfl, by decide +kernel, by decide +kernel⟩
theorem sc_cell_at : FnScope ["_law_script", "_law_k"] ["_law_script", "_law_k"] (defScope s_cell_at) := ⟨rfl, rfl, rfl, by decide +kernel, rfl, by decide +kernel, by decide +kernel⟩
theorem sc_churn : FnScope ["_law_cell", "_law_turn", "_law_x", "_law_k", "_law_y"] ["_law_cell", "_law_turn"] (defScope s_churn) := ⟨rfl, rfl, rfl, by decide +kernel, rfl, by decide +kernel, by decide +kernel⟩
theorem sc_primes : FnScope ["_law_some"] [] (defScope s_primes) := ⟨rfl, rfl, rfl, by decide +kernel, rfl, by decide +kernel, by decide +kernel⟩
theorem sc_plain : FnScope ["_law_script", "_law_start", "_law_many", "_law_most", "_law_numbers", "_law_primes_here", "_law_some", "_law_k", "_law_signs", "_law_at"] ["_law_script", "_law_start", "_law_many", "_law_most"] (defScope s_plain) := ⟨rfl, rfl, rfl, by decide +kernel, rfl, by decide +kernel, by decide +kernel⟩
theorem sc_shared : FnScope ["_law_one", "_law_other"] ["_law_one", "_law_other"] (defScope s_shared) := ⟨rfl, rfl, rfl, by decide +kernel, rfl, by decide +kernel, by decide +kernel⟩
theorem sc_square_free : FnScope ["_law_number", "_law_k"] ["_law_number"] (defScope s_square_free) := ⟨rfl, rfl, rfl, by decide +kernel, rfl, by decide +kernel, by decide +kernel⟩
theorem sc_spoilt : FnScope ["_law_numbers", "_law_cell", "_law_at", "_law_other", "_law_way", "_law_by", "_law_k"] ["_law_numbers", "_law_cell"] (defScope s_spoilt) := ⟨rfl, rfl, rfl, by decide +kernel, rfl, by decide +kernel, by decide +kernel⟩
theorem sc_due : FnScope ["_law_numbers"] ["_law_numbers"] (defScope s_due) := ⟨rfl, rfl, rfl, by decide +kernel, rfl, by decide +kernel, by decide +kernel⟩
theorem sc_alone : FnScope ["_law_e", "_law_sort", "_law_found"] ["_law_e", "_law_sort"] (defScope s_alone) := ⟨rfl, rfl, rfl, by decide +kernel, rfl, by decide +kernel, by decide +kernel⟩
theorem sc_refused : FnScope ["_law_numbers", "_law_kept", "_law_e"] ["_law_numbers"] (defScope s_refused) := ⟨rfl, rfl, rfl, by decide +kernel, rfl, by decide +kernel, by decide +kernel⟩
theorem sc_law : FnScope ["_law_script", "_law_numbers", "_law_due_here", "_law_a", "_law_b", "_law_c", "_law_found"] ["_law_script"] (defScope s_law) := ⟨rfl, rfl, rfl, by decide +kernel, rfl, by decide +kernel, by decide +kernel⟩
theorem ok_cell_at {f : Addr} {fd : FuncData} (F : Fun K "_law_cell_at" "_law_cell_at" s_cell_at f fd) (T : Txt K mg t)  : FnOk P w K mg base CX0 1 f fd ["_law_script", "_law_k"] (spCell K) := by
  refine F.ok sc_cell_at (fun vs H Q E h => ?_) (fun cdv A outer s H vs Q E hr h => ?_)
  · obtain ⟨a, ns, k, rfl, _⟩ := h
    rfl
  obtain ⟨a, ns, k, rfl, hS, h0, q⟩ := h
  refine ⟨_, pss_cons (ps_if (pt_cmpR op_lt (pv 1) (pe_callB call_len_seq rfl T.z_len PySem.boot_len (pa_cons (pv 0) pa_nil)) (nomark _)) (pss_one (ps_ret (pe_ix ix_list (pv 0) (pv 1) (fun _ _ => rfl)))) pss_nil)
    (pss_one (ps_ret pe_int)), ?_⟩
  refine ⟨_, rfl, _, rfl, a, _, rfl, .inl hS, _, _, rfl, rfl, _, rfl, ?_⟩
  refine ite2 (fun c => ?_) (fun c => ?_)
  · exact ⟨_, rfl, _, rfl, a, _, _, _, rfl, rfl, hS, cell_in h0 (decT c), q⟩
  · have e := cell_out (decF c) h0
    rw [e] at q
    exact q
theorem ok_alone {f : Addr} {fd : FuncData} (F : Fun K "_law_alone" "_law_alone" s_alone f fd) (T : Txt K mg t)  : FnOk P w K mg base CX0 1 f fd ["_law_e", "_law_sort"] (spAloneS t.c13 13) := by
  refine F.ok sc_alone (fun vs H Q E h => ?_) (fun cdv A outer s H vs Q E hr h => ?_)
  · obtain ⟨e, rfl, _⟩ := h
    rfl
  obtain ⟨e, rfl, he, q⟩ := h
  have hu64 := hu64_of hr
  refine ⟨_, pss_cons (ps_set (i := 2) sc_alone.nd rfl (Or.inl rfl) (pe_lst (pa_isis T.exc (by rfl) (Or.inl (by rfl)) (by rfl) T.z_isinstance b_isi (.cons (by rfl) T.m_BadPlace (by decide) T.i_0 (.cons (by rfl) T.m_Flat (by decide) T.i_1 (.cons (by rfl) T.m_NoBack (by decide) T.i_2 (.cons (by rfl) T.m_NoJoin (by decide) T.i_3 .nil)))))))
    (pss_cons (ps_set (i := 2) sc_alone.nd rfl (Or.inl rfl) (pe_op op_cat (pv 2) (pe_lst (pa_isis T.exc (by rfl) (Or.inl (by rfl)) (by rfl) T.z_isinstance b_isi (.cons (by rfl) T.m_NoLine (by decide) T.i_4 (.cons (by rfl) T.m_NoName (by decide) T.i_5 (.cons (by rfl) T.m_NoNumber (by decide) T.i_6 (.cons (by rfl) T.m_NoPair (by decide) T.i_7 .nil))))))))
    (pss_cons (ps_set (i := 2) sc_alone.nd rfl (Or.inl rfl) (pe_op op_cat (pv 2) (pe_lst (pa_isis T.exc (by rfl) (Or.inl (by rfl)) (by rfl) T.z_isinstance b_isi (.cons (by rfl) T.m_NoPlace (by decide) T.i_8 (.cons (by rfl) T.m_NoRow (by decide) T.i_9 (.cons (by rfl) T.m_NoSign (by decide) T.i_10 (.cons (by rfl) T.m_NoText (by decide) T.i_11 .nil))))))))
    (pss_cons (ps_set (i := 2) sc_alone.nd rfl (Or.inl rfl) (pe_op op_cat (pv 2) (pe_lst (pa_isis T.exc (by rfl) (Or.inl (by rfl)) (by rfl) T.z_isinstance b_isi (.cons (by rfl) T.m_NoVertex (by decide) T.i_12 (.cons (by rfl) T.m_NotPlain (by decide) T.i_13 (.cons (by rfl) T.m_OffCurve (by decide) T.i_14 .nil)))))))
    (pss_one (ps_ret (pe_and (pe_callB call_isi rfl T.z_isinstance b_isi (pa_cons (pv 0) (pa_cons (pe_bltn (v := .ty "ValueError") rfl T.z_ValueError b_ValueError rfl) pa_nil)))
      (pe_one (pe_cmpR (op_eqBl hu64) (pv 2) (pe_comp rfl (CompScope.one (k := 1) [(".0", .local), ("_law_k", .local), ("_law_sort", .cell)] rfl (by decide +kernel) (by decide +kernel) rfl rfl rfl rfl (by decide +kernel) (by decide) (by decide +kernel) rfl rfl) (pi_range1 rfl T.z_range (pa_cons pe_int pa_nil)) (fun C s0 H0 fp pins => pe_cmpR op_eq (pv 0) (pv 1) (nomark _))) (nomark _))))))))), ?_⟩
  refine ⟨e, rfl, he, (by show 4 ≤ sizeLine; decide), fun p1 n1 => ?_⟩
  have g1 := same_new n1 (.lst ([false, false, false, false].map V.bl))
  have he1 := g1 _ _ he
  refine ⟨_, rfl, e, rfl, he1, (by show 4 ≤ sizeLine; decide), fun p2 n2 => ?_⟩
  have g2 := same_new n2 (.lst ([false, false, false, false].map V.bl))
  refine ⟨p1, p2, _, _, rfl, rfl, g2 _ _ upd_same, upd_same, (by show 8 ≤ sizeLine; decide), fun p3 n3 => ?_⟩
  have g3 := g2.trans (same_new n3 (.lst (([false, false, false, false].map V.bl) ++ ([false, false, false, false].map V.bl))))
  have he3 := g3 _ _ he1
  refine ⟨_, rfl, e, rfl, he3, (by show 4 ≤ sizeLine; decide), fun p4 n4 => ?_⟩
  have g4 := same_new n4 (.lst ([false, false, false, false].map V.bl))
  refine ⟨p3, p4, _, _, rfl, rfl, g4 _ _ upd_same, upd_same, (by show 12 ≤ sizeLine; decide), fun p5 n5 => ?_⟩
  have g5 := g4.trans (same_new n5 (.lst (([false, false, false, false].map V.bl) ++ ([false, false, false, false].map V.bl) ++ ([false, false, false, false].map V.bl))))
  have he5 := g5 _ _ he3
  refine ⟨_, rfl, e, rfl, he5, (by show 3 ≤ sizeLine; decide), fun p6 n6 => ?_⟩
  have g6 := same_new n6 (.lst ([false, true, false].map V.bl))
  refine ⟨p5, p6, _, _, rfl, rfl, g6 _ _ upd_same, upd_same, (by show 15 ≤ sizeLine; decide), fun p7 n7 => ?_⟩
  have g7 := g6.trans (same_new n7 (.lst (([false, false, false, false].map V.bl) ++ ([false, false, false, false].map V.bl) ++ ([false, false, false, false].map V.bl) ++ ([false, true, false].map V.bl))))
  have he7 := g7 _ _ he5
  refine ⟨_, rfl, _, _, _, _, rfl, .inr ⟨_, rfl⟩, .exc T.exc he7, T.i_ve, _, rfl, iteT ?_⟩
  have G := (g1.trans (g3.trans (g5.trans g7)))
  refine ⟨_, rfl, 15, rfl, by decide, by decide, fun acc hacc => ?_⟩
  refine ⟨fun i m H' vs => i ≤ 15 ∧ m = 15 - i ∧ vs = (bls 13 i).map V.bl ∧ Same H H' ∧ H' p7 = some (.lst ([false, false, false, false, false, false, false, false, false, false, false, false, false, true, false].map V.bl)) ∧ H' acc = some (.lst vs), ⟨_, Nat.zero_le _, rfl, rfl, G.trans (same_new hacc _), same_new hacc _ _ _ upd_same, upd_same⟩, ?_⟩
  rintro i m H9 vs ⟨hi, rfl, rfl, g9, hl, ha⟩
  refine ⟨ha, ?_⟩
  by_cases h3 : i = 15
  · subst h3
    refine .inl ⟨Nat.le_refl _, ?_⟩
    exact ⟨p7, acc, [false, false, false, false, false, false, false, false, false, false, false, false, false, true, false], rfl, rfl, hl, ha, rfl, q _ g9⟩
  · refine .inr ⟨by (show i < 15; omega), ?_, ?_⟩
    · rw [List.length_map, bls_len]
      exact Nat.lt_of_le_of_lt hi (by decide)
    · rintro z H2 ⟨rfl, rfl⟩
      refine ⟨_, rfl, _, rfl, rfl, ha, 15 - (i + 1), by omega, by omega, rfl, ?_, fun b o z => ?_, ?_, upd_same⟩
      · rw [bls_more, List.map_append]
        rfl
      · rw [upd_ne (fun y => by subst y; rw [G _ _ z] at hacc; cases hacc)]
        exact g9 b o z
      · rw [upd_ne (fun y => by subst y; rw [upd_same] at hacc; cases hacc)]
        exact hl

theorem ok_taken_out {f : Addr} {fd : FuncData} (F : Fun K "taken_out" "taken_out" s_taken_out f fd) (T : Txt K mg t)  : FnOk P w K mg base CX0 1 f fd ["number", "prime"] (spTaken) := by
  refine F.ok sc_taken_out (fun vs H Q E h => ?_) (fun cdv A outer s H vs Q E hr h => ?_)
  · obtain ⟨_, _, rfl, _⟩ := h
    rfl
  obtain ⟨x, p, rfl, x0, p2, pl, q⟩ := h
  refine ⟨_, pss_cons (ps_set (i := 2) sc_taken_out.nd rfl (Or.inl rfl) pe_int)
    (pss_cons (ps_set (i := 3) sc_taken_out.nd rfl (Or.inl rfl) (pv 0))
    (pss_cons (ps_while PassesOwn.never (pt_cmpR op_eq (pe_op op_modN (pv 3) (pv 1)) pe_int (nomark _)) (pss_cons (ps_set (i := 3) sc_taken_out.nd rfl (Or.inl rfl) (pe_op op_fdivL (pv 3) (pv 1)))
    (pss_one (ps_set (i := 2) sc_taken_out.nd rfl (Or.inl rfl) (pe_op op_add (pv 2) pe_int)))))
    (pss_one (ps_ret (pe_tup (pa_cons (pv 2) (pa_cons (pv 3) pa_nil))))))), ?_⟩
  refine ⟨_, rfl, ?_⟩
  refine ⟨fun m σ H' => ∃ (o l : Int), σ = [some (.int x), some (.int p), some (.int o), some (.int l)] ∧ H = H' ∧ Pr.Inn x p l o ∧ 0 ≤ o ∧ l ≠ 0 ∧ l.natAbs ≤ x.natAbs ∧ (0 < x → 0 < l) ∧ (x < 0 → l < 0) ∧ m = l.natAbs,
    ⟨_, 0, x, rfl, rfl, Pr.inn_start x p, by omega, x0, Nat.le_refl _, id, id, rfl⟩, ?_⟩
  rintro m σ H' ⟨o, l, rfl, rfl, inn, o0, l0, lx, s1, s2, rfl⟩
  refine ⟨_, rfl, _, rfl, _, _, rfl, rfl, (by show p ≠ 0; omega), rfl, _, rfl, ?_⟩
  refine ite2 (fun c => ?_) (fun c => ?_)
  · have z : l.fmod p = 0 := int_inj (decT c)
    obtain ⟨t1, t2, t3, t4⟩ := taken_less p2 l0 z
    refine ⟨fun σ' H2 => σ' = [some (.int x), some (.int p), some (.int (o + 1)), some (.int (l.fdiv p))] ∧ H = H2, ?_, ?_⟩
    · rintro σ' H2 ⟨rfl, rfl⟩
      exact ⟨_, t2, o + 1, l.fdiv p, rfl, rfl, Pr.inn_turn inn o0 z, by omega, t1, by omega, fun h => t3 (s1 h), fun h => t4 (s2 h), rfl⟩
    · exact ⟨_, rfl, _, rfl, _, _, rfl, rfl, ⟨by omega, pl⟩, _, rfl, _, _, rfl, rfl, rfl, rfl⟩
  · have z : l.fmod p ≠ 0 := fun z => decF c (congrArg V.int z)
    exact ⟨_, rfl, _, rfl, (by show 2 ≤ sizeLine; decide), fun r hr' => q r _ o l (same_new hr' _) upd_same inn o0 z l0 lx s1 s2⟩

theorem ok_divisor_after {f : Addr} {fd : FuncData} (F : Fun K "divisor_after" "divisor_after" s_divisor_after f fd) (T : Txt K mg t)  : FnOk P w K mg base CX0 1 f fd ["divisor"] (spAfter) := by
  refine F.ok sc_divisor_after (fun vs H Q E h => ?_) (fun cdv A outer s H vs Q E hr h => ?_)
  · obtain ⟨d, rfl, _⟩ := h
    rfl
  obtain ⟨d, rfl, q⟩ := h
  refine ⟨_, pss_cons (ps_if (pt_cmpR op_eq (pv 0) pe_int (nomark _)) (pss_one (ps_ret pe_int)) pss_nil)
    (pss_one (ps_ret (pe_op op_add (pv 0) pe_int))), ?_⟩
  refine ⟨_, rfl, rfl, _, rfl, ?_⟩
  refine ite2 (fun c => ?_) (fun c => ?_)
  · rw [if_pos (int_inj (decT c))] at q
    exact q
  · rw [if_neg (fun z => decF c (congrArg V.int z))] at q
    exact ⟨_, rfl, _, _, rfl, rfl, q⟩
theorem ok_prime_parts {f : Addr} {fd : FuncData} (F : Fun K "prime_parts" "prime_parts" s_prime_parts f fd) (T : Txt K mg t) (H_divisor_after : Has P w K mg base CX0 1 "divisor_after" ["divisor"] (spAfter)) (H_taken_out : Has P w K mg base CX0 1 "taken_out" ["number", "prime"] (spTaken)) : FnOk P w K mg base CX0 2 f fd ["number"] (spParts0) := by
  obtain ⟨f_divisor_after, d_divisor_after, G_divisor_after, b_divisor_after, k_divisor_after, m_divisor_after⟩ := H_divisor_after
  obtain ⟨f_taken_out, d_taken_out, G_taken_out, b_taken_out, k_taken_out, m_taken_out⟩ := H_taken_out
  refine F.ok sc_prime_parts (fun vs H Q E h => ?_) (fun cdv A outer s H vs Q E hr h => ?_)
  · obtain ⟨n, rfl, _⟩ := h
    rfl
  obtain ⟨n, rfl, n0, n1, q⟩ := h
  have hr_divisor_after := hr.mono (show 1 ≤ 1 by decide)
  have hr_taken_out := hr.mono (show 1 ≤ 1 by decide)
  refine ⟨_, pss_cons (ps_if (pt_cmpR op_lt (pv 0) pe_int (nomark _)) pss_never pss_nil)
    (pss_cons (ps_set (i := 1) sc_prime_parts.nd rfl (Or.inl rfl) (pe_lst pa_nil))
    (pss_cons (ps_set (i := 2) sc_prime_parts.nd rfl (Or.inl rfl) (pv 0))
    (pss_cons (ps_set (i := 3) sc_prime_parts.nd rfl (Or.inl rfl) pe_int)
    (pss_cons (ps_while PassesOwn.never (pt_cmpR op_le (pe_op op_mulG (pv 3) (pv 3)) (pv 2) (nomark _)) (pss_cut (ps_if (pt_cmpR op_eq (pe_op op_modN (pv 2) (pv 3)) pe_int (nomark _)) (pss_cons (ps_set (i := 4) sc_prime_parts.nd rfl (Or.inl rfl) (pe_call G_taken_out hr_taken_out rfl m_taken_out k_taken_out b_taken_out .nil pass0 (pa_cons (pv 2) (pa_cons (pv 3) pa_nil))))
    (pss_cons (ps_expr (pe_bm PySem.F.plainAttrs_list PySem.F.slot_list_append PySem.F.type_list_append mt_append (pv 1) (pa_cons (pe_tup (pa_cons (pv 3) (pa_cons (pe_ix ix_tup (pv 4) pe_int (fun _ _ => rfl)) pa_nil))) pa_nil)))
    (pss_one (ps_set (i := 2) sc_prime_parts.nd rfl (Or.inl rfl) (pe_ix ix_tup (pv 4) pe_int (fun _ _ => rfl)))))) pss_nil)
    (pss_one (ps_set (i := 3) sc_prime_parts.nd rfl (Or.inl rfl) (pe_call G_divisor_after hr_divisor_after rfl m_divisor_after k_divisor_after b_divisor_after .nil pass0 (pa_cons (pv 3) pa_nil))))))
    (pss_cut (ps_if (pt_cmpR op_gt (pv 2) pe_int (nomark _)) (pss_one (ps_expr (pe_bm PySem.F.plainAttrs_list PySem.F.slot_list_append PySem.F.type_list_append mt_append (pv 1) (pa_cons (pe_tup (pa_cons (pv 2) (pa_cons pe_int pa_nil))) pa_nil)))) pss_nil)
    (pss_one (ps_ret (pv 1)))))))), ?_⟩
  refine ⟨_, rfl, _, _, rfl, rfl, _, rfl, iteDF (show ¬ n < 1 by omega) ?_⟩
  refine ⟨(by show 0 ≤ sizeLine; decide), fun pl hpl => ?_⟩
  refine ⟨_, rfl, ?_⟩
  refine ⟨W1 n pl H, ⟨_, n, 2, [], [], none, rfl, same_new hpl _, upd_same, .nil, Pr.out_start n, by omega, by omega, n0, rfl⟩, ?_⟩
  rintro m σ H1 ⟨left, d, xs, rs, of, rfl, g1, hl1, t1, out, d2, dm, l1, rfl⟩
  have bd : Builtin.Int.intBits d ≤ 1048576 := bits_lit (k := 64) (by omega) (by decide)
  have ln := Pr.out_left out l1
  have short1 := short out.all (out_prod out l1) n1
  have rlen := t1.len
  refine ⟨_, rfl, _, rfl, _, _, rfl, rfl, mulOk bd bd, _, rfl, _, _, rfl, rfl, _, rfl, ?_⟩
  refine ite2 (fun c => ?_) (fun c => ?_)
  · have dd : d * d ≤ left := decT c
    have dl := le_sq (show 1 ≤ d by omega)
    refine ⟨fun σ' H2 => ∃ m', m' < (left + 1 - d).toNat ∧ W1 n pl H m' σ' H2, fun _ _ h => h, ?_⟩
    refine ⟨fun σ' H3 => ∃ (ys : List (Int × Int)) (qs : List Addr) (l2 : Int) (ta : Option V), σ' = [some (.int n), some (.ref pl), some (.int l2), some (.int d), ta] ∧ Same H H3 ∧ H3 pl = some (.lst (qs.map V.ref)) ∧ TupL H3 qs ys ∧ Pr.Out n l2 (if d = 2 then 3 else d + 2) ys ∧ 1 ≤ l2 ∧ l2 ≤ left, ?_, ?_⟩
    · refine ⟨_, rfl, _, rfl, _, _, rfl, rfl, (by show d ≠ 0; omega), rfl, _, rfl, ?_⟩
      refine ite2 (fun c2 => ?_) (fun c2 => ?_)
      · have z2 : left.fmod d = 0 := int_inj (decT c2)
        refine ⟨_, rfl, _, rfl, left, d, rfl, (by omega), d2, Nat.lt_of_lt_of_le (log2_lt_of (k := 64) (by omega) (by decide)) (by decide), fun r H2 o l2 g2 hr2 inn o0 zl l0 lx sp sn => ?_⟩
        have lp := sp (by omega)
        have o3 : 0 < o := by
          rcases (show o = 0 ∨ 0 < o by omega) with h | h
          · have e := inn.eq
            rw [h, show (0 : Int).toNat = 0 from rfl, Int.pow_zero, Int.one_mul] at e
            rw [← e] at zl
            exact absurd z2 zl
          · exact h
        refine ⟨_, rfl, .inl ⟨rfl, _, SqL.of (g2 _ _ hl1)⟩, _, rfl, _, rfl, r, _, _, _, rfl, rfl, SqT.of hr2, rfl, (by show 2 ≤ sizeLine; decide), fun p hp => ?_⟩
        have hl2 := g2 _ _ hl1
        have npl : pl ≠ p := fun z => by subst z; rw [hl2] at hp; cases hp
        have nr : r ≠ pl := fun z => by subst z; rw [hl2] at hr2; cases hr2
        have nrp : r ≠ p := fun z => by subst z; rw [hr2] at hp; cases hp
        refine ⟨pl, _, _, rfl, rfl, (by rw [upd_ne npl]; exact hl2), (by rw [List.length_map]; exact small1000 (by omega)), ?_⟩
        obtain ⟨k1, k2, k3⟩ := grown (x := (d, o)) (g1.trans g2) hpl hp hl2 (TupL.same g2 t1)
        refine ⟨_, rfl, r, _, _, _, rfl, rfl, SqT.of (by rw [upd_ne nr, upd_ne nrp]; exact hr2), rfl, ?_⟩
        exact ⟨xs ++ [(d, o)], rs ++ [p], l2, _, rfl, k1, k2, k3, Pr.out_some out inn d2 o3 zl rfl, by omega, by omega⟩
      · have z2 : left.fmod d ≠ 0 := fun z => decF c2 (congrArg V.int z)
        exact ⟨xs, rs, left, _, rfl, g1, hl1, t1, Pr.out_none out (Pr.inn_start left d) d2 rfl z2 rfl, l1, by omega⟩
    · rintro σ3 H3 ⟨ys, qs, l2, ta, rfl, g3, hl3, t3, out3, l21, l22⟩
      refine ⟨_, rfl, d, rfl, (l2 + 1 - (if d = 2 then 3 else d + 2)).toNat, ?_, l2, _, ys, qs, _, rfl, g3, hl3, t3, out3, ?_, ?_, l21, rfl⟩
      all_goals split <;> omega
  · have dd : ¬ d * d ≤ left := decF c
    refine ⟨fun σ' H2 => ∃ (ys : List (Int × Int)) (qs : List Addr) (l2 : Option V) (d2 o2 : Option V), σ' = [some (.int n), some (.ref pl), l2, d2, o2] ∧ Same H H2 ∧ H2 pl = some (.lst (qs.map V.ref)) ∧ TupL H2 qs ys ∧ Pr.Told n ys, ?_, ?_⟩
    · refine ⟨_, rfl, _, _, rfl, rfl, _, rfl, ?_⟩
      refine ite2 (fun c3 => ?_) (fun c3 => ?_)
      · have o3 : 1 < left := decT c3
        refine ⟨_, rfl, .inl ⟨rfl, _, SqL.of hl1⟩, _, rfl, (by show 2 ≤ sizeLine; decide), fun p hp => ?_⟩
        have npl : pl ≠ p := fun z => by subst z; rw [hl1] at hp; cases hp
        refine ⟨pl, _, _, rfl, rfl, (by rw [upd_ne npl]; exact hl1), (by rw [List.length_map]; exact small1000 (by omega)), ?_⟩
        obtain ⟨k1, k2, k3⟩ := grown (x := (left, 1)) g1 hpl hp hl1 t1
        exact ⟨xs ++ [(left, 1)], rs ++ [p], _, _, _, rfl, k1, k2, k3, Pr.told_last out d2 (by omega) o3⟩
      · have o3 : ¬ 1 < left := decF c3
        exact ⟨xs, rs, _, _, _, rfl, g1, hl1, t1, Pr.told_none out (by omega)⟩
    · rintro σ3 H3 ⟨ys, qs, l3, d3, o3, rfl, g3, hl3, t3, told⟩
      exact ⟨_, rfl, q pl qs ys H3 g3 hpl hl3 t3 told⟩
theorem ok_row_less {f : Addr} {fd : FuncData} (F : Fun K "row_less" "row_less" s_row_less f fd) (T : Txt K mg t)  : FnOk P w K mg base CX0 1 f fd ["row", "taken", "times"] (spRow) := by
  refine F.ok sc_row_less (fun vs H Q E h => ?_) (fun cdv A outer s H vs Q E hr h => ?_)
  · obtain ⟨_, _, _, _, _, _, _, _, _, rfl, _⟩ := h
    rfl
  obtain ⟨pa, pb, x, s', t', y, u, v, k, rfl, ha, hb, m1, m2, m3, q⟩ := h
  refine ⟨_, pss_one (ps_ret (pe_tup (pa_cons (pe_op op_sub (pe_ix ix_tup (pv 0) pe_int (fun _ _ => rfl)) (pe_op op_mulG (pv 2) (pe_ix ix_tup (pv 1) pe_int (fun _ _ => rfl)))) (pa_cons (pe_op op_sub (pe_ix ix_tup (pv 0) pe_int (fun _ _ => rfl)) (pe_op op_mulG (pv 2) (pe_ix ix_tup (pv 1) pe_int (fun _ _ => rfl)))) (pa_cons (pe_op op_sub (pe_ix ix_tup (pv 0) pe_int (fun _ _ => rfl)) (pe_op op_mulG (pv 2) (pe_ix ix_tup (pv 1) pe_int (fun _ _ => rfl)))) pa_nil))))), ?_⟩
  exact ⟨_, rfl, pa, _, _, _, rfl, rfl, SqT.of ha, rfl, _, rfl, _, rfl, pb, _, _, _, rfl, rfl, SqT.of hb, rfl, _, _, rfl, rfl, m1, _, _, rfl, rfl,
    _, rfl, pa, _, _, _, rfl, rfl, SqT.of ha, rfl, _, rfl, _, rfl, pb, _, _, _, rfl, rfl, SqT.of hb, rfl, _, _, rfl, rfl, m2, _, _, rfl, rfl,
    _, rfl, pa, _, _, _, rfl, rfl, SqT.of ha, rfl, _, rfl, _, rfl, pb, _, _, _, rfl, rfl, SqT.of hb, rfl, _, _, rfl, rfl, m3, _, _, rfl, rfl,
    (by show 3 ≤ sizeLine; decide), fun p np => q p _ (same_new np _) upd_same⟩
theorem ok_shares_of {f : Addr} {fd : FuncData} (F : Fun K "shares_of" "shares_of" s_shares_of f fd) (T : Txt K mg t) (H_row_less : Has P w K mg base CX0 1 "row_less" ["row", "taken", "times"] (spRow)) : FnOk P w K mg base CX0 2 f fd ["one", "other"] (spShares) := by
  obtain ⟨f_row_less, d_row_less, G_row_less, b_row_less, k_row_less, m_row_less⟩ := H_row_less
  refine F.ok sc_shares_of (fun vs H Q E h => ?_) (fun cdv A outer s H vs Q E hr h => ?_)
  · obtain ⟨x, y, rfl, _⟩ := h
    rfl
  obtain ⟨x, y, rfl, hx, hy, q⟩ := h
  have hr_row_less := hr.mono (show 1 ≤ 1 by decide)
  refine ⟨_, pss_cons (ps_set (i := 2) sc_shares_of.nd rfl (Or.inl rfl) (pe_tup (pa_cons (pv 0) (pa_cons pe_int (pa_cons pe_int pa_nil)))))
    (pss_cons (ps_set (i := 3) sc_shares_of.nd rfl (Or.inl rfl) (pe_tup (pa_cons (pv 1) (pa_cons pe_int (pa_cons pe_int pa_nil)))))
    (pss_cons (ps_while PassesOwn.never (pt_cmpR op_ne (pe_ix ix_tup (pv 3) pe_int (fun _ _ => rfl)) pe_int (nomark _)) (pss_cons (ps_set (i := 4) sc_shares_of.nd rfl (Or.inl rfl) (pe_call G_row_less hr_row_less rfl m_row_less k_row_less b_row_less .nil pass0 (pa_cons (pv 2) (pa_cons (pv 3) (pa_cons (pe_op op_fdivL (pe_ix ix_tup (pv 2) pe_int (fun _ _ => rfl)) (pe_ix ix_tup (pv 3) pe_int (fun _ _ => rfl))) pa_nil)))))
    (pss_cons (ps_set (i := 2) sc_shares_of.nd rfl (Or.inl rfl) (pv 3))
    (pss_one (ps_set (i := 3) sc_shares_of.nd rfl (Or.inl rfl) (pv 4))))))
    (pss_cons (ps_if (pt_cmpR op_lt (pe_ix ix_tup (pv 2) pe_int (fun _ _ => rfl)) pe_int (nomark _)) (pss_one (ps_ret (pe_tup (pa_cons (pe_un un_neg (pe_ix ix_tup (pv 2) pe_int (fun _ _ => rfl))) (pa_cons (pe_un un_neg (pe_ix ix_tup (pv 2) pe_int (fun _ _ => rfl))) (pa_cons (pe_un un_neg (pe_ix ix_tup (pv 2) pe_int (fun _ _ => rfl))) pa_nil)))))) pss_nil)
    (pss_one (ps_ret (pv 2)))))), ?_⟩
  have B4 : ((x.natAbs : Int) + 2 * y.natAbs + 1).natAbs ≤ 4 * Lm := by
    have := Lm_pos
    omega
  have sz0 := Sh.sz_start (x := x) (y := y)
  generalize ((x.natAbs : Int) + 2 * y.natAbs + 1) = B at B4 sz0
  refine ⟨_, rfl, (by show 3 ≤ sizeLine; decide), fun p1 n1 => ?_⟩
  refine ⟨_, rfl, (by show 3 ≤ sizeLine; decide), fun p2 n2 => ?_⟩
  refine ⟨fun m σ H' => ∃ (pa pb : Addr) (a s t b u v : Int) (be : Option V), σ = [some (.int x), some (.int y), some (.ref pa), some (.ref pb), be] ∧ Same H H' ∧ H' pa = some (.tup [.int a, .int s, .int t]) ∧ H' pb = some (.tup [.int b, .int u, .int v]) ∧
    Sh.Rows x y a s t b u v ∧ Sh.Sz B a s t b u v ∧ m = b.natAbs, ⟨_, p1, p2, _, _, _, _, _, _, none, rfl, (same_new n1 _).trans (same_new n2 _), same_new n2 _ _ _ upd_same, upd_same, Sh.rows_start x y, sz0, rfl⟩, ?_⟩
  clear sz0 n1 n2 p1 p2
  rintro m σ H1 ⟨pa, pb, a, s', t', b, u, v, be, rfl, g, ha, hb, rws, sz, rfl⟩
  refine ⟨_, rfl, pb, _, _, _, rfl, rfl, SqT.of hb, rfl, rfl, _, rfl, ?_⟩
  refine ite2 (fun c => ?_) (fun c => ?_)
  · have b0 : b ≠ 0 := fun z => neT c (congrArg V.int z)
    have sz' := Sh.sz_turn sz b0 (a.fdiv b) (a.fmod b) (Sh.quot a b) rfl
    have rw' := Sh.rows_turn rws (a.fdiv b)
    rw [fdiv_rest] at rw'
    have qs : (a.fdiv b).natAbs ≤ 8 * Lm := by
      have e : a.fdiv b * b = a - a.fmod b := by have := fdiv_rest a b; omega
      have h1 : (a.fdiv b).natAbs ≤ (a.fdiv b * b).natAbs := by
        rw [Int.natAbs_mul]
        exact Nat.le_mul_of_pos_right _ (by omega)
      rw [e] at h1
      have h2 := sz.a0
      have h3 := sz'.b0
      omega
    refine ⟨fun σ' H2 => ∃ pc : Addr, σ' = [some (.int x), some (.int y), some (.ref pb), some (.ref pc), some (.ref pc)] ∧ Same H1 H2 ∧ H2 pc = some (.tup [.int (a - a.fdiv b * b), .int (s' - a.fdiv b * u), .int (t' - a.fdiv b * v)]), ?_, ?_⟩
    · rintro σ' H2 ⟨pc, rfl, g2, hc⟩
      rw [fdiv_rest] at hc
      exact ⟨(a.fmod b).natAbs, Sh.fmod_abs b0, pb, pc, b, u, v, _, _, _, _, rfl, g.trans g2, g2 _ _ hb, hc, rw', sz', rfl⟩
    · have z1 := sz.b0
      have z2 := sz.u0
      have z3 := sz.v0
      refine ⟨_, rfl, _, rfl, _, rfl, pa, _, _, _, rfl, rfl, SqT.of ha, rfl, _, rfl, pb, _, _, _, rfl, rfl, SqT.of hb, rfl, _, _, rfl, rfl, ⟨b0, Lm_log (by omega)⟩,
        pa, pb, a, s', t', b, u, v, _, rfl, ha, hb, mulL qs (by omega), mulL qs (by omega), mulL qs (by omega), fun pc H2 g2 hc => ?_⟩
      exact ⟨_, rfl, _, rfl, pc, rfl, g2, hc⟩
  · have b0 : b = 0 := int_inj (neF c)
    obtain ⟨e1, ⟨k1, e2⟩, ⟨k2, e3⟩⟩ := Sh.rows_end rws b0
    have z2 := sz.s0
    have z3 := sz.t0
    refine ⟨_, rfl, pa, _, _, _, rfl, rfl, SqT.of ha, rfl, _, _, rfl, rfl, _, rfl, ?_⟩
    refine ite2 (fun c => ?_) (fun c => ?_)
    · have a0 : a < 0 := decT c
      refine ⟨_, rfl, pa, _, _, _, rfl, rfl, SqT.of ha, rfl, _, rfl, _, rfl, pa, _, _, _, rfl, rfl, SqT.of ha, rfl, _, rfl, _, rfl, pa, _, _, _, rfl, rfl, SqT.of ha, rfl, _, rfl, (by show 3 ≤ sizeLine; decide), fun p np => ?_⟩
      exact q p _ (-a) (-s') (-t') (g.trans (same_new np _)) upd_same (by omega) (by rw [Int.neg_mul, Int.neg_mul]; omega) ⟨-k1, by rw [Int.neg_mul_neg]; exact e2⟩ ⟨-k2, by rw [Int.neg_mul_neg]; exact e3⟩ (by omega) (by omega)
    · have a0 : ¬ a < 0 := decF c
      exact ⟨_, rfl, q pa H1 a s' t' g ha (by omega) e1 ⟨k1, e2⟩ ⟨k2, e3⟩ (by omega) (by omega)⟩
theorem ok_core_of {f : Addr} {fd : FuncData} (F : Fun K "core_of" "core_of" s_core_of f fd) (T : Txt K mg t) (H_prime_parts : Has P w K mg base CX0 2 "prime_parts" ["number"] (spParts0)) : FnOk P w K mg base CX0 3 f fd ["number"] (spCore0) := by
  obtain ⟨f_prime_parts, d_prime_parts, G_prime_parts, b_prime_parts, k_prime_parts, m_prime_parts⟩ := H_prime_parts
  refine F.ok sc_core_of (fun vs H Q E h => ?_) (fun cdv A outer s H vs Q E hr h => ?_)
  · obtain ⟨n, rfl, _⟩ := h
    rfl
  obtain ⟨n, rfl, c', n0, n1, q⟩ := h
  have hr_prime_parts := hr.mono (show 2 ≤ 2 by decide)
  refine ⟨_, pss_cons (ps_if (pt_cmpR op_eq (pv 0) pe_int (nomark _)) pss_never pss_nil)
    (pss_cut (ps_set (i := 1) sc_core_of.nd rfl (Or.inl rfl) (pe_ifExp (pt_cmpR op_lt (pv 0) pe_int (nomark _)) (pe_un un_neg pe_int) pe_int))
    (pss_cons (ps_set (i := 2) sc_core_of.nd rfl (Or.inl rfl) pe_int)
    (pss_cons (ps_for PassesOwn.never rfl (pi_list (pe_call G_prime_parts hr_prime_parts rfl m_prime_parts k_prime_parts b_prime_parts .nil pass0 (pa_cons (pe_callB call_abs rfl T.z_abs b_abs (pa_cons (pv 0) pa_nil)) pa_nil))) (pg_tup rfl (pgs_cons (pg_name (i := 3) sc_core_of.nd rfl (Or.inl rfl)) (pgs_cons (pg_name (i := 4) sc_core_of.nd rfl (Or.inl rfl)) pgs_nil))) (pss_cut (ps_if (pt_cmpR op_eq (pe_op op_mod (pv 4) pe_int) pe_int (nomark _)) (pss_one (ps_set (i := 1) sc_core_of.nd rfl (Or.inl rfl) (pe_op op_mulG (pv 1) (pv 3)))) pss_nil)
    (pss_one (ps_for PassesOwn.never rfl (pi_range1 rfl T.z_range (pa_cons (pe_op op_fdiv (pv 4) pe_int) pa_nil)) (pg_name (i := 5) sc_core_of.nd rfl (Or.inl rfl)) (pss_one (ps_set (i := 2) sc_core_of.nd rfl (Or.inl rfl) (pe_op op_mulG (pv 2) (pv 3))))))))
    (pss_one (ps_ret (pe_tup (pa_cons (pv 1) (pa_cons (pv 2) pa_nil)))))))), ?_⟩
  refine ⟨_, rfl, rfl, _, rfl, iteDF (fun z => c' (int_inj z)) ?_⟩
  refine ⟨fun σ' H' => σ' = [some (.int n), some (.int (sgn n)), none, none, none, none] ∧ H = H', ?_, ?_⟩
  · refine ⟨_, rfl, _, _, rfl, rfl, _, rfl, ?_⟩
    unfold sgn
    refine ite2 (fun c2 => ?_) (fun c2 => ?_)
    · refine ⟨_, rfl, ?_⟩
      rw [if_pos (decT c2)]
      exact ⟨rfl, rfl⟩
    · rw [if_neg (decF c2)]
      exact ⟨rfl, rfl⟩
  rintro _ _ ⟨rfl, rfl⟩
  have a1 : 1 ≤ absI n ∧ absI n ≤ 10000000000 := by
    unfold absI
    split <;> omega
  refine ⟨_, rfl, _, rfl, absI n, rfl, a1.1, a1.2, fun pl rs xs H1 g1 np hl tl told => ?_⟩
  refine ⟨pl, rfl, ⟨_, SqL.of hl⟩, for_list (K := K) (a := pl) (xs := rs.map V.ref) (fun i σ H' => ∃ (pr of tu : Option V), σ = [some (.int n), some (.int (sgn n * Pr.coreP (xs.take i))), some (.int (Pr.rootP (xs.take i))), pr, of, tu] ∧ H1 = H')
    ⟨none, none, none, by show [some (V.int n), some (V.int (sgn n)), some (V.int 1), none, none, none] = [some (V.int n), some (V.int (sgn n * 1)), some (V.int 1), none, none, none]; rw [Int.mul_one], rfl⟩ (fun i σ H2 _ ⟨_, _, _, _, e⟩ => e ▸ SqL.of hl) ?_ ?_⟩
  · rintro i y σ H2 hi ⟨pr, of, tu, rfl, rfl⟩
    obtain ⟨r, hr', rfl⟩ : ∃ r, rs[i]? = some r ∧ y = .ref r := by
      rw [List.getElem?_map] at hi
      cases e : rs[i]? with
      | none => rw [e] at hi; cases hi
      | some r => rw [e] at hi; exact ⟨r, rfl, (Option.some.inj hi).symm⟩
    obtain ⟨⟨p, o⟩, hx, ht⟩ := tl.get hr'
    have mem := List.mem_of_getElem? hx
    have prt := told.all _ mem
    have p2 : 2 ≤ p := prt.prime.two
    have o1 : 1 ≤ o := prt.often
    have o2 : o ≤ 40 := Pr.often_le told (by show absI n ≤ 10000000000; exact a1.2) mem
    have pn : p ≤ absI n := Pr.part_le told mem
    refine ⟨r, _, rfl, SqT.of ht, rfl, _, _, rfl, _, _, rfl, rfl, ?_⟩
    refine ⟨fun σ' H' => σ' = [some (.int n), some (.int (sgn n * Pr.coreP (xs.take (i + 1)))), some (.int (Pr.rootP (xs.take i))), some (.int p), some (.int o), tu] ∧ H1 = H', ?_, ?_⟩
    · refine ⟨_, rfl, _, _, rfl, rfl, (by show (0 : Int) < 2; decide), rfl, _, rfl, ?_⟩
      rw [core_more hx]
      refine ite2 (fun c2 => ?_) (fun c2 => ?_)
      · have e : o % 2 = 1 := int_inj (decT c2)
        rw [if_pos e, ← Int.mul_assoc]
        exact ⟨_, rfl, _, rfl, _, _, rfl, rfl, mulS (by omega) (by omega), rfl, rfl⟩
      · have e : ¬ o % 2 = 1 := fun z => decF c2 (congrArg V.int z)
        rw [if_neg e, Int.mul_one]
        exact ⟨rfl, rfl⟩
    rintro _ _ ⟨rfl, rfl⟩
    refine ⟨_, rfl, _, _, rfl, rfl, ⟨by decide, by decide⟩, o / 2, rfl, (by omega), (by omega),
      for_range (fun j σ H' => ∃ tu : Option V, σ = [some (.int n), some (.int (sgn n * Pr.coreP (xs.take (i + 1)))), some (.int (Pr.rootP (xs.take i) * p ^ j)), some (.int p), some (.int o), tu] ∧ H1 = H') ⟨tu, by rw [Int.pow_zero, Int.mul_one], rfl⟩ ?_ ?_⟩
    · rintro j σ H' hj ⟨tu, rfl, rfl⟩
      refine ⟨_, rfl, _, rfl, _, _, rfl, rfl, mulS (by omega) (by omega), some (.int (0 + (j : Int))), ?_, rfl⟩
      rw [Int.pow_succ, ← Int.mul_assoc]
      rfl
    · rintro σ H' ⟨tu, rfl, rfl⟩
      refine ⟨some (.int p), some (.int o), tu, ?_, rfl⟩
      rw [root_more hx]
  · rintro σ H2 ⟨pr, of, tu, rfl, rfl⟩
    have e : xs.take (rs.map V.ref).length = xs := by rw [List.length_map, tl.len, List.take_length]
    rw [e]
    exact ⟨_, rfl, _, rfl, (by show 2 ≤ sizeLine; decide), fun p hp => q p xs _ (g1.trans (same_new hp _)) told upd_same⟩

theorem ok_churn {f : Addr} {fd : FuncData} (F : Fun K "_law_churn" "_law_churn" s_churn f fd) (T : Txt K mg t)  : FnOk P w K mg base CX0 1 f fd ["_law_cell", "_law_turn"] (spChurn) := by
  refine F.ok sc_churn (fun vs H Q E h => ?_) (fun cdv A outer s H vs Q E hr h => ?_)
  · obtain ⟨_, _, rfl, _⟩ := h
    rfl
  obtain ⟨c, t, rfl, t0, t1, q⟩ := h
  refine ⟨_, pss_cons (ps_set (i := 2) sc_churn.nd rfl (Or.inl rfl) (pe_op op_add (pe_op op_mod (pv 0) pe_int) pe_int))
    (pss_cons (ps_for PassesOwn.never rfl (pi_range1 rfl T.z_range (pa_cons (pe_op op_add (pe_op op_mod (pv 1) pe_int) pe_int) pa_nil)) (pg_name (i := 3) sc_churn.nd rfl (Or.inl rfl)) (pss_cons (ps_set (i := 4) sc_churn.nd rfl (Or.inl rfl) (pe_op op_mulG (pe_op op_mod (pe_op op_mulG (pv 2) (pv 2)) pe_int) (pe_op op_add (pv 1) pe_int)))
    (pss_one (ps_set (i := 2) sc_churn.nd rfl (Or.inl rfl) (pe_op op_mod (pe_op op_add (pe_op op_add (pe_op op_add (pv 4) (pe_op op_mulG pe_int (pv 2))) (pe_op op_mulG pe_int (pv 3))) (pv 1)) pe_int)))))
    (pss_one (ps_ret (pv 2)))), ?_⟩
  refine ⟨_, rfl, _, _, rfl, rfl, (by show (0 : Int) < 2147483563; decide), _, _, rfl, rfl, ?_⟩
  refine ⟨_, rfl, _, _, rfl, rfl, (by show (0 : Int) < 5; decide), _, _, rfl, rfl, t % 5 + 2, rfl, by omega, by omega, ?_⟩
  refine for_range (fun i σ H' => ∃ (x : Int) (k y : Option V), σ = [some (.int c), some (.int t), some (.int x), k, y] ∧ H = H' ∧ 0 ≤ x ∧ x ≤ 2147483563) ⟨c % 2147483563 + 1, none, none, rfl, rfl, by omega, by omega⟩ ?_ ?_
  · rintro i σ H' hi ⟨x, k, y, rfl, rfl, x0, x1⟩
    refine ⟨_, rfl, _, rfl, _, _, rfl, rfl, mulS (by omega) (by omega), _, _, rfl, rfl, (by show (0 : Int) < 2147483563; decide), _, rfl, _, _, rfl, rfl, _, _, rfl, rfl, mulS (by omega) (by omega), ?_⟩
    refine ⟨_, rfl, _, rfl, _, _, rfl, rfl, mulS (by omega) (by omega), _, _, rfl, rfl, _, rfl, _, _, rfl, rfl, IntMulOk.of_left (intBits_le_64 (by decide) (by decide)), _, _, rfl, rfl, _, rfl, _, _, rfl, rfl, _, _, rfl, rfl, (by show (0 : Int) < 2147483563; decide), ?_⟩
    exact ⟨_, _, _, rfl, rfl, Int.emod_nonneg _ (by decide), Int.le_of_lt (Int.emod_lt_of_pos _ (by decide))⟩
  · rintro σ H' ⟨x, k, y, rfl, rfl, x0, x1⟩
    exact ⟨_, rfl, q x x0 x1⟩
theorem ok_primes {f : Addr} {fd : FuncData} (F : Fun K "_law_primes" "_law_primes" s_primes f fd) (T : Txt K mg t)  : FnOk P w K mg base CX0 1 f fd [] (spPrimes) := by
  refine F.ok sc_primes (fun vs H Q E h => ?_) (fun cdv A outer s H vs Q E hr h => ?_)
  · obtain ⟨rfl, _⟩ := h
    rfl
  obtain ⟨rfl, q⟩ := h
  obtain ⟨es, es2, p1, p2, p3, q2, q3, q4, q5, hes, hes2, e⟩ : ∃ (es es2 : List Expr) (p1 p2 p3 q2 q3 q4 q5 : Pos), IntsE es Pa ∧ IntsE es2 Pb ∧ defBody s_primes = [.Assign [.Name "_law_some" p1] (.List es p2) p3, .Return (some (.BinOp (.Name "_law_some" q2) .Add (.List es2 q3) q4)) q5] :=
    ⟨_, _, _, _, _, _, _, _, _, (.cons (.cons (.cons (.cons (.cons (.cons (.cons (.cons (.cons (.cons (.cons (.cons .nil)))))))))))), (.cons (.cons (.cons (.cons (.cons (.cons (.cons (.cons .nil)))))))), rfl⟩
  rw [e]
  refine ⟨_, pss_cons (ps_set (i := 0) sc_primes.nd rfl (Or.inl rfl) (pe_lst (pa_ints hes))) (pss_one (ps_ret (pe_op op_cat (pv 0) (pe_lst (pa_ints hes2))))), ?_⟩
  refine ⟨(by show 12 ≤ sizeLine; decide), fun a1 h1 => ?_⟩
  refine ⟨_, rfl, (by show 8 ≤ sizeLine; decide), fun a2 h2 => ?_⟩
  have g1 := same_new h1 (.lst (Pa.map V.int))
  have g2 := same_new h2 (.lst (Pb.map V.int))
  refine ⟨a1, a2, _, _, rfl, rfl, g2 _ _ upd_same, upd_same, (by show 20 ≤ sizeLine; decide), fun a3 h3 => ?_⟩
  have g3 := same_new h3 (.lst (Pa.map V.int ++ Pb.map V.int))
  exact q a3 _ ((g1.trans g2).trans g3) ((g1.trans g2).free h3) upd_same
theorem ok_plain {f : Addr} {fd : FuncData} (F : Fun K "_law_plain" "_law_plain" s_plain f fd) (T : Txt K mg t) (H_primes : Has P w K mg base CX0 1 "_law_primes" [] (spPrimes)) (H_churn : Has P w K mg base CX0 1 "_law_churn" ["_law_cell", "_law_turn"] (spChurn)) (H_cell_at : Has P w K mg base CX0 1 "_law_cell_at" ["_law_script", "_law_k"] (spCell K)) : FnOk P w K mg base CX0 2 f fd ["_law_script", "_law_start", "_law_many", "_law_most"] (spLPlain15 K) := by
  obtain ⟨f_primes, d_primes, G_primes, b_primes, k_primes, m_primes⟩ := H_primes
  obtain ⟨f_churn, d_churn, G_churn, b_churn, k_churn, m_churn⟩ := H_churn
  obtain ⟨f_cell_at, d_cell_at, G_cell_at, b_cell_at, k_cell_at, m_cell_at⟩ := H_cell_at
  refine F.ok sc_plain (fun vs H Q E h => ?_) (fun cdv A outer s H vs Q E hr h => ?_)
  · obtain ⟨_, _, _, rfl, _⟩ := h
    rfl
  obtain ⟨a, ns, M, rfl, hS, M0, M1, q⟩ := h
  have hr_primes := hr.mono (show 1 ≤ 1 by decide)
  have hr_churn := hr.mono (show 1 ≤ 1 by decide)
  have hr_cell_at := hr.mono (show 1 ≤ 1 by decide)
  refine ⟨_, pss_cons (ps_set (i := 4) sc_plain.nd rfl (Or.inl rfl) (pe_lst (pa_cons pe_int (pa_cons pe_int (pa_cons pe_int pa_nil)))))
    (pss_cons (ps_set (i := 5) sc_plain.nd rfl (Or.inl rfl) (pe_lst (pa_cons (pe_lst pa_nil) (pa_cons (pe_lst pa_nil) (pa_cons (pe_lst pa_nil) pa_nil)))))
    (pss_cons (ps_set (i := 6) sc_plain.nd rfl (Or.inl rfl) (pe_call0 G_primes hr_primes rfl m_primes k_primes b_primes .nil pass0))
    (pss_cons (ps_for PassesOwn.never rfl (pi_range1 rfl T.z_range (pa_cons (pv 2) pa_nil)) (pg_name (i := 7) sc_plain.nd rfl (Or.inl rfl)) (pss_cons (ps_set (i := 9) sc_plain.nd rfl (Or.inl rfl) (pe_op op_mod (pe_call G_churn hr_churn rfl m_churn k_churn b_churn .nil pass0 (pa_cons (pe_call G_cell_at hr_cell_at rfl m_cell_at k_cell_at b_cell_at .nil pass0 (pa_cons (pv 0) (pa_cons (pe_op op_add (pv 1) (pe_op op_mod (pv 7) pe_int)) pa_nil))) (pa_cons (pe_op op_add (pv 7) pe_int) pa_nil))) pe_int))
    (pss_one (ps_if (PW.pt (pw_and (pt_cmpR op_lt (pv 9) pe_int (nomark _)) (pw_and1 (pt_cmpR op_le (pe_op op_mulG (pe_ix ix_list (pv 4) (pv 9) (fun _ _ => rfl)) (pe_ix ix_list (pv 6) (pv 7) (fun _ _ => rfl))) (pv 3) (nomark _))))) (pss_cons (ps_asg (pe_op op_mulG (pe_ix ix_list (pv 4) (pv 9) (fun _ _ => rfl)) (pe_ix ix_list (pv 6) (pv 7) (fun _ _ => rfl))) (pg_sub (pv 4) (pv 9) set_list))
    (pss_one (ps_expr (pe_bm PySem.F.plainAttrs_list PySem.F.slot_list_append PySem.F.type_list_append mt_append (pe_ix ix_list (pv 5) (pv 9) (fun _ _ => rfl)) (pa_cons (pe_ix ix_list (pv 6) (pv 7) (fun _ _ => rfl)) pa_nil))))) pss_nil))))
    (pss_cons (ps_set (i := 8) sc_plain.nd rfl (Or.inl rfl) (pe_call G_churn hr_churn rfl m_churn k_churn b_churn .nil pass0 (pa_cons (pe_call G_cell_at hr_cell_at rfl m_cell_at k_cell_at b_cell_at .nil pass0 (pa_cons (pv 0) (pa_cons (pv 1) pa_nil))) (pa_cons pe_int pa_nil))))
    (pss_cons (ps_for PassesOwn.never rfl (pi_range1 rfl T.z_range (pa_cons pe_int pa_nil)) (pg_name (i := 9) sc_plain.nd rfl (Or.inl rfl)) (pss_one (ps_if (pt_cmpR op_eq (pe_op op_mod (pe_op op_fdivL (pv 8) (pe_ix ix_list (pe_lst (pa_cons pe_int (pa_cons pe_int (pa_cons pe_int pa_nil)))) (pv 9) (fun _ _ => rfl))) pe_int) pe_int (nomark _)) (pss_one (ps_asg (pe_op op_sub pe_int (pe_ix ix_list (pv 4) (pv 9) (fun _ _ => rfl))) (pg_sub (pv 4) (pv 9) set_list))) pss_nil)))
    (pss_one (ps_ret (pe_tup (pa_cons (pv 4) (pa_cons (pv 5) pa_nil)))))))))), ?_⟩
  refine ⟨(by show 3 ≤ sizeLine; decide), fun l hl => ?_⟩
  refine ⟨(by show 0 ≤ sizeLine; decide), fun q0 h0 => ⟨(by show 0 ≤ sizeLine; decide), fun q1 h1 => ⟨(by show 0 ≤ sizeLine; decide), fun q2 h2 => ⟨(by show 3 ≤ sizeLine; decide), fun m hm => ?_⟩⟩⟩⟩
  have g1 := same_new hl (.lst [.int 1, .int 1, .int 1])
  have g2 := same_new h0 (.lst [])
  have g3 := same_new h1 (.lst [])
  have g4 := same_new h2 (.lst [])
  have g5 := same_new hm (.lst [.ref q0, .ref q1, .ref q2])
  have K0 : Hs H _ l m q0 q1 q2 1 1 1 [] [] [] := {
    same := g1.trans (g2.trans (g3.trans (g4.trans g5)))
    hl := (g2.trans (g3.trans (g4.trans g5))) _ _ upd_same
    hm := upd_same
    h0 := (g3.trans (g4.trans g5)) _ _ upd_same
    h1 := (g4.trans g5) _ _ upd_same
    h2 := g5 _ _ upd_same
    fl := hl
    f0 := g1.free h0
    f1 := g1.free (g2.free h1)
    f2 := g1.free (g2.free (g3.free h2))
    lm := (ne_of_none ((g2.trans (g3.trans g4)) _ _ upd_same) hm).symm
    l0 := (ne_of_none upd_same h0).symm
    l1 := (ne_of_none (g2 _ _ upd_same) h1).symm
    l2 := (ne_of_none ((g2.trans g3) _ _ upd_same) h2).symm
    m0 := ne_of_none ((g3.trans g4) _ _ upd_same) hm
    m1 := ne_of_none (g4 _ _ upd_same) hm
    m2 := ne_of_none upd_same hm
    d01 := ne_of_none upd_same h1
    d02 := ne_of_none (g3 _ _ upd_same) h2
    d12 := ne_of_none upd_same h2 }
  refine ⟨rfl, fun sa H6 g6 hn6 h6 => ?_⟩
  have sl := ne_of_none K0.hl hn6
  have s0 := ne_of_none K0.h0 hn6
  have s1 := ne_of_none K0.h1 hn6
  have s2 := ne_of_none K0.h2 hn6
  refine ⟨_, rfl, 20, rfl, by decide, by decide, for_range (fun i σ H' => ∃ (n0 n1 n2 : Int) (p0 p1 p2 : List Int) (x7 x9 : Option V), σ = [some (.ref a), some (.int 3), some (.int 20), some (.int M), some (.ref l), some (.ref m), some (.ref sa), x7, none, x9] ∧ Hs H H' l m q0 q1 q2 n0 n1 n2 p0 p1 p2 ∧ H' sa = some (.lst (P20.map V.int)) ∧ Bd3 i M n0 n1 n2 p0 p1 p2 ∧ 0 < n0 ∧ 0 < n1 ∧ 0 < n2) ⟨1, 1, 1, [], [], [], none, none, rfl, K0.grow g6, h6, ⟨M0, M0, M0, Nat.le_refl _, Nat.le_refl _, Nat.le_refl _⟩, by decide, by decide, by decide⟩ ?_ ?_⟩
  · rintro i σ H' hi ⟨n0, n1, n2, p0, p1, p2, x7, x9, rfl, K1, hsa, md, b0, b1, b2⟩
    have i18 : i < 20 := hi
    obtain ⟨z0, z1⟩ := step20 i i18
    refine ⟨_, rfl, _, rfl, _, rfl, _, _, rfl, rfl, (by show (0 : Int) < 20; decide), _, _, rfl, rfl, a, ns, _, rfl, K1.same.seq hS, (by show 0 ≤ 3 + (0 + (i : Int)) % 20; omega), _, rfl, _, _, rfl, rfl, _, _, rfl, (by show 0 ≤ 0 + (i : Int) + 1; omega), (by show 0 + (i : Int) + 1 ≤ 100; omega), fun x x0 x1 => ⟨_, _, rfl, rfl, (by show (0 : Int) < 7; decide), ?_⟩⟩
    have hz18 := at20 i18
    generalize P20.getD i 0 = z at *
    have l0 := line20 (Nat.le_trans md.l0 (by omega))
    have l1 := line20 (Nat.le_trans md.l1 (by omega))
    have l2 := line20 (Nat.le_trans md.l2 (by omega))
    have x7' : 0 ≤ x % 7 := by omega
    refine ⟨_, rfl, _, _, rfl, rfl, _, rfl, ite2 (fun c1 => ?_) (fun c1 => ?_)⟩
    · have v3 : x % 7 < 3 := decT c1
      have hv3 : x % 7 = 0 ∨ x % 7 = 1 ∨ x % 7 = 2 := by omega
      rcases hv3 with e3 | e3 | e3
      · refine ⟨_, rfl, _, rfl, l, _, _, _, rfl, rfl, SqL.of K1.hl, atI0 e3, _, rfl, _, rfl, sa, _, _, _, rfl, rfl, SqL.of hsa, hz18, _, _, rfl, rfl, mulS (by omega) (by omega), _, rfl, _, _, rfl, rfl, _, rfl, ?_⟩
        refine ite2 (fun c2 => ?_) (fun c2 => ?_)
        · have f1 : n0 * z ≤ M := decT c2
          refine ⟨_, rfl, _, rfl, l, _, _, _, rfl, rfl, SqL.of K1.hl, atI0 e3, _, rfl, _, rfl, sa, _, _, _, rfl, rfl, SqL.of hsa, hz18, _, _, rfl, rfl, mulS (by omega) (by omega), _, rfl, _, rfl, l, _, _, 0, rfl, rfl, K1.hl, ixN0 e3, ?_⟩
          have K2 := K1.setn (n0 * z) n1 n2
          have hsa2 : upd H' l (.lst [.int (n0 * z), .int n1, .int n2]) sa = some (.lst (P20.map V.int)) := by rw [upd_ne sl.symm]; exact hsa
          refine ⟨_, rfl, _, rfl, m, _, _, _, rfl, rfl, SqL.of K2.hm, atI0 e3, .inl ⟨rfl, _, SqL.of K2.h0⟩, _, rfl, _, rfl, sa, _, _, _, rfl, rfl, SqL.of hsa2, hz18, q0, _, _, rfl, rfl, K2.h0, (by rw [List.length_map]; exact l0), ?_⟩
          exact ⟨_, _, _, _, _, _, _, _, rfl, K2.app0 z, (by rw [upd_ne s0.symm]; exact hsa2), ⟨(by rw [absI_pos (Int.mul_pos b0 (by omega))]; exact f1), md.k1, md.k2, len_snoc md.l0, Nat.le_succ_of_le md.l1, Nat.le_succ_of_le md.l2⟩, Int.mul_pos b0 (by omega), b1, b2⟩
        · exact ⟨_, _, _, _, _, _, _, _, rfl, K1, hsa, md.mono, b0, b1, b2⟩
      · refine ⟨_, rfl, _, rfl, l, _, _, _, rfl, rfl, SqL.of K1.hl, atI1 e3, _, rfl, _, rfl, sa, _, _, _, rfl, rfl, SqL.of hsa, hz18, _, _, rfl, rfl, mulS (by omega) (by omega), _, rfl, _, _, rfl, rfl, _, rfl, ?_⟩
        refine ite2 (fun c2 => ?_) (fun c2 => ?_)
        · have f1 : n1 * z ≤ M := decT c2
          refine ⟨_, rfl, _, rfl, l, _, _, _, rfl, rfl, SqL.of K1.hl, atI1 e3, _, rfl, _, rfl, sa, _, _, _, rfl, rfl, SqL.of hsa, hz18, _, _, rfl, rfl, mulS (by omega) (by omega), _, rfl, _, rfl, l, _, _, 1, rfl, rfl, K1.hl, ixN1 e3, ?_⟩
          have K2 := K1.setn n0 (n1 * z) n2
          have hsa2 : upd H' l (.lst [.int n0, .int (n1 * z), .int n2]) sa = some (.lst (P20.map V.int)) := by rw [upd_ne sl.symm]; exact hsa
          refine ⟨_, rfl, _, rfl, m, _, _, _, rfl, rfl, SqL.of K2.hm, atI1 e3, .inl ⟨rfl, _, SqL.of K2.h1⟩, _, rfl, _, rfl, sa, _, _, _, rfl, rfl, SqL.of hsa2, hz18, q1, _, _, rfl, rfl, K2.h1, (by rw [List.length_map]; exact l1), ?_⟩
          exact ⟨_, _, _, _, _, _, _, _, rfl, K2.app1 z, (by rw [upd_ne s1.symm]; exact hsa2), ⟨md.k0, (by rw [absI_pos (Int.mul_pos b1 (by omega))]; exact f1), md.k2, Nat.le_succ_of_le md.l0, len_snoc md.l1, Nat.le_succ_of_le md.l2⟩, b0, Int.mul_pos b1 (by omega), b2⟩
        · exact ⟨_, _, _, _, _, _, _, _, rfl, K1, hsa, md.mono, b0, b1, b2⟩
      · refine ⟨_, rfl, _, rfl, l, _, _, _, rfl, rfl, SqL.of K1.hl, atI2 e3, _, rfl, _, rfl, sa, _, _, _, rfl, rfl, SqL.of hsa, hz18, _, _, rfl, rfl, mulS (by omega) (by omega), _, rfl, _, _, rfl, rfl, _, rfl, ?_⟩
        refine ite2 (fun c2 => ?_) (fun c2 => ?_)
        · have f1 : n2 * z ≤ M := decT c2
          refine ⟨_, rfl, _, rfl, l, _, _, _, rfl, rfl, SqL.of K1.hl, atI2 e3, _, rfl, _, rfl, sa, _, _, _, rfl, rfl, SqL.of hsa, hz18, _, _, rfl, rfl, mulS (by omega) (by omega), _, rfl, _, rfl, l, _, _, 2, rfl, rfl, K1.hl, ixN2 e3, ?_⟩
          have K2 := K1.setn n0 n1 (n2 * z)
          have hsa2 : upd H' l (.lst [.int n0, .int n1, .int (n2 * z)]) sa = some (.lst (P20.map V.int)) := by rw [upd_ne sl.symm]; exact hsa
          refine ⟨_, rfl, _, rfl, m, _, _, _, rfl, rfl, SqL.of K2.hm, atI2 e3, .inl ⟨rfl, _, SqL.of K2.h2⟩, _, rfl, _, rfl, sa, _, _, _, rfl, rfl, SqL.of hsa2, hz18, q2, _, _, rfl, rfl, K2.h2, (by rw [List.length_map]; exact l2), ?_⟩
          exact ⟨_, _, _, _, _, _, _, _, rfl, K2.app2 z, (by rw [upd_ne s2.symm]; exact hsa2), ⟨md.k0, md.k1, (by rw [absI_pos (Int.mul_pos b2 (by omega))]; exact f1), Nat.le_succ_of_le md.l0, Nat.le_succ_of_le md.l1, len_snoc md.l2⟩, b0, b1, Int.mul_pos b2 (by omega)⟩
        · exact ⟨_, _, _, _, _, _, _, _, rfl, K1, hsa, md.mono, b0, b1, b2⟩
    · exact ⟨_, _, _, _, _, _, _, _, rfl, K1, hsa, md.mono, b0, b1, b2⟩
  · rintro σ H' ⟨n0, n1, n2, p0, p1, p2, x7, x9, rfl, K1, hsa, md, b0, b1, b2⟩
    refine ⟨_, rfl, _, rfl, a, ns, 3, rfl, K1.same.seq hS, by decide, _, _, rfl, by decide, by decide, fun s s0 s1 => ?_⟩
    refine ⟨3, rfl, by decide, by decide, for_range (fun i σ H' => ∃ (n0 n1 n2 : Int) (x9 : Option V), σ = [some (.ref a), some (.int 3), some (.int 20), some (.int M), some (.ref l), some (.ref m), some (.ref sa), x7, some (.int s), x9] ∧ Hs H H' l m q0 q1 q2 n0 n1 n2 p0 p1 p2 ∧ Bd3 20 M n0 n1 n2 p0 p1 p2) ⟨n0, n1, n2, _, rfl, K1, md⟩ ?_ ?_⟩
    · clear md K1 b0 b1 b2
      rintro i σ H2 hi ⟨n0, n1, n2, x9, rfl, K1, md⟩
      have i3 : i < 3 := hi
      have hi3 : i = 0 ∨ i = 1 ∨ i = 2 := by omega
      refine ⟨_, rfl, (by show 3 ≤ sizeLine; decide), fun w hw => ?_⟩
      have K2 := K1.grow (same_new hw (.lst [.int 1, .int 2, .int 4]))
      rcases hi3 with rfl | rfl | rfl
      · refine ⟨_, rfl, w, _, _, _, rfl, rfl, SqL.of upd_same, rfl, _, _, rfl, rfl, ⟨by decide, by decide⟩, _, _, rfl, rfl, (by show (0 : Int) < 2; decide), rfl, _, rfl, ?_⟩
        refine ite2 (fun c2 => ?_) (fun c2 => ?_)
        · refine ⟨_, rfl, _, rfl, l, _, _, _, rfl, rfl, SqL.of K2.hl, rfl, _, _, rfl, rfl, _, rfl, _, rfl, l, _, _, 0, rfl, rfl, K2.hl, rfl, ?_⟩
          exact ⟨_, _, _, _, rfl, K2.setn (0 - n0) n1 n2, { md with k0 := by rw [absI_neg]; exact md.k0 }⟩
        · exact ⟨_, _, _, _, rfl, K2, md⟩
      · refine ⟨_, rfl, w, _, _, _, rfl, rfl, SqL.of upd_same, rfl, _, _, rfl, rfl, ⟨by decide, by decide⟩, _, _, rfl, rfl, (by show (0 : Int) < 2; decide), rfl, _, rfl, ?_⟩
        refine ite2 (fun c2 => ?_) (fun c2 => ?_)
        · refine ⟨_, rfl, _, rfl, l, _, _, _, rfl, rfl, SqL.of K2.hl, rfl, _, _, rfl, rfl, _, rfl, _, rfl, l, _, _, 1, rfl, rfl, K2.hl, rfl, ?_⟩
          exact ⟨_, _, _, _, rfl, K2.setn n0 (0 - n1) n2, { md with k1 := by rw [absI_neg]; exact md.k1 }⟩
        · exact ⟨_, _, _, _, rfl, K2, md⟩
      · refine ⟨_, rfl, w, _, _, _, rfl, rfl, SqL.of upd_same, rfl, _, _, rfl, rfl, ⟨by decide, by decide⟩, _, _, rfl, rfl, (by show (0 : Int) < 2; decide), rfl, _, rfl, ?_⟩
        refine ite2 (fun c2 => ?_) (fun c2 => ?_)
        · refine ⟨_, rfl, _, rfl, l, _, _, _, rfl, rfl, SqL.of K2.hl, rfl, _, _, rfl, rfl, _, rfl, _, rfl, l, _, _, 2, rfl, rfl, K2.hl, rfl, ?_⟩
          exact ⟨_, _, _, _, rfl, K2.setn n0 n1 (0 - n2), { md with k2 := by rw [absI_neg]; exact md.k2 }⟩
        · exact ⟨_, _, _, _, rfl, K2, md⟩
    · rintro σ H2 ⟨n0, n1, n2, x9, rfl, K2, md⟩
      exact ⟨_, rfl, _, rfl, (by show 2 ≤ sizeLine; decide), fun t' ht => q t' _ l m _ _ _ (K2.same.trans (same_new ht _)) K2.fl ((same_new ht _) _ _ K2.hl) upd_same (sm6_abs md.k0 M1) (sm6_abs md.k1 M1) (sm6_abs md.k2 M1)⟩
theorem ok_is_without_squares {f : Addr} {fd : FuncData} (F : Fun K "is_without_squares" "is_without_squares" s_is_without_squares f fd) (T : Txt K mg t) (H_core_of : Has P w K mg base CX0 3 "core_of" ["number"] (spCore0)) : FnOk P w K mg base CX0 4 f fd ["number"] (spNoSqB) := by
  obtain ⟨f_core_of, d_core_of, G_core_of, b_core_of, k_core_of, m_core_of⟩ := H_core_of
  refine F.ok sc_is_without_squares (fun vs H Q E h => ?_) (fun cdv A outer s H vs Q E hr h => ?_)
  · obtain ⟨_, rfl, _⟩ := h
    rfl
  obtain ⟨n, rfl, n6, q⟩ := h
  have hr_core_of := hr.mono (show 3 ≤ 3 by decide)
  refine ⟨_, pss_one (ps_ret (pe_and (pe_cmpR op_ne (pv 0) pe_int (nomark _)) (pe_one (pe_cmpR op_eq (pe_ix ix_tup (pe_call G_core_of hr_core_of rfl m_core_of k_core_of b_core_of .nil pass0 (pa_cons (pv 0) pa_nil)) pe_int (fun _ _ => rfl)) pe_int (nomark _))))), ?_⟩
  unfold Sm6 at n6
  refine ⟨_, rfl, rfl, _, rfl, ite2 (fun c => ?_) (fun c => ?_)⟩
  · have n0 : n ≠ 0 := fun z => neT c (congrArg V.int z)
    refine ⟨_, rfl, n, rfl, n0, by omega, by omega, fun p xs H1 g1 told hp => ⟨p, _, _, _, rfl, rfl, SqT.of hp, rfl, rfl, ?_⟩⟩
    refine q _ _ g1 ⟨fun e => ⟨n0, fun p hp hd => ?_⟩, fun e => decide_eq_true (congrArg V.int (root_one told fun p hp z => e.2 p hp (abs_dvd.mp z)))⟩
    have r1 : Pr.rootP xs = 1 := int_inj (decT e)
    have cr := Pr.core_root told.all
    rw [r1, told.prod, Int.mul_one, Int.mul_one] at cr
    exact Pr.core_no_sq hp told.all told.rise (by rw [cr]; exact abs_dvd.mpr hd)
  · refine q _ H (Same.refl _) ⟨fun e => ?_, fun e => absurd (int_inj (neF c)) e.1⟩
    first | exact absurd e c | exact (Bool.false_ne_true e).elim
theorem ok_is_plain {f : Addr} {fd : FuncData} (F : Fun K "is_plain" "is_plain" s_is_plain f fd) (T : Txt K mg t) (H_is_without_squares : Has P w K mg base CX0 4 "is_without_squares" ["number"] (spNoSqB)) (H_shares_of : Has P w K mg base CX0 2 "shares_of" ["one", "other"] (spShares)) : FnOk P w K mg base CX0 5 f fd ["a", "b", "c"] (spPlainB) := by
  obtain ⟨f_is_without_squares, d_is_without_squares, G_is_without_squares, b_is_without_squares, k_is_without_squares, m_is_without_squares⟩ := H_is_without_squares
  obtain ⟨f_shares_of, d_shares_of, G_shares_of, b_shares_of, k_shares_of, m_shares_of⟩ := H_shares_of
  refine F.ok sc_is_plain (fun vs H Q E h => ?_) (fun cdv A outer s H vs Q E hr h => ?_)
  · obtain ⟨_, _, _, rfl, _⟩ := h
    rfl
  obtain ⟨a, b, c, rfl, a6, b6, c6, q⟩ := h
  have hr_is_without_squares := hr.mono (show 4 ≤ 4 by decide)
  have hr_shares_of := hr.mono (show 2 ≤ 4 by decide)
  refine ⟨_, pss_cons (ps_if (pt_not (pt_val (pe_callB (call_all rfl) rfl T.z_all b_all (pa_cons (pe_compC rfl (CompScope.gen (cl := []) [] [] [(".0", .local), ("number", .local), ("is_without_squares", .globalImplicit)] rfl (by decide +kernel) (by decide +kernel) rfl rfl (by intro p hp; cases hp) rfl (by intro p hp h; simp only [List.mem_cons, List.not_mem_nil, or_false] at hp; rcases hp with rfl | rfl | rfl <;> first | rfl | (rcases h with h | h <;> cases h)) (by decide) (by decide +kernel) rfl (by intro p hp; cases hp)) (pi_tup (pe_tup (pa_cons (pv 0) (pa_cons (pv 1) (pa_cons (pv 2) pa_nil))))) (fun C s0 H0 fp pins => pe_call G_is_without_squares hr_is_without_squares rfl m_is_without_squares k_is_without_squares b_is_without_squares .nil pass0 (pa_cons (pv 0) pa_nil))) pa_nil)) (fun _ => rfl))) (pss_one (ps_ret pe_bl)) pss_nil)
    (pss_one (ps_ret (pe_callB (call_all rfl) rfl T.z_all b_all (pa_cons (pe_compPair rfl (CompScope2.gen (cl := []) [] [] [(".0", .local), ("one", .local), ("other", .local), ("shares_of", .globalImplicit)] rfl (by decide +kernel) (by decide +kernel) rfl rfl rfl (by intro p hp; cases hp) rfl (by intro p hp h; simp only [List.mem_cons, List.not_mem_nil, or_false] at hp; rcases hp with rfl | rfl | rfl | rfl <;> first | rfl | (rcases h with h | h <;> cases h)) (by decide) (by decide +kernel) rfl (by intro p hp; cases hp)) (pi_tup (pe_tup (pa_cons (pe_tup (pa_cons (pv 0) (pa_cons (pv 1) pa_nil))) (pa_cons (pe_tup (pa_cons (pv 1) (pa_cons (pv 2) pa_nil))) (pa_cons (pe_tup (pa_cons (pv 2) (pa_cons (pv 0) pa_nil))) pa_nil))))) (fun C s0 H0 fp pins => pe_cmpR op_eq (pe_ix (ixK_tup (K := K) rfl) (pe_call G_shares_of hr_shares_of rfl m_shares_of k_shares_of b_shares_of .nil pass0 (pa_cons (pv 0) (pa_cons (pv 1) pa_nil))) pe_int (fun _ _ => rfl)) pe_int (nomark _))) pa_nil)))), ?_⟩
  refine ⟨_, rfl, _, rfl, _, rfl, (by show 3 ≤ sizeLine; decide), fun p0 n0 => ?_⟩
  have f0 := same_new n0 (.tup [.int a, .int b, .int c])
  refine ⟨p0, rfl, ⟨_, SqT.of upd_same⟩, comp_tupF (xs := [.int a, .int b, .int c]) (SqT.of upd_same) (by show 3 < sizeLine; decide) sqB (fun H' g => SqT.of (g _ _ upd_same)) ?_ ?_⟩
  · intro i x H' Q' ex g k
    obtain ⟨n, rfl, hn⟩ := get3i ex
    have h2 : Sm6 n := hn.elim (fun e => e ▸ a6) fun e => e.elim (fun e => e ▸ b6) fun e => e ▸ c6
    refine ⟨_, rfl, n, rfl, h2, fun t H2 g2 ht => ?_⟩
    have kk := k H2 g2
    rw [show sqB (.int n) = .bl t from congrArg V.bl (bS_eq ht)] at kk
    exact kk
  intro l1 H1 g1 _ hl1
  refine ⟨l1, [bS a, bS b, bS c], rfl, hl1, _, rfl, ?_⟩
  by_cases hs : SqF a ∧ SqF b ∧ SqF c
  · refine iteNE (all3.mpr ⟨bS_iff.mpr hs.1, bS_iff.mpr hs.2.1, bS_iff.mpr hs.2.2⟩) ?_
    refine ⟨_, rfl, _, rfl, (by show 2 ≤ sizeLine; decide), fun m0 k0 => ⟨_, rfl, _, rfl, (by show 2 ≤ sizeLine; decide), fun m1 k1 => ⟨_, rfl, _, rfl, (by show 2 ≤ sizeLine; decide), fun m2 k2 => ⟨(by show 3 ≤ sizeLine; decide), fun m3 k3 => ?_⟩⟩⟩⟩
    have e0 := same_new k0 (.tup [.int a, .int b])
    have e1 := same_new k1 (.tup [.int b, .int c])
    have e2 := same_new k2 (.tup [.int c, .int a])
    have e3 := same_new k3 (.tup [.ref m0, .ref m1, .ref m2])
    have w0 := (e1.trans (e2.trans e3)) m0 _ upd_same
    have w1 := (e2.trans e3) m1 _ upd_same
    have w2 := e3 m2 _ upd_same
    have big : ∀ {n : Int}, Sm6 n → n.natAbs ≤ Lm := fun h => Nat.le_trans h (by rw [Lm_eq]; decide +kernel)
    refine ⟨m3, rfl, ⟨_, SqT.of upd_same⟩, compP_tupF (xs := [.ref m0, .ref m1, .ref m2]) (fun H' g => SqT.of (g _ _ upd_same)) (by show 3 < sizeLine; decide) (fun i => .int ([a, b, c].getD i 0)) (fun i => .int ([b, c, a].getD i 0)) (fun i => .bl ([bC a b, bC b c, bC c a].getD i false)) ?_ ?_ ?_⟩
    · intro i x e
      match i, e with
      | 0, e => exact ⟨m0, (Option.some.inj e).symm, w0⟩
      | 1, e => exact ⟨m1, (Option.some.inj e).symm, w1⟩
      | 2, e => exact ⟨m2, (Option.some.inj e).symm, w2⟩
      | n + 3, e => cases e
    · intro i H' Q' hi g k
      obtain ⟨x, y, ex, ey, hx, hy, x0, ec⟩ : ∃ x y : Int, [a, b, c].getD i 0 = x ∧ [b, c, a].getD i 0 = y ∧ Sm6 x ∧ Sm6 y ∧ x ≠ 0 ∧ [bC a b, bC b c, bC c a].getD i false = bC x y := by
        have hi3 : i < 3 := hi
        obtain rfl | rfl | rfl : i = 0 ∨ i = 1 ∨ i = 2 := by omega
        · exact ⟨a, b, rfl, rfl, a6, b6, hs.1.1, rfl⟩
        · exact ⟨b, c, rfl, rfl, b6, c6, hs.2.1.1, rfl⟩
        · exact ⟨c, a, rfl, rfl, c6, a6, hs.2.2.1, rfl⟩
      rw [ex, ey]
      refine ⟨_, rfl, _, rfl, x, y, rfl, big hx, big hy, fun z H2 gg s' t' g2 hz g0 eg ⟨u1, v1⟩ ⟨u2, v2⟩ _ _ => ⟨z, _, _, _, rfl, rfl, SqT.of hz, rfl, rfl, ?_⟩⟩
      have kk := k H2 g2
      have e : bC x y = decide (V.int gg = V.int 1) := bC_eq ⟨fun h => cop_of eg (int_inj (decT h)), fun h => decide_eq_true (congrArg V.int (gcd_one h x0 g0 ⟨u1, by rw [Int.mul_comm]; exact v1⟩ ⟨u2, by rw [Int.mul_comm]; exact v2⟩))⟩
      have fin : Q' (.bl (decide (V.int gg = V.int 1))) H2 := by
        rw [← e, ← ec]
        exact kk
      exact fin
    · intro l2 H2 g2 _ hl2
      refine ⟨l2, [bC a b, bC b c, bC c a], rfl, hl2, q _ _ (f0.trans (g1.trans (e0.trans (e1.trans (e2.trans (e3.trans g2)))))) ?_⟩
      rw [all3, bC_iff, bC_iff, bC_iff, pln_iff]
      exact ⟨fun h => ⟨hs, h⟩, fun h => h.2⟩
  · refine iteNF (Bool.eq_false_iff.mpr fun h => hs (by rw [all3, bS_iff, bS_iff, bS_iff] at h; exact h)) ?_
    exact q _ _ (f0.trans g1) ⟨fun z => (Bool.false_ne_true z).elim, fun P => absurd (pln_iff.mp P).1 hs⟩
theorem ok_bad_places {f : Addr} {fd : FuncData} (F : Fun K "bad_places" "bad_places" s_bad_places f fd) (T : Txt K mg t) (H_is_plain : Has P w K mg base CX0 5 "is_plain" ["a", "b", "c"] (spPlainB)) : FnOk P w K mg base (XF P w) 6 f fd ["a", "b", "c"] (spBadX15 t.c13) := by
  obtain ⟨f_is_plain, d_is_plain, G_is_plain, b_is_plain, k_is_plain, m_is_plain⟩ := H_is_plain
  refine F.okX sc_bad_places (fun vs H Q E h => ?_) (fun cdv A outer s H vs Q E hr h => ?_)
  · obtain ⟨_, _, _, rfl, _⟩ := h
    rfl
  obtain ⟨a, b, c, rfl, a6, b6, c6, np, q⟩ := h
  have hr_is_plain := hr.mono (show 5 ≤ 5 by decide)
  refine ⟨_, pss_cons (ps_if (pt_not (pt_val (pe_call G_is_plain hr_is_plain rfl m_is_plain k_is_plain b_is_plain .nil pass0 (pa_cons (pv 0) (pa_cons (pv 1) (pa_cons (pv 2) pa_nil)))) (fun _ => rfl))) (pss_one (ps_raise T.m_NotPlain T.x_NotPlain rfl (pa_cons pe_str pa_nil))) pss_nil)
    pss_never, ?_⟩
  refine ⟨_, rfl, _, rfl, _, rfl, a, b, c, rfl, a6, b6, c6, fun t H1 g1 ht => ⟨_, rfl, ?_⟩⟩
  refine iteNF (Bool.eq_false_iff.mpr fun h => np (ht.mp h)) ?_
  exact ⟨(by show 1 ≤ sizeLine; decide), q _ g1⟩
theorem ok_shared {f : Addr} {fd : FuncData} (F : Fun K "_law_shared" "_law_shared" s_shared f fd) (T : Txt K mg t)  : FnOk P w K mg base CX0 1 f fd ["_law_one", "_law_other"] (spShG) := by
  refine F.ok sc_shared (fun vs H Q E h => ?_) (fun cdv A outer s H vs Q E hr h => ?_)
  · obtain ⟨_, _, rfl, _⟩ := h
    rfl
  obtain ⟨x, y, rfl, q⟩ := h
  refine ⟨_, pss_cons (ps_while PassesOwn.never (pt_cmpR op_ne (pv 1) pe_int (nomark _)) (pss_one (ps_par (i := 0) (j := 1) rfl sc_shared.nd rfl rfl (by decide) rfl rfl (pa_cons (pv 1) (pa_cons (pe_op op_modN (pv 0) (pv 1)) pa_nil)) rfl)))
    (pss_one (ps_ret (pe_callB call_abs rfl T.z_abs b_abs (pa_cons (pv 0) pa_nil)))), ?_⟩
  refine ⟨fun m σ H' => ∃ (u v : Int), σ = [some (.int u), some (.int v)] ∧ H = H' ∧ (∀ d : Int, (d ∣ u ∧ d ∣ v) ↔ (d ∣ x ∧ d ∣ y)) ∧ m = v.natAbs, ⟨_, x, y, rfl, rfl, fun d => Iff.rfl, rfl⟩, ?_⟩
  rintro m σ H1 ⟨u, v, rfl, rfl, hd, rfl⟩
  refine ⟨_, rfl, rfl, _, rfl, ite2 (fun c => ?_) (fun c => ?_)⟩
  · have v0 : v ≠ 0 := fun z => neT c (congrArg V.int z)
    refine ⟨fun σ' H2 => σ' = [some (.int v), some (.int (u.fmod v))] ∧ H = H2, ?_, ?_⟩
    · rintro σ' H2 ⟨rfl, rfl⟩
      exact ⟨(u.fmod v).natAbs, fmod_lt v0, v, u.fmod v, rfl, rfl, fun d => fmod_dvd.trans (hd d), rfl⟩
    · exact ⟨_, rfl, _, rfl, _, rfl, _, _, rfl, rfl, v0, _, _, rfl, rfl, rfl⟩
  · have v0 : v = 0 := int_inj (neF c)
    subst v0
    have e : ∀ n : Int, (if n < 0 then -n else n) = (n.natAbs : Int) := fun n => by split <;> omega
    refine ⟨_, rfl, u, rfl, q _ ?_ fun d => ?_⟩
    · show 0 ≤ (if u < 0 then -u else u)
      split <;> omega
    · show d ∣ (if u < 0 then -u else u) ↔ _
      rw [e, Int.dvd_natAbs, ← hd d]
      exact ⟨fun h => ⟨h, Int.dvd_zero d⟩, fun h => h.1⟩
theorem ok_square_free {f : Addr} {fd : FuncData} (F : Fun K "_law_square_free" "_law_square_free" s_square_free f fd) (T : Txt K mg t)  : FnOk P w K mg base CX0 1 f fd ["_law_number"] (spSfL) := by
  refine F.ok sc_square_free (fun vs H Q E h => ?_) (fun cdv A outer s H vs Q E hr h => ?_)
  · obtain ⟨_, rfl, _⟩ := h
    rfl
  obtain ⟨n, rfl, n6, q⟩ := h
  unfold Sm6 at n6
  have fa : ∀ x : Int, (if x < 0 then -x else x) = (x.natAbs : Int) := fun x => by split <;> omega
  refine ⟨_, pss_cons (ps_set (i := 1) sc_square_free.nd rfl (Or.inl rfl) pe_int)
    (pss_cons (ps_while PassesOwn.never (pt_cmpR op_le (pe_op op_mulG (pv 1) (pv 1)) (pe_callB call_abs rfl T.z_abs b_abs (pa_cons (pv 0) pa_nil)) (nomark _)) (pss_cons (ps_if (pt_cmpR op_eq (pe_op op_mod (pv 0) (pe_op op_mulG (pv 1) (pv 1))) pe_int (nomark _)) (pss_one (ps_ret pe_bl)) pss_nil)
    (pss_one (ps_set (i := 1) sc_square_free.nd rfl (Or.inl rfl) (pe_op op_add (pv 1) pe_int)))))
    (pss_one (ps_ret (pe_cmpR op_ne (pv 0) pe_int (nomark _))))), ?_⟩
  refine ⟨fun u σ H' => ∃ k : Int, σ = [some (.int n), some (.int k)] ∧ H = H' ∧ 2 ≤ k ∧ k ≤ 1001 ∧ (∀ d : Int, 2 ≤ d → d < k → ¬ d * d ∣ n) ∧ u = (1001 - k).toNat, ⟨_, 2, rfl, rfl, by decide, by decide, fun d h1 h2 => by omega, rfl⟩, ?_⟩
  rintro u σ H1 ⟨k, rfl, rfl, k2, kb, hd, rfl⟩
  refine ⟨_, rfl, _, rfl, _, _, rfl, rfl, IntMulOk.of_right (intBits_le_64 (by omega) (by omega)), _, rfl, n, rfl, _, _, rfl, rfl, _, rfl, ?_⟩
  have h4 := Int.mul_le_mul (show (2 : Int) ≤ k by omega) (show (2 : Int) ≤ k by omega) (by decide) (by omega)
  refine ite2 (fun c => ?_) (fun c => ?_)
  · have c' : k * k ≤ (if n < 0 then -n else n) := decT c
    rw [fa] at c'
    have k1000 : k ≤ 1000 := by
      by_cases z : k ≤ 1000
      · exact z
      · have := Int.mul_le_mul (show (1001 : Int) ≤ k by omega) (show (1001 : Int) ≤ k by omega) (by decide) (by omega)
        omega
    have kk : 0 < k * k := by omega
    refine ⟨fun σ' H2 => σ' = [some (.int n), some (.int (k + 1))] ∧ H = H2 ∧ ¬ k * k ∣ n, ?_, ?_⟩
    · rintro _ _ ⟨rfl, rfl, nd⟩
      refine ⟨(1001 - (k + 1)).toNat, by omega, k + 1, rfl, rfl, by omega, by omega, fun d d2 dk dd => ?_, rfl⟩
      by_cases z : d = k
      · exact nd (z ▸ dd)
      · exact hd d d2 (by omega) dd
    refine ⟨_, rfl, _, rfl, _, rfl, _, _, rfl, rfl, IntMulOk.of_right (intBits_le_64 (by omega) (by omega)), _, _, rfl, rfl, kk, rfl, _, rfl, ?_⟩
    refine ite2 (fun e => ?_) (fun e => ?_)
    · have e0 : k * k ∣ n := Int.dvd_of_emod_eq_zero (int_inj (decT e))
      refine q _ ⟨fun z => (Bool.false_ne_true z).elim, fun z => ?_⟩
      obtain ⟨p, hp, pk⟩ := prm_of k2
      exact absurd (Int.dvd_trans (Int.mul_dvd_mul pk pk) e0) (z.2 p hp)
    · have e0 : ¬ k * k ∣ n := fun d => decF e (congrArg V.int (Int.emod_eq_zero_of_dvd d))
      exact ⟨_, rfl, _, _, rfl, rfl, rfl, rfl, e0⟩
  · have c' : ¬ k * k ≤ (if n < 0 then -n else n) := decF c
    rw [fa] at c'
    refine ⟨_, rfl, rfl, q _ ⟨fun e => ⟨fun z => neT e (congrArg V.int z), fun p hp dd => ?_⟩, fun e => ?_⟩⟩
    · have n0 : n ≠ 0 := fun z => neT e (congrArg V.int z)
      have p2 := hp.two
      by_cases z : p < k
      · exact hd p p2 z dd
      · have h1 := Nat.le_of_dvd (by omega) (Int.natAbs_dvd_natAbs.mpr dd)
        have h2 := Int.mul_le_mul (show k ≤ p by omega) (show k ≤ p by omega) (by omega) (by omega)
        omega
    · show (!decide (V.int n = V.int 0)) = true
      rw [decide_eq_false (fun z => e.1 (int_inj z))]
      rfl
theorem ok_spoilt {f : Addr} {fd : FuncData} (F : Fun K "_law_spoilt" "_law_spoilt" s_spoilt f fd) (T : Txt K mg t) (H_churn : Has P w K mg base CX0 1 "_law_churn" ["_law_cell", "_law_turn"] (spChurn)) (H_primes : Has P w K mg base CX0 1 "_law_primes" [] (spPrimes)) (H_shared : Has P w K mg base CX0 1 "_law_shared" ["_law_one", "_law_other"] (spShG)) : FnOk P w K mg base CX0 2 f fd ["_law_numbers", "_law_cell"] (spSpoil) := by
  obtain ⟨f_churn, d_churn, G_churn, b_churn, k_churn, m_churn⟩ := H_churn
  obtain ⟨f_primes, d_primes, G_primes, b_primes, k_primes, m_primes⟩ := H_primes
  obtain ⟨f_shared, d_shared, G_shared, b_shared, k_shared, m_shared⟩ := H_shared
  refine F.ok sc_spoilt (fun vs H Q E h => ?_) (fun cdv A outer s H vs Q E hr h => ?_)
  · obtain ⟨_, _, _, _, _, _, rfl, _⟩ := h
    rfl
  obtain ⟨B, p, a, b, c, k, rfl, g0, np, hp, a6, b6, c6, q⟩ := h
  have hr_churn := hr.mono (show 1 ≤ 1 by decide)
  have hr_primes := hr.mono (show 1 ≤ 1 by decide)
  have hr_shared := hr.mono (show 1 ≤ 1 by decide)
  refine ⟨_, pss_cons (ps_set (i := 2) sc_spoilt.nd rfl (Or.inl rfl) (pe_op op_mod (pe_call G_churn hr_churn rfl m_churn k_churn b_churn .nil pass0 (pa_cons (pv 1) (pa_cons pe_int pa_nil))) pe_int))
    (pss_cons (ps_set (i := 3) sc_spoilt.nd rfl (Or.inl rfl) (pe_op op_mod (pe_op op_add (pe_op op_add (pv 2) pe_int) (pe_op op_mod (pe_call G_churn hr_churn rfl m_churn k_churn b_churn .nil pass0 (pa_cons (pv 1) (pa_cons pe_int pa_nil))) pe_int)) pe_int))
    (pss_cons (ps_set (i := 4) sc_spoilt.nd rfl (Or.inl rfl) (pe_op op_mod (pe_call G_churn hr_churn rfl m_churn k_churn b_churn .nil pass0 (pa_cons (pv 1) (pa_cons pe_int pa_nil))) pe_int))
    (pss_cons (ps_set (i := 5) sc_spoilt.nd rfl (Or.inl rfl) pe_int)
    (pss_cut (ps_if (pt_cmpR op_eq (pv 4) pe_int (nomark _)) (pss_one (ps_set (i := 5) sc_spoilt.nd rfl (Or.inl rfl) (pe_ix ix_list (pe_call0 G_primes hr_primes rfl m_primes k_primes b_primes .nil pass0) (pe_op op_mod (pe_call G_churn hr_churn rfl m_churn k_churn b_churn .nil pass0 (pa_cons (pv 1) (pa_cons pe_int pa_nil))) pe_int) (fun _ _ => rfl)))) pss_nil)
    (pss_cut (ps_if (pt_cmpR op_eq (pv 4) pe_int (nomark _)) (pss_cons (ps_set (i := 6) sc_spoilt.nd rfl (Or.inl rfl) (pe_op op_add pe_int (pe_op op_mod (pe_call G_churn hr_churn rfl m_churn k_churn b_churn .nil pass0 (pa_cons (pv 1) (pa_cons pe_int pa_nil))) pe_int)))
    (pss_one (ps_set (i := 5) sc_spoilt.nd rfl (Or.inl rfl) (pe_op op_mulG (pv 6) (pv 6))))) pss_nil)
    (pss_cut (ps_if (pt_cmpR op_eq (pv 4) pe_int (nomark _)) (pss_one (ps_set (i := 5) sc_spoilt.nd rfl (Or.inl rfl) (pe_call G_shared hr_shared rfl m_shared k_shared b_shared .nil pass0 (pa_cons (pe_ix ix_list (pv 0) (pv 3) (fun _ _ => rfl)) (pa_cons pe_int pa_nil))))) pss_nil)
    (pss_cut (ps_if (pt_cmpR op_eq (pv 4) pe_int (nomark _)) (pss_one (ps_set (i := 5) sc_spoilt.nd rfl (Or.inl rfl) pe_int)) pss_nil)
    (pss_cut (ps_if (pt_cmpR op_le (pe_callB call_abs rfl T.z_abs b_abs (pa_cons (pe_op op_mulG (pe_ix ix_list (pv 0) (pv 2) (fun _ _ => rfl)) (pv 5)) pa_nil)) (pe_op op_pow pe_int pe_int) (nomark _)) (pss_one (ps_asg (pe_op op_mulG (pe_ix ix_list (pv 0) (pv 2) (fun _ _ => rfl)) (pv 5)) (pg_sub (pv 0) (pv 2) set_list))) pss_nil)
    (pss_one (ps_ret (pv 0))))))))))), ?_⟩
  refine ⟨_, rfl, _, _, rfl, by decide, by decide, fun u u0 u1 => ⟨_, _, rfl, rfl, (by show (0 : Int) < 3; decide), ?_⟩⟩
  refine ⟨_, rfl, _, _, rfl, rfl, _, rfl, _, _, rfl, by decide, by decide, fun v v0 v1 => ⟨_, _, rfl, rfl, (by show (0 : Int) < 2; decide), _, _, rfl, rfl, _, _, rfl, rfl, (by show (0 : Int) < 3; decide), ?_⟩⟩
  refine ⟨_, rfl, _, _, rfl, by decide, by decide, fun w w0 w1 => ⟨_, _, rfl, rfl, (by show (0 : Int) < 6; decide), ?_⟩⟩
  have at0' := Int.emod_nonneg u (show (3 : Int) ≠ 0 by decide)
  have at1' := Int.emod_lt_of_pos u (show (0 : Int) < 3 by decide)
  have ot0 := Int.emod_nonneg (u % 3 + 1 + v % 2) (show (3 : Int) ≠ 0 by decide)
  have ot1 := Int.emod_lt_of_pos (u % 3 + 1 + v % 2) (show (0 : Int) < 3 by decide)
  have hp' : H p = some (.lst [.int a, .int b, .int c]) := hp
  refine ⟨fun σ' H' => ∃ by' : Int, σ' = [some (.ref p), some (.int k), some (.int (u % 3)), some (.int ((u % 3 + 1 + v % 2) % 3)), some (.int (w % 6)), some (.int by'), none] ∧ Same H H' ∧ 0 ≤ by' ∧ by' ≤ 30030, ?_, ?_⟩
  · refine ⟨_, rfl, rfl, _, rfl, ite2 (fun cc => ?_) (fun cc => ?_)⟩
    · refine ⟨rfl, fun sa H6 g6 hn6 h6 => ⟨_, rfl, _, _, rfl, by decide, by decide, fun x x0 x1 => ⟨_, _, rfl, rfl, (by show (0 : Int) < 20; decide), ?_⟩⟩⟩
      obtain ⟨z, ez, z0, z1⟩ := get20 (c := x)
      exact ⟨sa, _, _, _, rfl, rfl, SqL.of h6, ez, z, rfl, g6, by omega, by omega⟩
    · exact ⟨1, rfl, Same.refl _, by decide, by decide⟩
  rintro _ H1 ⟨by1, rfl, g1, b10, b11⟩
  refine ⟨fun σ' H' => ∃ (by' : Int) (x6 : Option V), σ' = [some (.ref p), some (.int k), some (.int (u % 3)), some (.int ((u % 3 + 1 + v % 2) % 3)), some (.int (w % 6)), some (.int by'), x6] ∧ H1 = H' ∧ 0 ≤ by' ∧ by' ≤ 30030, ?_, ?_⟩
  · refine ⟨_, rfl, rfl, _, rfl, ite2 (fun cc => ?_) (fun cc => ?_)⟩
    · refine ⟨_, rfl, _, _, rfl, by decide, by decide, fun x x0 x1 => ⟨_, _, rfl, rfl, (by show (0 : Int) < 29; decide), _, _, rfl, rfl, ?_⟩⟩
      have y0 := Int.emod_nonneg x (show (29 : Int) ≠ 0 by decide)
      have y1 := Int.emod_lt_of_pos x (show (0 : Int) < 29 by decide)
      have sq := Int.mul_le_mul (show 2 + x % 29 ≤ 30 by omega) (show 2 + x % 29 ≤ 30 by omega) (show 0 ≤ 2 + x % 29 by omega) (by decide)
      have sq0 := Int.mul_nonneg (show 0 ≤ 2 + x % 29 by omega) (show 0 ≤ 2 + x % 29 by omega)
      exact ⟨_, rfl, _, rfl, _, _, rfl, rfl, IntMulOk.of_right (intBits_le_64 (by show -(2 ^ 64) < 2 + x % 29; omega) (by show 2 + x % 29 < 2 ^ 64; omega)), (2 + x % 29) * (2 + x % 29), _, rfl, rfl, sq0, by omega⟩
    · exact ⟨by1, _, rfl, rfl, b10, b11⟩
  rintro _ _ ⟨by2, x6, rfl, rfl, b20, b21⟩
  have hp1 := g1 _ _ hp'
  refine ⟨fun σ' H' => ∃ (by' : Int), σ' = [some (.ref p), some (.int k), some (.int (u % 3)), some (.int ((u % 3 + 1 + v % 2) % 3)), some (.int (w % 6)), some (.int by'), x6] ∧ H1 = H' ∧ 0 ≤ by' ∧ by' ≤ 30030, ?_, ?_⟩
  · refine ⟨_, rfl, rfl, _, rfl, ite2 (fun cc => ?_) (fun cc => ?_)⟩
    · obtain ⟨n, en, _⟩ := at3s (a := a) (b := b) (c := c) ot0 ot1
      refine ⟨_, rfl, _, rfl, p, _, _, _, rfl, rfl, SqL.of hp1, en, n, 30030, rfl, fun g g0' hg => ⟨g, rfl, rfl, g0', ?_⟩⟩
      exact Int.le_of_dvd (by decide) ((hg g).mp (Int.dvd_refl g)).2
    · exact ⟨by2, rfl, rfl, b20, b21⟩
  rintro _ _ ⟨by3, rfl, rfl, b30, b31⟩
  refine ⟨fun σ' H' => ∃ (by' : Int), σ' = [some (.ref p), some (.int k), some (.int (u % 3)), some (.int ((u % 3 + 1 + v % 2) % 3)), some (.int (w % 6)), some (.int by'), x6] ∧ H1 = H' ∧ 0 ≤ by' ∧ by' ≤ 30030, ?_, ?_⟩
  · refine ⟨_, rfl, rfl, _, rfl, ite2 (fun cc => ?_) (fun cc => ?_)⟩
    · exact ⟨0, rfl, rfl, by decide, by decide⟩
    · exact ⟨by3, rfl, rfl, b30, b31⟩
  rintro _ _ ⟨by4, rfl, rfl, b40, b41⟩
  have mb : ∀ {x : Int}, IntMulOk x by4 := fun {x} => IntMulOk.of_right (intBits_le_64 (by omega) (by omega))
  refine ⟨fun σ' H' => ∃ x y z : Int, σ' = [some (.ref p), some (.int k), some (.int (u % 3)), some (.int ((u % 3 + 1 + v % 2) % 3)), some (.int (w % 6)), some (.int by4), x6] ∧ Same B H' ∧ L3i H' p x y z ∧ Sm6 x ∧ Sm6 y ∧ Sm6 z, ?_, ?_⟩
  · obtain ⟨n, en, hn⟩ := at3s (a := a) (b := b) (c := c) at0' at1'
    refine ⟨_, rfl, _, rfl, p, _, _, _, rfl, rfl, SqL.of hp1, en, _, rfl, _, _, rfl, rfl, mb, n * by4, rfl, _, _, rfl, rfl, ⟨by decide, by decide, by decide⟩, _, _, rfl, rfl, _, rfl, ite2 (fun c1 => ?_) (fun c1 => ?_)⟩
    · have c2 : (if n * by4 < 0 then -(n * by4) else n * by4) ≤ 10 ^ Int.toNat 6 := decT c1
      have n6 : Sm6 (n * by4) := sm6_abs (M := 1000000) c2 (by decide)
      obtain ⟨j, ej, x, y, z, es, hx, hy, hz⟩ := set3s (a := a) (b := b) (c := c) (n := n * by4) at0' at1'
      refine ⟨_, rfl, _, rfl, p, _, _, _, rfl, rfl, SqL.of hp1, en, _, rfl, _, _, rfl, rfl, mb, _, rfl, _, rfl, p, _, _, j, rfl, rfl, hp1, ej, ?_⟩
      refine ⟨x, y, z, rfl, same_put (g0.trans g1) np, ?_, hx.elim (fun e => e ▸ a6) fun e => e ▸ n6, hy.elim (fun e => e ▸ b6) fun e => e ▸ n6, hz.elim (fun e => e ▸ c6) fun e => e ▸ n6⟩
      show upd H1 p _ p = some (.lst [.int x, .int y, .int z])
      rw [upd_same, ← es]
    · exact ⟨a, b, c, rfl, g0.trans g1, hp1, a6, b6, c6⟩
  rintro _ H2 ⟨x, y, z, rfl, gB, h2, x6', y6', z6'⟩
  exact ⟨_, rfl, q H2 x y z gB h2 x6' y6' z6'⟩
theorem ok_due {f : Addr} {fd : FuncData} (F : Fun K "_law_due" "_law_due" s_due f fd) (T : Txt K mg t) (H_square_free : Has P w K mg base CX0 1 "_law_square_free" ["_law_number"] (spSfL)) (H_shared : Has P w K mg base CX0 1 "_law_shared" ["_law_one", "_law_other"] (spShG)) : FnOk P w K mg base CX0 2 f fd ["_law_numbers"] (spDue15) := by
  obtain ⟨f_square_free, d_square_free, G_square_free, b_square_free, k_square_free, m_square_free⟩ := H_square_free
  obtain ⟨f_shared, d_shared, G_shared, b_shared, k_shared, m_shared⟩ := H_shared
  refine F.ok sc_due (fun vs H Q E h => ?_) (fun cdv A outer s H vs Q E hr h => ?_)
  · obtain ⟨_, _, _, _, rfl, _⟩ := h
    rfl
  obtain ⟨p, a, b, c, rfl, hp, a6, b6, c6, q⟩ := h
  have hr_square_free := hr.mono (show 1 ≤ 1 by decide)
  have hr_shared := hr.mono (show 1 ≤ 1 by decide)
  have hp' : H p = some (.lst [.int a, .int b, .int c]) := hp
  refine ⟨_, pss_cons (ps_if (pt_not (pt_val (pe_callB (call_all rfl) rfl T.z_all b_all (pa_cons (pe_compC rfl (CompScope.gen (cl := []) [] [] [(".0", .local), ("_law_number", .local), ("_law_square_free", .globalImplicit)] rfl (by decide +kernel) (by decide +kernel) rfl rfl (by intro p hp; cases hp) rfl (by intro p hp h; simp only [List.mem_cons, List.not_mem_nil, or_false] at hp; rcases hp with rfl | rfl | rfl <;> first | rfl | (rcases h with h | h <;> cases h)) (by decide) (by decide +kernel) rfl (by intro p hp; cases hp)) (pi_list (pv 0)) (fun C s0 H0 fp pins => pe_call G_square_free hr_square_free rfl m_square_free k_square_free b_square_free .nil pass0 (pa_cons (pv 0) pa_nil))) pa_nil)) (fun _ => rfl))) (pss_one (ps_ret pe_bl)) pss_nil)
    (pss_one (ps_ret (pe_callB (call_all rfl) rfl T.z_all b_all (pa_cons (pe_compC rfl (CompScope.gen (cl := [("_law_numbers", _)]) ["_law_numbers"] [0] [(".0", .local), ("_law_k", .local), ("_law_shared", .globalImplicit), ("_law_numbers", .cell)] rfl (by decide +kernel) (by decide +kernel) rfl rfl (by intro p hp; simp only [List.mem_cons, List.not_mem_nil, or_false] at hp; rcases hp with rfl <;> rfl) rfl (by intro p hp h; simp only [List.mem_cons, List.not_mem_nil, or_false] at hp; rcases hp with rfl | rfl | rfl | rfl <;> first | rfl | (rcases h with h | h <;> cases h)) (by decide) (by decide +kernel) rfl (by intro p hp; simp only [List.zip_cons_cons, List.zip_nil_left, List.mem_cons, List.not_mem_nil, or_false] at hp; rcases hp with rfl <;> exact ⟨rfl, rfl⟩)) (pi_range1 rfl T.z_range (pa_cons pe_int pa_nil)) (fun C s0 H0 fp pins => pe_cmpR op_eq (pe_call G_shared hr_shared rfl m_shared k_shared b_shared .nil pass0 (pa_cons (pe_ix (ixK_list (K := K) rfl) (pv 1) (pv 0) (fun _ _ => rfl)) (pa_cons (pe_ix (ixK_list (K := K) rfl) (pv 1) (pe_op op_sub (pv 0) pe_int) (fun _ _ => rfl)) pa_nil))) pe_int (nomark _))) pa_nil)))), ?_⟩
  refine ⟨_, rfl, p, rfl, ⟨_, SqL.of hp'⟩, comp_listF (xs := [.int a, .int b, .int c]) (SqL.of hp') (by show 3 < sizeLine; decide) sqB (fun H' g => SqL.of (g _ _ hp')) ?_ ?_⟩
  · intro i x H' Q' ex g k
    obtain ⟨n, rfl, hn⟩ := get3i ex
    have h2 : Sm6 n := hn.elim (fun e => e ▸ a6) fun e => e.elim (fun e => e ▸ b6) fun e => e ▸ c6
    refine ⟨_, rfl, n, rfl, h2, fun t ht => ?_⟩
    have kk := k H' (Same.refl _)
    rw [show sqB (.int n) = .bl t from congrArg V.bl (bS_eq ht)] at kk
    exact kk
  intro l1 H1 g1 _ hl1
  have hp1 := g1 _ _ hp'
  refine ⟨l1, [bS a, bS b, bS c], rfl, hl1, _, rfl, ?_⟩
  by_cases hs : SqF a ∧ SqF b ∧ SqF c
  · refine iteNE (all3.mpr ⟨bS_iff.mpr hs.1, bS_iff.mpr hs.2.1, bS_iff.mpr hs.2.2⟩) ?_
    refine ⟨3, rfl, by decide, by decide, comp_rangeF 3 (by decide) (fun i => .bl ([bC a c, bC b a, bC c b].getD i false)) ?_ ?_⟩
    · intro i H' Q' hi g k
      obtain rfl | rfl | rfl : i = 0 ∨ i = 1 ∨ i = 2 := by omega
      all_goals
        refine ⟨_, rfl, _, rfl, p, _, _, _, rfl, rfl, SqL.of (g _ _ hp1), rfl, _, rfl, _, rfl, _, _, rfl, rfl, p, _, _, _, rfl, rfl, SqL.of (g _ _ hp1), rfl, _, _, rfl, fun gg g0 hg => ⟨rfl, ?_⟩⟩
        have kk := k H' (Same.refl _)
        have e := bC_eq (b := decide (V.int gg = V.int 1)) ⟨fun h => (cop_g ?_ g0 hg).mp (int_inj (decT h)), fun h => decide_eq_true (congrArg V.int ((cop_g ?_ g0 hg).mpr h))⟩
        · have fin : Q' (.bl (decide (V.int gg = V.int 1))) H' := by
            rw [← e]
            exact kk
          exact fin
        all_goals first | exact hs.1.1 | exact hs.2.1.1 | exact hs.2.2.1
    · intro l2 H2 g2 _ hl2
      refine ⟨l2, [bC a c, bC b a, bC c b], rfl, hl2, q _ _ (g1.trans g2) ?_⟩
      rw [all3, bC_iff, bC_iff, bC_iff, pln_iff]
      exact ⟨fun h => ⟨hs, h.2.1.sym, h.2.2.sym, h.1.sym⟩, fun h => ⟨h.2.2.2.sym, h.2.1.sym, h.2.2.1.sym⟩⟩
  · refine iteNF (Bool.eq_false_iff.mpr fun h => hs (by rw [all3, bS_iff, bS_iff, bS_iff] at h; exact h)) ?_
    exact q _ _ g1 ⟨fun z => (Bool.false_ne_true z).elim, fun P => absurd (pln_iff.mp P).1 hs⟩
theorem ok_refused {f : Addr} {fd : FuncData} (F : Fun K "_law_refused" "_law_refused" s_refused f fd) (T : Txt K mg t) (H_bad_places : Has P w K mg base (XF P w) 6 "bad_places" ["a", "b", "c"] (spBadX15 t.c13)) (H_alone : Has P w K mg base CX0 1 "_law_alone" ["_law_e", "_law_sort"] (spAloneS t.c13 13)) : FnOk P w K mg base CX0 7 f fd ["_law_numbers"] (spRef15) := by
  obtain ⟨f_bad_places, d_bad_places, G_bad_places, b_bad_places, k_bad_places, m_bad_places⟩ := H_bad_places
  obtain ⟨f_alone, d_alone, G_alone, b_alone, k_alone, m_alone⟩ := H_alone
  refine F.ok sc_refused (fun vs H Q E h => ?_) (fun cdv A outer s H vs Q E hr h => ?_)
  · obtain ⟨_, _, _, _, rfl, _⟩ := h
    rfl
  obtain ⟨p, a, b, c, rfl, hp, a6, b6, c6, np, q⟩ := h
  have hr_bad_places := hr.mono (show 6 ≤ 6 by decide)
  have hr_alone := hr.mono (show 1 ≤ 6 by decide)
  have hp' : H p = some (.lst [.int a, .int b, .int c]) := hp
  refine ⟨_, pss_cons (ps_set (i := 1) sc_refused.nd rfl (Or.inl rfl) pe_non)
    (pss_cons (ps_tryAs2 (i := 2) (C := t.c13) G_bad_places hr_bad_places rfl m_bad_places k_bad_places b_bad_places (pa_cons (pe_ix ix_list (pv 0) pe_int (fun _ _ => rfl)) (pa_cons (pe_ix ix_list (pv 0) pe_int (fun _ _ => rfl)) (pa_cons (pe_ix ix_list (pv 0) pe_int (fun _ _ => rfl)) pa_nil))) T.m_CurveError rfl T.x_NotPlain T.x_CurveError T.u_NotPlain sc_refused.nd rfl rfl (fun ea => pss_one (ps_set (i := 1) sc_refused.nd rfl (Or.inl rfl) (pv 2))))
    (pss_one (ps_ret (pe_call G_alone hr_alone rfl m_alone k_alone b_alone .nil pass0 (pa_cons (pv 1) (pa_cons pe_int pa_nil)))))), ?_⟩
  refine ⟨_, rfl, p, _, _, _, rfl, rfl, SqL.of hp', rfl, _, rfl, p, _, _, _, rfl, rfl, SqL.of hp', rfl, _, rfl, p, _, _, _, rfl, rfl, SqL.of hp', rfl, a, b, c, rfl, a6, b6, c6, np, fun H1 g1 => ⟨rfl, fun e he => ?_⟩⟩
  refine ⟨_, rfl, ?_⟩
  exact ⟨_, rfl, e, rfl, upd_same, fun H' g => q H' (g1.trans ((same_new he _).trans g))⟩
theorem ok_law {f : Addr} {fd : FuncData} (F : Fun K "law" "law" s_law f fd) (T : Txt K mg t) (H_cell_at : Has P w K mg base CX0 1 "_law_cell_at" ["_law_script", "_law_k"] (spCell K)) (H_plain : Has P w K mg base CX0 2 "_law_plain" ["_law_script", "_law_start", "_law_many", "_law_most"] (spLPlain15 K)) (H_spoilt : Has P w K mg base CX0 2 "_law_spoilt" ["_law_numbers", "_law_cell"] (spSpoil)) (H_due : Has P w K mg base CX0 2 "_law_due" ["_law_numbers"] (spDue15)) (H_is_plain : Has P w K mg base CX0 5 "is_plain" ["a", "b", "c"] (spPlainB)) (H_refused : Has P w K mg base CX0 7 "_law_refused" ["_law_numbers"] (spRef15)) : FnOk P w K mg base CX0 8 f fd ["_law_script"] (spLaw K) := by
  obtain ⟨f_cell_at, d_cell_at, G_cell_at, b_cell_at, k_cell_at, m_cell_at⟩ := H_cell_at
  obtain ⟨f_plain, d_plain, G_plain, b_plain, k_plain, m_plain⟩ := H_plain
  obtain ⟨f_spoilt, d_spoilt, G_spoilt, b_spoilt, k_spoilt, m_spoilt⟩ := H_spoilt
  obtain ⟨f_due, d_due, G_due, b_due, k_due, m_due⟩ := H_due
  obtain ⟨f_is_plain, d_is_plain, G_is_plain, b_is_plain, k_is_plain, m_is_plain⟩ := H_is_plain
  obtain ⟨f_refused, d_refused, G_refused, b_refused, k_refused, m_refused⟩ := H_refused
  refine F.ok sc_law (fun vs H Q E h => ?_) (fun cdv A outer s H vs Q E hr h => ?_)
  · obtain ⟨a, ns, rfl, _⟩ := h
    rfl
  obtain ⟨a, ns, rfl, hS, h63, hb, q⟩ := h
  have hr_cell_at := hr.mono (show 1 ≤ 7 by decide)
  have hr_plain := hr.mono (show 2 ≤ 7 by decide)
  have hr_spoilt := hr.mono (show 2 ≤ 7 by decide)
  have hr_due := hr.mono (show 2 ≤ 7 by decide)
  have hr_is_plain := hr.mono (show 5 ≤ 7 by decide)
  have hr_refused := hr.mono (show 7 ≤ 7 by decide)
  refine ⟨_, pss_cons (ps_set (i := 1) sc_law.nd rfl (Or.inl rfl) (pe_ix ix_tup (pe_call G_plain hr_plain rfl m_plain k_plain b_plain .nil pass0 (pa_cons (pv 0) (pa_cons pe_int (pa_cons pe_int (pa_cons (pe_ix ix_list (pe_lst (pa_cons pe_int (pa_cons pe_int (pa_cons (pe_op op_pow pe_int pe_int) pa_nil)))) (pe_op op_mod (pe_call G_cell_at hr_cell_at rfl m_cell_at k_cell_at b_cell_at .nil pass0 (pa_cons (pv 0) (pa_cons pe_int pa_nil))) pe_int) (fun _ _ => rfl)) pa_nil))))) pe_int (fun _ _ => rfl)))
    (pss_cons (ps_set (i := 1) sc_law.nd rfl (Or.inl rfl) (pe_call G_spoilt hr_spoilt rfl m_spoilt k_spoilt b_spoilt .nil pass0 (pa_cons (pv 1) (pa_cons (pe_call G_cell_at hr_cell_at rfl m_cell_at k_cell_at b_cell_at .nil pass0 (pa_cons (pv 0) (pa_cons pe_int pa_nil))) pa_nil))))
    (pss_cons (ps_set (i := 2) sc_law.nd rfl (Or.inl rfl) (pe_call G_due hr_due rfl m_due k_due b_due .nil pass0 (pa_cons (pv 1) pa_nil)))
    (pss_cons (ps_for PassesOwn.never rfl (pi_list (pe_lst (pa_cons (pv 1) (pa_cons (pe_lst (pa_cons (pe_ix ix_list (pv 1) pe_int (fun _ _ => rfl)) (pa_cons (pe_ix ix_list (pv 1) pe_int (fun _ _ => rfl)) (pa_cons (pe_ix ix_list (pv 1) pe_int (fun _ _ => rfl)) pa_nil)))) pa_nil)))) (pg_lst rfl (pgs_cons (pg_name (i := 3) sc_law.nd rfl (Or.inl rfl)) (pgs_cons (pg_name (i := 4) sc_law.nd rfl (Or.inl rfl)) (pgs_cons (pg_name (i := 5) sc_law.nd rfl (Or.inl rfl)) pgs_nil)))) (pss_cons (ps_set (i := 6) sc_law.nd rfl (Or.inl rfl) (pe_call G_is_plain hr_is_plain rfl m_is_plain k_is_plain b_is_plain .nil pass0 (pa_cons (pv 3) (pa_cons (pv 4) (pa_cons (pv 5) pa_nil)))))
    (pss_one (ps_if (PW.pt (pw_or (pt_not (pt_val (pe_callB call_isi rfl T.z_isinstance b_isi (pa_cons (pv 6) (pa_cons (pe_bltn (v := .ty "bool") rfl T.z_bool b_bool rfl) pa_nil))) (fun _ => rfl))) (pw_or1 (pt_cmpR op_ne (pv 6) (pv 2) (nomark _))))) (pss_one (ps_ret pe_bl)) pss_nil))))
    (pss_one (ps_ret (pe_or (pv 2) (pe_one (pe_call G_refused hr_refused rfl m_refused k_refused b_refused .nil pass0 (pa_cons (pv 1) pa_nil))))))))), ?_⟩
  refine ⟨_, rfl, _, _, rfl, rfl, ⟨by decide, by decide, by decide⟩, (by show 3 ≤ sizeLine; decide), fun w hw => ?_⟩
  have g0 := same_new hw (.lst [.int 50, .int 1000, .int (10 ^ Int.toNat 6)])
  obtain ⟨M, eM, M0, M1⟩ := at3m (ns.getD (1 : Int).toNat 0)
  refine ⟨_, rfl, a, ns, 1, rfl, g0.seq hS, by decide, _, _, rfl, rfl, (by show (0 : Int) < 3; decide), w, _, _, _, rfl, rfl, SqL.of upd_same, eM, ?_⟩
  refine ⟨a, ns, M, rfl, g0.seq hS, M0, M1, fun t' H1 l m n0 n1 n2 g1 nl hl ht s0 s1 s2 => ⟨t', _, _, _, rfl, rfl, SqT.of ht, rfl, ?_⟩⟩
  refine ⟨_, rfl, _, rfl, a, ns, 0, rfl, (g0.trans g1).seq hS, by decide, _, l, n0, n1, n2, _, rfl, g1, nl, hl, s0, s1, s2, ?_⟩
  clear hl s0 s1 s2 n0 n1 n2
  intro H2 n0 n1 n2 g2 hl s0 s1 s2
  refine ⟨_, rfl, l, n0, n1, n2, rfl, hl, s0, s1, s2, fun du H3 g3 hdu => ?_⟩
  have hl3 : H3 l = some (.lst [.int n0, .int n1, .int n2]) := g3 _ _ hl
  refine ⟨_, rfl, _, rfl, l, _, _, _, rfl, rfl, SqL.of hl3, rfl, _, rfl, l, _, _, _, rfl, rfl, SqL.of hl3, rfl, _, rfl, l, _, _, _, rfl, rfl, SqL.of hl3, rfl, (by show 3 ≤ sizeLine; decide), fun l2 hl2 => ⟨(by show 2 ≤ sizeLine; decide), fun l3 hl3' => ?_⟩⟩
  have g4 := same_new hl2 (.lst [.int n2, .int n0, .int n1])
  have g5 := same_new hl3' (.lst [.ref l, .ref l2])
  have hA := (g4.trans g5) _ _ hl3
  have hB := g5 l2 _ upd_same
  have hC : (upd (upd H3 l2 (.lst [.int n2, .int n0, .int n1])) l3 (.lst [.ref l, .ref l2])) l3 = some (.lst [.ref l, .ref l2]) := upd_same
  have g45 := g3.trans (g4.trans g5)
  generalize upd (upd H3 l2 (.lst [.int n2, .int n0, .int n1])) l3 (.lst [.ref l, .ref l2]) = H5 at *
  refine ⟨l3, rfl, ⟨_, SqL.of hC⟩, for_list (xs := [.ref l, .ref l2]) (fun i σ H' => ∃ x3 x4 x5 x6 : Option V, σ = [some (.ref a), some (.ref l), some (.bl du), x3, x4, x5, x6] ∧ Same H5 H') ⟨none, none, none, none, rfl, Same.refl _⟩ ?_ ?_ ?_⟩
  · rintro i σ H' hi ⟨_, _, _, _, rfl, g⟩
    exact SqL.of (g _ _ hC)
  · rintro i v σ H6 hv ⟨_, _, _, _, rfl, g6⟩
    obtain ⟨y, u1, u2, u3, rfl, hy, c1, c2, c3, hpl⟩ : ∃ (y : Addr) (u1 u2 u3 : Int), v = .ref y ∧ H6 y = some (.lst [.int u1, .int u2, .int u3]) ∧ Sm6 u1 ∧ Sm6 u2 ∧ Sm6 u3 ∧ (Pln u1 u2 u3 ↔ Pln n0 n1 n2) := by
      match i, hv with
      | 0, e => exact ⟨l, n0, n1, n2, (Option.some.inj e).symm, g6 _ _ hA, s0, s1, s2, Iff.rfl⟩
      | 1, e => exact ⟨l2, n2, n0, n1, (Option.some.inj e).symm, g6 _ _ hB, s2, s0, s1, ⟨fun h => h.rot, fun h => h.rot.rot⟩⟩
      | n + 2, e => cases e
    refine ⟨y, _, rfl, SqL.of hy, rfl, _, _, rfl, _, _, rfl, _, _, rfl, rfl, ?_⟩
    refine ⟨_, rfl, _, rfl, _, rfl, u1, u2, u3, rfl, c1, c2, c3, fun t H7 g7 htt => ?_⟩
    have et : t = du := by rw [Bool.eq_iff_iff, htt, hpl, hdu]
    subst et
    refine ⟨_, rfl, _, _, _, _, rfl, .inr ⟨_, rfl⟩, .of (.bl _), rfl, _, rfl, iteF ⟨_, rfl, _, rfl, rfl, _, rfl, iteNS rfl ?_⟩⟩
    exact ⟨_, _, _, _, rfl, g6.trans g7⟩
  · rintro σ H6 ⟨_, _, _, _, rfl, g6⟩
    refine ⟨_, rfl, _, rfl, ?_⟩
    cases du with
    | true => exact iteT (q _)
    | false =>
      refine iteF ⟨_, rfl, l, n0, n1, n2, rfl, g6 _ _ hA, s0, s1, s2, fun P => (Bool.false_ne_true (hdu.mpr P)).elim, fun H7 g7 => q _⟩

end
theorem all_mk {l : PySem.W.OpenLaw} {w : World} {K : PySem.W.Frag} {h : Heap} {mg : Str → Option Value} {fa qce qc0 qc1 qc2 qc3 qc4 qc5 qc6 qc7 qc8 qc9 qc10 qc11 qc12 qc13 qc14 : Addr} (X : K.In h) (G : h.Ns mainGlobals mg) (hfa : mg "law" = some (.ref fa))
    {f1 f2 f3 f4 f5 f6 f7 f8 f9 f10 f11 f12 f13 f14 f15 f16 f17 f18 f19 f20 : Addr} {od1 an1 od2 an2 od3 an3 od4 an4 od5 an5 od6 an6 od7 an7 od8 an8 od9 an9 od10 an10 od11 an11 od12 an12 od13 an13 od14 an14 od15 an15 od16 an16 od17 an17 od18 an18 od19 an19 od20 an20 : Option Addr} {sl1 sl2 sl3 sl4 sl5 sl6 sl7 sl8 sl9 sl10 sl11 sl12 sl13 sl14 sl15 sl16 sl17 sl18 sl19 sl20 : Array (Option Value)} {oc1 kV1 dc1 pm1 cd1 ct1 oc2 kV2 dc2 pm2 cd2 ct2 oc3 kV3 dc3 pm3 cd3 ct3 oc4 kV4 dc4 pm4 cd4 ct4 oc5 kV5 dc5 pm5 cd5 ct5 oc6 kV6 dc6 pm6 cd6 ct6 oc7 kV7 dc7 pm7 cd7 ct7 oc8 kV8 dc8 pm8 cd8 ct8 oc9 kV9 dc9 pm9 cd9 ct9 oc10 kV10 dc10 pm10 cd10 ct10 oc11 kV11 dc11 pm11 cd11 ct11 oc12 kV12 dc12 pm12 cd12 ct12 oc13 kV13 dc13 pm13 cd13 ct13 oc14 kV14 dc14 pm14 cd14 ct14 oc15 kV15 dc15 pm15 cd15 ct15 oc16 kV16 dc16 pm16 cd16 ct16 oc17 kV17 dc17 pm17 cd17 ct17 oc18 kV18 dc18 pm18 cd18 ct18 oc19 kV19 dc19 pm19 cd19 ct19 oc20 kV20 dc20 pm20 cd20 ct20 : Value}
    (a1 : PySem.W.nsIn K mainGlobals "taken_out" = some (some (.ref f1))) (l1 : K.lookup f1 = some ⟨oc1, od1, .func (PySem.W.fnOf "taken_out" "taken_out" (defArgs s_taken_out) (defBody s_taken_out) (defScope s_taken_out) .none kV1 dc1 pm1 an1 cd1 ct1), sl1⟩) (g1 : PySem.W.codeIn K cd1 "taken_out" = true) (k1 : PySem.W.keepIn K (.ref f1) = true)
    (a2 : PySem.W.nsIn K mainGlobals "divisor_after" = some (some (.ref f2))) (l2 : K.lookup f2 = some ⟨oc2, od2, .func (PySem.W.fnOf "divisor_after" "divisor_after" (defArgs s_divisor_after) (defBody s_divisor_after) (defScope s_divisor_after) .none kV2 dc2 pm2 an2 cd2 ct2), sl2⟩) (g2 : PySem.W.codeIn K cd2 "divisor_after" = true) (k2 : PySem.W.keepIn K (.ref f2) = true)
    (a3 : PySem.W.nsIn K mainGlobals "prime_parts" = some (some (.ref f3))) (l3 : K.lookup f3 = some ⟨oc3, od3, .func (PySem.W.fnOf "prime_parts" "prime_parts" (defArgs s_prime_parts) (defBody s_prime_parts) (defScope s_prime_parts) .none kV3 dc3 pm3 an3 cd3 ct3), sl3⟩) (g3 : PySem.W.codeIn K cd3 "prime_parts" = true) (k3 : PySem.W.keepIn K (.ref f3) = true)
    (a4 : PySem.W.nsIn K mainGlobals "core_of" = some (some (.ref f4))) (l4 : K.lookup f4 = some ⟨oc4, od4, .func (PySem.W.fnOf "core_of" "core_of" (defArgs s_core_of) (defBody s_core_of) (defScope s_core_of) .none kV4 dc4 pm4 an4 cd4 ct4), sl4⟩) (g4 : PySem.W.codeIn K cd4 "core_of" = true) (k4 : PySem.W.keepIn K (.ref f4) = true)
    (a5 : PySem.W.nsIn K mainGlobals "is_without_squares" = some (some (.ref f5))) (l5 : K.lookup f5 = some ⟨oc5, od5, .func (PySem.W.fnOf "is_without_squares" "is_without_squares" (defArgs s_is_without_squares) (defBody s_is_without_squares) (defScope s_is_without_squares) .none kV5 dc5 pm5 an5 cd5 ct5), sl5⟩) (g5 : PySem.W.codeIn K cd5 "is_without_squares" = true) (k5 : PySem.W.keepIn K (.ref f5) = true)
    (a6 : PySem.W.nsIn K mainGlobals "row_less" = some (some (.ref f6))) (l6 : K.lookup f6 = some ⟨oc6, od6, .func (PySem.W.fnOf "row_less" "row_less" (defArgs s_row_less) (defBody s_row_less) (defScope s_row_less) .none kV6 dc6 pm6 an6 cd6 ct6), sl6⟩) (g6 : PySem.W.codeIn K cd6 "row_less" = true) (k6 : PySem.W.keepIn K (.ref f6) = true)
    (a7 : PySem.W.nsIn K mainGlobals "shares_of" = some (some (.ref f7))) (l7 : K.lookup f7 = some ⟨oc7, od7, .func (PySem.W.fnOf "shares_of" "shares_of" (defArgs s_shares_of) (defBody s_shares_of) (defScope s_shares_of) .none kV7 dc7 pm7 an7 cd7 ct7), sl7⟩) (g7 : PySem.W.codeIn K cd7 "shares_of" = true) (k7 : PySem.W.keepIn K (.ref f7) = true)
    (a8 : PySem.W.nsIn K mainGlobals "is_plain" = some (some (.ref f8))) (l8 : K.lookup f8 = some ⟨oc8, od8, .func (PySem.W.fnOf "is_plain" "is_plain" (defArgs s_is_plain) (defBody s_is_plain) (defScope s_is_plain) .none kV8 dc8 pm8 an8 cd8 ct8), sl8⟩) (g8 : PySem.W.codeIn K cd8 "is_plain" = true) (k8 : PySem.W.keepIn K (.ref f8) = true)
    (a9 : PySem.W.nsIn K mainGlobals "bad_places" = some (some (.ref f9))) (l9 : K.lookup f9 = some ⟨oc9, od9, .func (PySem.W.fnOf "bad_places" "bad_places" (defArgs s_bad_places) (defBody s_bad_places) (defScope s_bad_places) .none kV9 dc9 pm9 an9 cd9 ct9), sl9⟩) (g9 : PySem.W.codeIn K cd9 "bad_places" = true) (k9 : PySem.W.keepIn K (.ref f9) = true)
    (a10 : PySem.W.nsIn K mainGlobals "_law_cell_at" = some (some (.ref f10))) (l10 : K.lookup f10 = some ⟨oc10, od10, .func (PySem.W.fnOf "_law_cell_at" "_law_cell_at" (defArgs s_cell_at) (defBody s_cell_at) (defScope s_cell_at) .none kV10 dc10 pm10 an10 cd10 ct10), sl10⟩) (g10 : PySem.W.codeIn K cd10 "_law_cell_at" = true) (k10 : PySem.W.keepIn K (.ref f10) = true)
    (a11 : PySem.W.nsIn K mainGlobals "_law_churn" = some (some (.ref f11))) (l11 : K.lookup f11 = some ⟨oc11, od11, .func (PySem.W.fnOf "_law_churn" "_law_churn" (defArgs s_churn) (defBody s_churn) (defScope s_churn) .none kV11 dc11 pm11 an11 cd11 ct11), sl11⟩) (g11 : PySem.W.codeIn K cd11 "_law_churn" = true) (k11 : PySem.W.keepIn K (.ref f11) = true)
    (a12 : PySem.W.nsIn K mainGlobals "_law_primes" = some (some (.ref f12))) (l12 : K.lookup f12 = some ⟨oc12, od12, .func (PySem.W.fnOf "_law_primes" "_law_primes" (defArgs s_primes) (defBody s_primes) (defScope s_primes) .none kV12 dc12 pm12 an12 cd12 ct12), sl12⟩) (g12 : PySem.W.codeIn K cd12 "_law_primes" = true) (k12 : PySem.W.keepIn K (.ref f12) = true)
    (a13 : PySem.W.nsIn K mainGlobals "_law_plain" = some (some (.ref f13))) (l13 : K.lookup f13 = some ⟨oc13, od13, .func (PySem.W.fnOf "_law_plain" "_law_plain" (defArgs s_plain) (defBody s_plain) (defScope s_plain) .none kV13 dc13 pm13 an13 cd13 ct13), sl13⟩) (g13 : PySem.W.codeIn K cd13 "_law_plain" = true) (k13 : PySem.W.keepIn K (.ref f13) = true)
    (a14 : PySem.W.nsIn K mainGlobals "_law_shared" = some (some (.ref f14))) (l14 : K.lookup f14 = some ⟨oc14, od14, .func (PySem.W.fnOf "_law_shared" "_law_shared" (defArgs s_shared) (defBody s_shared) (defScope s_shared) .none kV14 dc14 pm14 an14 cd14 ct14), sl14⟩) (g14 : PySem.W.codeIn K cd14 "_law_shared" = true) (k14 : PySem.W.keepIn K (.ref f14) = true)
    (a15 : PySem.W.nsIn K mainGlobals "_law_square_free" = some (some (.ref f15))) (l15 : K.lookup f15 = some ⟨oc15, od15, .func (PySem.W.fnOf "_law_square_free" "_law_square_free" (defArgs s_square_free) (defBody s_square_free) (defScope s_square_free) .none kV15 dc15 pm15 an15 cd15 ct15), sl15⟩) (g15 : PySem.W.codeIn K cd15 "_law_square_free" = true) (k15 : PySem.W.keepIn K (.ref f15) = true)
    (a16 : PySem.W.nsIn K mainGlobals "_law_spoilt" = some (some (.ref f16))) (l16 : K.lookup f16 = some ⟨oc16, od16, .func (PySem.W.fnOf "_law_spoilt" "_law_spoilt" (defArgs s_spoilt) (defBody s_spoilt) (defScope s_spoilt) .none kV16 dc16 pm16 an16 cd16 ct16), sl16⟩) (g16 : PySem.W.codeIn K cd16 "_law_spoilt" = true) (k16 : PySem.W.keepIn K (.ref f16) = true)
    (a17 : PySem.W.nsIn K mainGlobals "_law_due" = some (some (.ref f17))) (l17 : K.lookup f17 = some ⟨oc17, od17, .func (PySem.W.fnOf "_law_due" "_law_due" (defArgs s_due) (defBody s_due) (defScope s_due) .none kV17 dc17 pm17 an17 cd17 ct17), sl17⟩) (g17 : PySem.W.codeIn K cd17 "_law_due" = true) (k17 : PySem.W.keepIn K (.ref f17) = true)
    (a18 : PySem.W.nsIn K mainGlobals "_law_alone" = some (some (.ref f18))) (l18 : K.lookup f18 = some ⟨oc18, od18, .func (PySem.W.fnOf "_law_alone" "_law_alone" (defArgs s_alone) (defBody s_alone) (defScope s_alone) .none kV18 dc18 pm18 an18 cd18 ct18), sl18⟩) (g18 : PySem.W.codeIn K cd18 "_law_alone" = true) (k18 : PySem.W.keepIn K (.ref f18) = true)
    (a19 : PySem.W.nsIn K mainGlobals "_law_refused" = some (some (.ref f19))) (l19 : K.lookup f19 = some ⟨oc19, od19, .func (PySem.W.fnOf "_law_refused" "_law_refused" (defArgs s_refused) (defBody s_refused) (defScope s_refused) .none kV19 dc19 pm19 an19 cd19 ct19), sl19⟩) (g19 : PySem.W.codeIn K cd19 "_law_refused" = true) (k19 : PySem.W.keepIn K (.ref f19) = true)
    (a20 : PySem.W.nsIn K mainGlobals "law" = some (some (.ref f20))) (l20 : K.lookup f20 = some ⟨oc20, od20, .func (PySem.W.fnOf "law" "law" (defArgs s_law) (defBody s_law) (defScope s_law) .none kV20 dc20 pm20 an20 cd20 ct20), sl20⟩) (g20 : PySem.W.codeIn K cd20 "law" = true) (k20 : PySem.W.keepIn K (.ref f20) = true)
    (xm_CurveError : PySem.W.nsIn K mainGlobals "CurveError" = some (some (.ref qce)))
    (xm_BadPlace : PySem.W.nsIn K mainGlobals "BadPlace" = some (some (.ref qc0)))
    (xm_Flat : PySem.W.nsIn K mainGlobals "Flat" = some (some (.ref qc1)))
    (xm_NoBack : PySem.W.nsIn K mainGlobals "NoBack" = some (some (.ref qc2)))
    (xm_NoJoin : PySem.W.nsIn K mainGlobals "NoJoin" = some (some (.ref qc3)))
    (xm_NoLine : PySem.W.nsIn K mainGlobals "NoLine" = some (some (.ref qc4)))
    (xm_NoName : PySem.W.nsIn K mainGlobals "NoName" = some (some (.ref qc5)))
    (xm_NoNumber : PySem.W.nsIn K mainGlobals "NoNumber" = some (some (.ref qc6)))
    (xm_NoPair : PySem.W.nsIn K mainGlobals "NoPair" = some (some (.ref qc7)))
    (xm_NoPlace : PySem.W.nsIn K mainGlobals "NoPlace" = some (some (.ref qc8)))
    (xm_NoRow : PySem.W.nsIn K mainGlobals "NoRow" = some (some (.ref qc9)))
    (xm_NoSign : PySem.W.nsIn K mainGlobals "NoSign" = some (some (.ref qc10)))
    (xm_NoText : PySem.W.nsIn K mainGlobals "NoText" = some (some (.ref qc11)))
    (xm_NoVertex : PySem.W.nsIn K mainGlobals "NoVertex" = some (some (.ref qc12)))
    (xm_NotPlain : PySem.W.nsIn K mainGlobals "NotPlain" = some (some (.ref qc13)))
    (xm_OffCurve : PySem.W.nsIn K mainGlobals "OffCurve" = some (some (.ref qc14)))
    (xi_ce : PySem.W.kitOne K (.ref qc13) (.ref qce) = some true)
    (xi_0 : PySem.W.kitOne K (.ref qc13) (.ref qc0) = some false)
    (xi_1 : PySem.W.kitOne K (.ref qc13) (.ref qc1) = some false)
    (xi_2 : PySem.W.kitOne K (.ref qc13) (.ref qc2) = some false)
    (xi_3 : PySem.W.kitOne K (.ref qc13) (.ref qc3) = some false)
    (xi_4 : PySem.W.kitOne K (.ref qc13) (.ref qc4) = some false)
    (xi_5 : PySem.W.kitOne K (.ref qc13) (.ref qc5) = some false)
    (xi_6 : PySem.W.kitOne K (.ref qc13) (.ref qc6) = some false)
    (xi_7 : PySem.W.kitOne K (.ref qc13) (.ref qc7) = some false)
    (xi_8 : PySem.W.kitOne K (.ref qc13) (.ref qc8) = some false)
    (xi_9 : PySem.W.kitOne K (.ref qc13) (.ref qc9) = some false)
    (xi_10 : PySem.W.kitOne K (.ref qc13) (.ref qc10) = some false)
    (xi_11 : PySem.W.kitOne K (.ref qc13) (.ref qc11) = some false)
    (xi_12 : PySem.W.kitOne K (.ref qc13) (.ref qc12) = some false)
    (xi_13 : PySem.W.kitOne K (.ref qc13) (.ref qc13) = some true)
    (xi_14 : PySem.W.kitOne K (.ref qc13) (.ref qc14) = some false)
    (xi_ve : PySem.W.kitOne K (.ref qc13) (.type "ValueError") = some true)
    (xe0 : (PySem.W.clsIn K qc13).isSome = true)
    (xe1 : PySem.W.findIn K (.ref qc13) "__getattribute__" = some (some (.builtin "BaseException.__getattribute__")))
    (xe2 : PySem.W.findIn K (.ref qc13) "__getattr__" = some none)
    (xe3 : PySem.W.findIn K (.ref qc13) "__class__" = some (some (.builtin "object.__class__")))
    (xe4 : PySem.W.specialIn K (.builtin "object.__class__") "__get__" = some (some (.builtin "getset_descriptor.__get__")))
    (xe5 : PySem.W.takesIn K (.builtin "object.__class__") = some true)
    (xe6 : PySem.W.mroIn K qc13 (.type "object") = some true)
    (xe7 : PySem.W.mroIn K qc13 (.type "BaseException") = some true)
    (xx_NotPlain : PySem.W.excIn K qc13 bmVE "ValueError.__new__" = true)
    (xx_CurveError : PySem.W.excIn K qce bmVE "ValueError.__new__" = true)
    (xu_NotPlain : PySem.W.mroIn K qc13 (.ref qce) = some true)
    (xi_ib : PySem.W.kitOne K (.type "int") (.type "bool") = some false)
    (xz_isinstance : PySem.W.nsIn K mainGlobals "isinstance" = some none)
    (xz_int : PySem.W.nsIn K mainGlobals "int" = some none)
    (xz_bool : PySem.W.nsIn K mainGlobals "bool" = some none)
    (xz_len : PySem.W.nsIn K mainGlobals "len" = some none)
    (xz_range : PySem.W.nsIn K mainGlobals "range" = some none)
    (xz_all : PySem.W.nsIn K mainGlobals "all" = some none)
    (xz_abs : PySem.W.nsIn K mainGlobals "abs" = some none)
    (xz_tuple : PySem.W.nsIn K mainGlobals "tuple" = some none)
    (xz_list : PySem.W.nsIn K mainGlobals "list" = some none)
    (xz_ValueError : PySem.W.nsIn K mainGlobals "ValueError" = some none)
    : ∃ fd : FuncData, (∀ (s : Shared) (v : Value), BindsTo s fd ⟨[v], []⟩ [("_law_script", v)]) ∧ ∀ base : Heap, K.In base → base.Ns mainGlobals mg → FnOk l.prog w K mg base CX0 8 fa fd ["_law_script"] (spLaw K) := by
  have e := hfa.symm.trans (PySem.W.mg_of X G a20)
  cases e
  have T : Txt K mg ⟨qce, qc0, qc1, qc2, qc3, qc4, qc5, qc6, qc7, qc8, qc9, qc10, qc11, qc12, qc13, qc14⟩ := ⟨PySem.W.mg_of X G xm_CurveError, PySem.W.mg_of X G xm_BadPlace, PySem.W.mg_of X G xm_Flat, PySem.W.mg_of X G xm_NoBack, PySem.W.mg_of X G xm_NoJoin, PySem.W.mg_of X G xm_NoLine, PySem.W.mg_of X G xm_NoName, PySem.W.mg_of X G xm_NoNumber, PySem.W.mg_of X G xm_NoPair, PySem.W.mg_of X G xm_NoPlace, PySem.W.mg_of X G xm_NoRow, PySem.W.mg_of X G xm_NoSign, PySem.W.mg_of X G xm_NoText, PySem.W.mg_of X G xm_NoVertex, PySem.W.mg_of X G xm_NotPlain, PySem.W.mg_of X G xm_OffCurve, xi_ce, xi_0, xi_1, xi_2, xi_3, xi_4, xi_5, xi_6, xi_7, xi_8, xi_9, xi_10, xi_11, xi_12, xi_13, xi_14, xi_ve, xe0, xe1, xe2, xe3, xe4, xe5, xe6, xe7, xx_NotPlain, xx_CurveError, xu_NotPlain, xi_ib, PySem.W.mg_none_of X G xz_isinstance, PySem.W.mg_none_of X G xz_int, PySem.W.mg_none_of X G xz_bool, PySem.W.mg_none_of X G xz_len, PySem.W.mg_none_of X G xz_range, PySem.W.mg_none_of X G xz_all, PySem.W.mg_none_of X G xz_abs, PySem.W.mg_none_of X G xz_tuple, PySem.W.mg_none_of X G xz_list, PySem.W.mg_none_of X G xz_ValueError⟩
  have F1 := fun_mk (st := s_taken_out) l1 g1 k1
  have b1 := F1.binds (ps := ["number", "prime"]) fun _ _ _ _ _ _ => byL2 fun _ _ => rfl
  have F2 := fun_mk (st := s_divisor_after) l2 g2 k2
  have b2 := F2.binds (ps := ["divisor"]) fun _ _ _ _ _ _ => byL1 fun _ => rfl
  have F3 := fun_mk (st := s_prime_parts) l3 g3 k3
  have b3 := F3.binds (ps := ["number"]) fun _ _ _ _ _ _ => byL1 fun _ => rfl
  have F4 := fun_mk (st := s_core_of) l4 g4 k4
  have b4 := F4.binds (ps := ["number"]) fun _ _ _ _ _ _ => byL1 fun _ => rfl
  have F5 := fun_mk (st := s_is_without_squares) l5 g5 k5
  have b5 := F5.binds (ps := ["number"]) fun _ _ _ _ _ _ => byL1 fun _ => rfl
  have F6 := fun_mk (st := s_row_less) l6 g6 k6
  have b6 := F6.binds (ps := ["row", "taken", "times"]) fun _ _ _ _ _ _ => byL3 fun _ _ _ => rfl
  have F7 := fun_mk (st := s_shares_of) l7 g7 k7
  have b7 := F7.binds (ps := ["one", "other"]) fun _ _ _ _ _ _ => byL2 fun _ _ => rfl
  have F8 := fun_mk (st := s_is_plain) l8 g8 k8
  have b8 := F8.binds (ps := ["a", "b", "c"]) fun _ _ _ _ _ _ => byL3 fun _ _ _ => rfl
  have F9 := fun_mk (st := s_bad_places) l9 g9 k9
  have b9 := F9.binds (ps := ["a", "b", "c"]) fun _ _ _ _ _ _ => byL3 fun _ _ _ => rfl
  have F10 := fun_mk (st := s_cell_at) l10 g10 k10
  have b10 := F10.binds (ps := ["_law_script", "_law_k"]) fun _ _ _ _ _ _ => byL2 fun _ _ => rfl
  have F11 := fun_mk (st := s_churn) l11 g11 k11
  have b11 := F11.binds (ps := ["_law_cell", "_law_turn"]) fun _ _ _ _ _ _ => byL2 fun _ _ => rfl
  have F12 := fun_mk (st := s_primes) l12 g12 k12
  have b12 := F12.binds (ps := []) fun _ _ _ _ _ _ => byL0 rfl
  have F13 := fun_mk (st := s_plain) l13 g13 k13
  have b13 := F13.binds (ps := ["_law_script", "_law_start", "_law_many", "_law_most"]) fun _ _ _ _ _ _ => byL4 fun _ _ _ _ => rfl
  have F14 := fun_mk (st := s_shared) l14 g14 k14
  have b14 := F14.binds (ps := ["_law_one", "_law_other"]) fun _ _ _ _ _ _ => byL2 fun _ _ => rfl
  have F15 := fun_mk (st := s_square_free) l15 g15 k15
  have b15 := F15.binds (ps := ["_law_number"]) fun _ _ _ _ _ _ => byL1 fun _ => rfl
  have F16 := fun_mk (st := s_spoilt) l16 g16 k16
  have b16 := F16.binds (ps := ["_law_numbers", "_law_cell"]) fun _ _ _ _ _ _ => byL2 fun _ _ => rfl
  have F17 := fun_mk (st := s_due) l17 g17 k17
  have b17 := F17.binds (ps := ["_law_numbers"]) fun _ _ _ _ _ _ => byL1 fun _ => rfl
  have F18 := fun_mk (st := s_alone) l18 g18 k18
  have b18 := F18.binds (ps := ["_law_e", "_law_sort"]) fun _ _ _ _ _ _ => byL2 fun _ _ => rfl
  have F19 := fun_mk (st := s_refused) l19 g19 k19
  have b19 := F19.binds (ps := ["_law_numbers"]) fun _ _ _ _ _ _ => byL1 fun _ => rfl
  have F20 := fun_mk (st := s_law) l20 g20 k20
  refine ⟨PySem.W.fnOf "law" "law" (defArgs s_law) (defBody s_law) (defScope s_law) .none kV20 dc20 pm20 an20 cd20 ct20, fun s v => .of_eq rfl, fun base _ _ => ?_⟩
  have H_taken_out : Has l.prog w K mg base CX0 1 "taken_out" ["number", "prime"] (spTaken) := ⟨f1, _, ok_taken_out F1 T , b1, k1, PySem.W.mg_of X G a1⟩
  have H_divisor_after : Has l.prog w K mg base CX0 1 "divisor_after" ["divisor"] (spAfter) := ⟨f2, _, ok_divisor_after F2 T , b2, k2, PySem.W.mg_of X G a2⟩
  have H_prime_parts : Has l.prog w K mg base CX0 2 "prime_parts" ["number"] (spParts0) := ⟨f3, _, ok_prime_parts F3 T H_divisor_after H_taken_out, b3, k3, PySem.W.mg_of X G a3⟩
  have H_core_of : Has l.prog w K mg base CX0 3 "core_of" ["number"] (spCore0) := ⟨f4, _, ok_core_of F4 T H_prime_parts, b4, k4, PySem.W.mg_of X G a4⟩
  have H_is_without_squares : Has l.prog w K mg base CX0 4 "is_without_squares" ["number"] (spNoSqB) := ⟨f5, _, ok_is_without_squares F5 T H_core_of, b5, k5, PySem.W.mg_of X G a5⟩
  have H_row_less : Has l.prog w K mg base CX0 1 "row_less" ["row", "taken", "times"] (spRow) := ⟨f6, _, ok_row_less F6 T , b6, k6, PySem.W.mg_of X G a6⟩
  have H_shares_of : Has l.prog w K mg base CX0 2 "shares_of" ["one", "other"] (spShares) := ⟨f7, _, ok_shares_of F7 T H_row_less, b7, k7, PySem.W.mg_of X G a7⟩
  have H_is_plain : Has l.prog w K mg base CX0 5 "is_plain" ["a", "b", "c"] (spPlainB) := ⟨f8, _, ok_is_plain F8 T H_is_without_squares H_shares_of, b8, k8, PySem.W.mg_of X G a8⟩
  have H_bad_places : Has l.prog w K mg base (XF l.prog w) 6 "bad_places" ["a", "b", "c"] (spBadX15 qc13) := ⟨f9, _, ok_bad_places F9 T H_is_plain, b9, k9, PySem.W.mg_of X G a9⟩
  have H_cell_at : Has l.prog w K mg base CX0 1 "_law_cell_at" ["_law_script", "_law_k"] (spCell K) := ⟨f10, _, ok_cell_at F10 T , b10, k10, PySem.W.mg_of X G a10⟩
  have H_churn : Has l.prog w K mg base CX0 1 "_law_churn" ["_law_cell", "_law_turn"] (spChurn) := ⟨f11, _, ok_churn F11 T , b11, k11, PySem.W.mg_of X G a11⟩
  have H_primes : Has l.prog w K mg base CX0 1 "_law_primes" [] (spPrimes) := ⟨f12, _, ok_primes F12 T , b12, k12, PySem.W.mg_of X G a12⟩
  have H_plain : Has l.prog w K mg base CX0 2 "_law_plain" ["_law_script", "_law_start", "_law_many", "_law_most"] (spLPlain15 K) := ⟨f13, _, ok_plain F13 T H_primes H_churn H_cell_at, b13, k13, PySem.W.mg_of X G a13⟩
  have H_shared : Has l.prog w K mg base CX0 1 "_law_shared" ["_law_one", "_law_other"] (spShG) := ⟨f14, _, ok_shared F14 T , b14, k14, PySem.W.mg_of X G a14⟩
  have H_square_free : Has l.prog w K mg base CX0 1 "_law_square_free" ["_law_number"] (spSfL) := ⟨f15, _, ok_square_free F15 T , b15, k15, PySem.W.mg_of X G a15⟩
  have H_spoilt : Has l.prog w K mg base CX0 2 "_law_spoilt" ["_law_numbers", "_law_cell"] (spSpoil) := ⟨f16, _, ok_spoilt F16 T H_churn H_primes H_shared, b16, k16, PySem.W.mg_of X G a16⟩
  have H_due : Has l.prog w K mg base CX0 2 "_law_due" ["_law_numbers"] (spDue15) := ⟨f17, _, ok_due F17 T H_square_free H_shared, b17, k17, PySem.W.mg_of X G a17⟩
  have H_alone : Has l.prog w K mg base CX0 1 "_law_alone" ["_law_e", "_law_sort"] (spAloneS qc13 13) := ⟨f18, _, ok_alone F18 T , b18, k18, PySem.W.mg_of X G a18⟩
  have H_refused : Has l.prog w K mg base CX0 7 "_law_refused" ["_law_numbers"] (spRef15) := ⟨f19, _, ok_refused F19 T H_bad_places H_alone, b19, k19, PySem.W.mg_of X G a19⟩
  exact ok_law F20 T H_cell_at H_plain H_spoilt H_due H_is_plain H_refused
theorem walk {l : PySem.W.OpenLaw} {q : Program} {loose : List Str} {XP : (Str → Option Value) → Heap → Prop} {YP : World → Heap → Prop} {d : DefRec} {K : Params → PySem.W.Frag} (hn : l.most = some 63) (hdf : d.params.defaults = [])
    (hY : ∀ (w : World) (h : Heap), YP w h → (K w.params).In h)
    (F : ∀ (w : World) (mg : Str → Option Value) (fa : Addr) (h : Heap), (K w.params).In h → h.Ns mainGlobals mg → mg d.name = some (.ref fa) →
      ∃ fd : FuncData, (∀ (s : Shared) (u : Value), BindsTo s fd ⟨[u], []⟩ [("_law_script", u)]) ∧ ∀ base : Heap, (K w.params).In base → base.Ns mainGlobals mg → FnOk l.prog w (K w.params) mg base CX0 8 fa fd ["_law_script"] (spLaw (K w.params))) :
    PySem.W.WalkO q loose XP YP l.row.toRowW d [] (fun f vs => PySem.call f vs) :=
  L2.walk_b (n := 63) (k := 8) (x := "_law_script") (CX := fun _ => CX0) (sp := fun w => spLaw (K w.params)) hn (by decide) hdf ⟨rfl, by decide, by decide⟩ hY F (fun _ _ a ns hl hb hS => ⟨a, ns, rfl, hS, hl, hb, fun _ => rfl⟩) fun _ _ _ _ _ z => z
end K15
def PySem.W.Fast.tw12800973125906446019 : Unit := ()
def PySem.W.Fast.tw7320822479642474359 : Unit := ()
def PySem.W.Fast.tw7003471563489538609 : Unit := ()
def PySem.W.Fast.tw14582976219761327783 : Unit := ()
def PySem.W.Fast.tw3077042915050421324 : Unit := ()
def PySem.W.Fast.tw16574352506246298452 : Unit := ()
def PySem.W.Fast.tw6751131215640832772 : Unit := ()
def PySem.W.Fast.tw9754018770638516672 : Unit := ()
def PySem.W.Fast.tw3138786064570148583 : Unit := ()
def PySem.W.Fast.tw6706221810079703259 : Unit := ()
def PySem.W.Fast.tw9621864795746779542 : Unit := ()
def PySem.W.Fast.tw18325489108156727134 : Unit := ()
def PySem.W.Fast.tw16891640872605702692 : Unit := ()
def PySem.W.Fast.tw3858210772998971338 : Unit := ()
def PySem.W.Fast.tw15403098391859367699 : Unit := ()
def PySem.W.Fast.tw11295743616997665748 : Unit := ()
def PySem.W.Fast.tw5338302035173899025 : Unit := ()
def PySem.W.Fast.tw5927013317445607956 : Unit := ()
def PySem.W.Fast.tw8912572669941949931 : Unit := ()
def PySem.W.Fast.tw15659165877379457416 : Unit := ()
def PySem.W.Fast.tw4780123346095131526 : Unit := ()
def PySem.W.Fast.tw10908742730424978969 : Unit := ()
def PySem.W.Fast.tw11473774794486578811 : Unit := ()
open PySem PySem.W PyProof.Rows
set_option maxRecDepth 100000 in
set_option maxHeartbeats 0 in
theorem PySem.Challenge.cw_conicplaces_k15_plain_or_not_holds : PySem.Challenge.rw_conicplaces_k15_plain_or_not.Holds := by
  w_on; o_law; k_head; (case hw => w_witness2)
  k_fill
  refine K15.walk (l := PySem.Challenge.rw_conicplaces_k15_plain_or_not) rfl rfl (fun w h Y => PySem.W.kIn_of Y) ?F
  case F =>
    intro w mg fa h KX G hmg
    refine' K15.all_mk KX G hmg ?a1 ?l1 ?g1 ?k1 ?a2 ?l2 ?g2 ?k2 ?a3 ?l3 ?g3 ?k3 ?a4 ?l4 ?g4 ?k4 ?a5 ?l5 ?g5 ?k5 ?a6 ?l6 ?g6 ?k6 ?a7 ?l7 ?g7 ?k7 ?a8 ?l8 ?g8 ?k8 ?a9 ?l9 ?g9 ?k9 ?a10 ?l10 ?g10 ?k10 ?a11 ?l11 ?g11 ?k11 ?a12 ?l12 ?g12 ?k12 ?a13 ?l13 ?g13 ?k13 ?a14 ?l14 ?g14 ?k14 ?a15 ?l15 ?g15 ?k15 ?a16 ?l16 ?g16 ?k16 ?a17 ?l17 ?g17 ?k17 ?a18 ?l18 ?g18 ?k18 ?a19 ?l19 ?g19 ?k19 ?a20 ?l20 ?g20 ?k20 ?xm_CurveError ?xm_BadPlace ?xm_Flat ?xm_NoBack ?xm_NoJoin ?xm_NoLine ?xm_NoName ?xm_NoNumber ?xm_NoPair ?xm_NoPlace ?xm_NoRow ?xm_NoSign ?xm_NoText ?xm_NoVertex ?xm_NotPlain ?xm_OffCurve ?xi_ce ?xi_0 ?xi_1 ?xi_2 ?xi_3 ?xi_4 ?xi_5 ?xi_6 ?xi_7 ?xi_8 ?xi_9 ?xi_10 ?xi_11 ?xi_12 ?xi_13 ?xi_14 ?xi_ve ?xe0 ?xe1 ?xe2 ?xe3 ?xe4 ?xe5 ?xe6 ?xe7 ?xx_NotPlain ?xx_CurveError ?xu_NotPlain ?xi_ib ?xz_isinstance ?xz_int ?xz_bool ?xz_len ?xz_range ?xz_all ?xz_abs ?xz_tuple ?xz_list ?xz_ValueError
    (case a1 => k_is)
    (case l1 => k_is)
    (case g1 => k_is)
    (case k1 => k_is)
    (case a2 => k_is)
    (case l2 => k_is)
    (case g2 => k_is)
    (case k2 => k_is)
    (case a3 => k_is)
    (case l3 => k_is)
    (case g3 => k_is)
    (case k3 => k_is)
    (case a4 => k_is)
    (case l4 => k_is)
    (case g4 => k_is)
    (case k4 => k_is)
    (case a5 => k_is)
    (case l5 => k_is)
    (case g5 => k_is)
    (case k5 => k_is)
    (case a6 => k_is)
    (case l6 => k_is)
    (case g6 => k_is)
    (case k6 => k_is)
    (case a7 => k_is)
    (case l7 => k_is)
    (case g7 => k_is)
    (case k7 => k_is)
    (case a8 => k_is)
    (case l8 => k_is)
    (case g8 => k_is)
    (case k8 => k_is)
    (case a9 => k_is)
    (case l9 => k_is)
    (case g9 => k_is)
    (case k9 => k_is)
    (case a10 => k_is)
    (case l10 => k_is)
    (case g10 => k_is)
    (case k10 => k_is)
    (case a11 => k_is)
    (case l11 => k_is)
    (case g11 => k_is)
    (case k11 => k_is)
    (case a12 => k_is)
    (case l12 => k_is)
    (case g12 => k_is)
    (case k12 => k_is)
    (case a13 => k_is)
    (case l13 => k_is)
    (case g13 => k_is)
    (case k13 => k_is)
    (case a14 => k_is)
    (case l14 => k_is)
    (case g14 => k_is)
    (case k14 => k_is)
    (case a15 => k_is)
    (case l15 => k_is)
    (case g15 => k_is)
    (case k15 => k_is)
    (case a16 => k_is)
    (case l16 => k_is)
    (case g16 => k_is)
    (case k16 => k_is)
    (case a17 => k_is)
    (case l17 => k_is)
    (case g17 => k_is)
    (case k17 => k_is)
    (case a18 => k_is)
    (case l18 => k_is)
    (case g18 => k_is)
    (case k18 => k_is)
    (case a19 => k_is)
    (case l19 => k_is)
    (case g19 => k_is)
    (case k19 => k_is)
    (case a20 => k_is)
    (case l20 => k_is)
    (case g20 => k_is)
    (case k20 => k_is)
    (case xm_CurveError => k_is)
    (case xm_BadPlace => k_is)
    (case xm_Flat => k_is)
    (case xm_NoBack => k_is)
    (case xm_NoJoin => k_is)
    (case xm_NoLine => k_is)
    (case xm_NoName => k_is)
    (case xm_NoNumber => k_is)
    (case xm_NoPair => k_is)
    (case xm_NoPlace => k_is)
    (case xm_NoRow => k_is)
    (case xm_NoSign => k_is)
    (case xm_NoText => k_is)
    (case xm_NoVertex => k_is)
    (case xm_NotPlain => k_is)
    (case xm_OffCurve => k_is)
    (case xi_ce => kernel_rfl)
    (case xi_0 => kernel_rfl)
    (case xi_1 => kernel_rfl)
    (case xi_2 => kernel_rfl)
    (case xi_3 => kernel_rfl)
    (case xi_4 => kernel_rfl)
    (case xi_5 => kernel_rfl)
    (case xi_6 => kernel_rfl)
    (case xi_7 => kernel_rfl)
    (case xi_8 => kernel_rfl)
    (case xi_9 => kernel_rfl)
    (case xi_10 => kernel_rfl)
    (case xi_11 => kernel_rfl)
    (case xi_12 => kernel_rfl)
    (case xi_13 => kernel_rfl)
    (case xi_14 => kernel_rfl)
    (case xi_ve => kernel_rfl)
    (case xe0 => kernel_rfl)
    (case xe1 => kernel_rfl)
    (case xe2 => kernel_rfl)
    (case xe3 => kernel_rfl)
    (case xe4 => kernel_rfl)
    (case xe5 => kernel_rfl)
    (case xe6 => kernel_rfl)
    (case xe7 => kernel_rfl)
    (case xx_NotPlain => kernel_rfl)
    (case xx_CurveError => kernel_rfl)
    (case xu_NotPlain => kernel_rfl)
    (case xi_ib => kernel_rfl)
    (case xz_isinstance => k_is)
    (case xz_int => k_is)
    (case xz_bool => k_is)
    (case xz_len => k_is)
    (case xz_range => k_is)
    (case xz_all => k_is)
    (case xz_abs => k_is)
    (case xz_tuple => k_is)
    (case xz_list => k_is)
    (case xz_ValueError => k_is)
