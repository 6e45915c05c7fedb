import PyProof.Rows.All
import Wide.All
import OpenK.AllK
import Wide.FinOn
import Lean
import PyProof.EqAt
import PyProof.EqKinds
import PyProof.TupleCall
import PyProof.CompFree
import PyProof.ConsumeWalk
import PyProof.CompMap
import KE.IntBitsLaws
import KE.KDictSum
import PyProof.Rows.EqDataRows
import PyProof.Rows.SortWalk
import KE.KLcPair
import PyProof.Cells
import PyProof.SumAny
import PyProof.ZipIter
import PyProof.Rows.ZipGen
import PyProof.Rows.FactsT2
import PyProof.WalkInts
import PyProof.SeqI3
import KE.KEqSeq
import PyProof.Rows.Range3
import PyProof.Rows.ChunkLeaf
import PyProof.InstStoreFacts
import PyProof.ExcClass3
import PyProof.ExcInit
import PySem.Challenge.RW_conicplaces_k17_pair_signs
set_option Elab.async false
set_option linter.all false
set_option maxRecDepth 100000
set_option maxHeartbeats 4000000
namespace L2
open PySem PySem.Spec PyProof.Rows

abbrev Key := Sum Int Str
def keyIs : Key → Value → Bool
  | .inl k, v => Value.isInt k v
  | .inr x, v => Value.isStrOf x v
def keyH (w : World) : Key → Int
  | .inl k => hashInt k
  | .inr x => hashStr w x
theorem keyIs_shape : ∀ {k : Key} {v : Value}, keyIs k v = true → (∃ i t, k = Sum.inl i ∧ v = Value.int i t) ∨ (∃ x t, k = Sum.inr x ∧ v = Value.str x t)
  | .inl i, v, h => by
    obtain ⟨t, e⟩ := Value.isInt_shape (k := i) (v := v) h
    exact .inl ⟨i, t, rfl, e⟩
  | .inr x, v, h => by
    obtain ⟨t, e⟩ := Value.isStrOf_shape (x := x) (v := v) h
    exact .inr ⟨x, t, rfl, e⟩
theorem key_ll (a b : Int) : decide ((Sum.inl a : Key) = Sum.inl b) = (a == b) := by
  by_cases e : a = b
  · subst e; simp
  · have h : ¬ (Sum.inl a : Key) = Sum.inl b := fun q => e (Sum.inl.inj q)
    rw [decide_eq_false h]
    exact (beq_eq_false_iff_ne.mpr e).symm
theorem key_rr (a b : Str) : decide ((Sum.inr a : Key) = Sum.inr b) = decide (a = b) := by
  by_cases e : a = b
  · subst e; simp
  · have h : ¬ (Sum.inr a : Key) = Sum.inr b := fun q => e (Sum.inr.inj q)
    rw [decide_eq_false h, decide_eq_false e]
theorem key_lr (a : Int) (b : Str) : decide ((Sum.inl a : Key) = Sum.inr b) = false := decide_eq_false (fun q => nomatch q)
theorem key_rl (a : Str) (b : Int) : decide ((Sum.inr a : Key) = Sum.inl b) = false := decide_eq_false (fun q => nomatch q)

def mixKind (prog : Program) (w : World) : PySem.KeyKind prog w Key where
  is := keyIs
  hash := keyH w
  inj := fun v a b ha hb => by
    rcases keyIs_shape ha with ⟨i, t, rfl, rfl⟩ | ⟨x, t, rfl, rfl⟩
    · rcases keyIs_shape hb with ⟨j, u, rfl, e⟩ | ⟨y, u, rfl, e⟩
      · injection e with e1 _; rw [e1]
      · exact nomatch e
    · rcases keyIs_shape hb with ⟨j, u, rfl, e⟩ | ⟨y, u, rfl, e⟩
      · exact nomatch e
      · injection e with e1 _; rw [e1]
  byValue := fun k v h => by
    rcases keyIs_shape h with ⟨i, t, rfl, rfl⟩ | ⟨x, t, rfl, rfl⟩ <;> rfl
  pyHash := fun hv h => by
    rcases keyIs_shape hv with ⟨i, t, rfl, rfl⟩ | ⟨x, t, rfl, rfl⟩
    · exact wpAny_pyHash_int h
    · exact wpAny_pyHash_str h
  eqBool := fun hu hv h => by
    rcases keyIs_shape hu with ⟨i, t, rfl, rfl⟩ | ⟨x, t, rfl, rfl⟩
    · rcases keyIs_shape hv with ⟨j, u, rfl, rfl⟩ | ⟨y, u, rfl, rfl⟩
      · rw [key_ll] at h; exact wpAny_eqBool_int h
      · rw [key_lr] at h; exact SeqAt.EqAt.int_str i t y u _ _ _ _ h
    · rcases keyIs_shape hv with ⟨j, u, rfl, rfl⟩ | ⟨y, u, rfl, rfl⟩
      · rw [key_rl] at h; exact SeqAt.EqAt.str_int x t j u _ _ _ _ h
      · rw [key_rr] at h; exact wpAny_eqBool_str h
  «strs» := fun k x t v h => by
    rcases keyIs_shape h with ⟨i, u, rfl, e⟩ | ⟨y, u, rfl, e⟩
    · exact nomatch e
    · injection e with e1 _
      subst e1
      cases v <;> rfl

end L2

namespace L2
open PySem PySem.Spec PyProof.Rows

inductive V where
  | non | bl (b : Bool) | int (i : Int) | str (x : Str) | byt (b : Array UInt8) | flt (b : UInt64) | ref (a : Addr) | ty (n : String)
  deriving DecidableEq

def RelV : V → Value → Prop
  | .non, u => u = Value.none
  | .bl b, u => u = Value.bool b
  | .int i, u => ∃ t, u = Value.int i t
  | .str x, u => ∃ t, u = Value.str x t
  | .byt b, u => ∃ t, u = Value.bytes b t
  | .flt b, u => ∃ t, u = Value.float b t
  | .ref a, u => u = Value.ref a
  | .ty n, u => u = Value.type n

abbrev Vals : List V → List Value → Prop := Paired RelV
theorem Vals.length {xs : List V} {us : List Value} (r : Vals xs us) : xs.length = us.length := Paired.length r
theorem Vals.get : ∀ {xs : List V} {us : List Value} {i : Nat} {x : V}, Vals xs us → xs[i]? = some x → ∃ u, us[i]? = some u ∧ RelV x u
  | _, _, _, _, .nil, e => by simp at e
  | _, _, 0, _, .cons r _, e => by simp at e; subst e; exact ⟨_, rfl, r⟩
  | _, _, i + 1, x, .cons _ t, e => by
    obtain ⟨u, h1, h2⟩ := Vals.get (i := i) (x := x) t (by simpa using e)
    exact ⟨u, by simpa using h1, h2⟩
theorem Vals.append : ∀ {xs ys : List V} {us ws : List Value}, Vals xs us → Vals ys ws → Vals (xs ++ ys) (us ++ ws)
  | _, _, _, _, .nil, s => s
  | _, _, _, _, .cons r t, s => .cons r (Vals.append t s)
def RelO : Option V → Option Value → Prop
  | some v, some u => RelV v u
  | none, none => True
  | _, _ => False
def KV {κ : Type} : List (κ × V) → List (κ × Value) → Prop := Paired fun (p : κ × V) (q : κ × Value) => p.1 = q.1 ∧ RelV p.2 q.2

def kV : Key → V
  | .inl i => .int i
  | .inr x => .str x

inductive HO where
  /-- a list -/
  | lst (xs : List V)
  /-- a tuple (never changes) -/
  | tup (xs : List V)
  /-- a dict whose keys are ints and texts; one whose keys are tuples of ints and texts (the empty one is both) -/
  | dK (kvs : List (Key × V)) | dT (kvs : List (List Key × V))
  /-- a set of ints: its members, its size -/
  | set (S : Int → Bool) (n : Nat)
  /-- an instance of the class at C, its dict at dx, its attributes -/
  | ins (C dx : Addr) (fs : List (Str × V))
  /-- the dict of the instance at x -/
  | own (x : Addr)
  /-- the dict of an exception -/
  | xd (fs : List (Str × V))
  /-- a bound method, f of x -/
  | met (f x : Addr)
  /-- a range object lo, lo + 1, .. below hi -/
  | rng (lo hi : Int)
  /-- a thing that is known to the object (the script; a dict while a loop walks it): read, never written while it is so -/
  | frz (o : Obj) (u : HO)
  /-- a code object's table -/
  | tbl (ps : Array Value)
  /-- any other thing, by what is true of its one object (a def of one's own: SetO a S n := HO.ext fun h => ..) -/
  | ext (φ : Heap → Prop)

abbrev Hp := Addr → Option HO
def upd (H : Hp) (a : Addr) (o : HO) : Hp := fun b => if b = a then some o else H b
theorem upd_same {H : Hp} {a : Addr} {o : HO} : upd H a o a = some o := by unfold upd; rw [if_pos rfl]
theorem upd_ne {H : Hp} {a b : Addr} {o : HO} (h : b ≠ a) : upd H a o b = H b := by unfold upd; rw [if_neg h]
theorem ne_of_none {H : Hp} {a b : Addr} {o : HO} (h : H a = some o) (h' : H b = none) : a ≠ b := by
  intro e; subst e; rw [h] at h'; cases h'

section
variable (P : Program) (w : World)
def ObjOk (H : Hp) (h : Heap) (a : Addr) : HO → Prop
  | .lst xs => xs.length ≤ sizeLine ∧ ∃ (its : List Value) (n : Nat), Vals xs its ∧ h.get? a = some { cls := .type "list", data := .seq its.toArray n }
  | .tup xs => xs.length ≤ sizeLine ∧ ∃ its : List Value, Vals xs its ∧ IsTup h a its.toArray
  | .dK kvs => kvs.length ≤ sizeLine ∧ (a == sysModules) = false ∧ ∃ vs, KV kvs vs ∧ h.DictOf (mixKind P w) a vs
  | .dT kvs => kvs.length ≤ sizeLine ∧ (a == sysModules) = false ∧ ∃ xs : List (List Key × Addr × Value),
      Paired (fun (p : List Key × V) (q : List Key × Addr × Value) => p.1 = q.1 ∧ H q.2.1 = some (.tup (p.1.map kV)) ∧ RelV p.2 q.2.2) kvs xs ∧
      ∃ o es ep, h.get? a = some o ∧ o.ExactDict ∧ o.data = .dict es ep ∧ es.toList = xs.map (entryOfKey (tupleKind (mixKind P w))) ∧ (xs.map (·.1)).Nodup
  | .set S n => h.SetOf (intKind P w) a S n
  | .ins C dx fs => H dx = some (.own a) ∧ fs.length ≤ 1000 ∧ dx ≠ a ∧ h.get? a = some (PySem.W.instObj C dx) ∧
      ∃ mA, h.Ns1 dx mA ∧ (∀ f, RelO (fs.lookup f) (mA f)) ∧ PySem.Within mA (fs.map (·.1))
  | .own _ => ∃ o, h.get? a = some o
  | .xd fs => ∃ mA, h.Ns1 a mA ∧ ∀ f, RelO (fs.lookup f) (mA f)
  | .rng lo hi => ∃ t u v, h.get? a = some { cls := .type "range", data := .fields #[.int lo t, .int hi u, .int 1 v] }
  | .frz o u => h.get? a = some o ∧ ObjOk H h a u
  | .tbl ps => h.get? a = some { cls := .none, data := .fields ps }
  | .met f x => h.get? a = some (PySem.W.methodObj (.ref f) (.ref x))
  | .ext φ => φ h ∧ (∃ o, h.get? a = some o) ∧ ∀ h1 h2 : Heap, φ h1 → (∀ o, h1.get? a = some o → h2.get? a = some o) → φ h2
def HOk (H : Hp) (h : Heap) : Prop := ∀ a o, H a = some o → ObjOk P w H h a o
end

section
variable {P : Program} {w : World} {H H' : Hp} {h h' : Heap} {a : Addr} {o : HO}
theorem ObjOk.lt (x : ObjOk P w H h a o) : a < h.objs.size := by
  cases o with
  | lst xs => obtain ⟨_, _, _, _, e⟩ := x; exact Heap.lt_size e
  | tup xs => obtain ⟨_, _, _, p⟩ := x; exact p.lt
  | dK kvs => obtain ⟨_, _, _, _, o, _, _, e, _⟩ := x; exact Heap.lt_size e
  | dT kvs => obtain ⟨_, _, _, _, o, _, _, e, _⟩ := x; exact Heap.lt_size e
  | set S n => obtain ⟨o, _, _, _, e, _⟩ := x; exact Heap.lt_size e
  | ins C dx fs => obtain ⟨_, _, _, e, _⟩ := x; exact Heap.lt_size e
  | own y => obtain ⟨_, e⟩ := x; exact Heap.lt_size e
  | xd fs => obtain ⟨_, ⟨_, _, _, e, _⟩, _⟩ := x; exact Heap.lt_size e
  | rng lo hi => obtain ⟨_, _, _, e⟩ := x; exact Heap.lt_size e
  | frz ob u => obtain ⟨e, _⟩ := x; exact Heap.lt_size e
  | tbl ps => exact Heap.lt_size (show h.get? a = some _ from x)
  | met f y => exact Heap.lt_size (show h.get? a = some _ from x)
  | ext φ => obtain ⟨_, ⟨_, e⟩, _⟩ := x; exact Heap.lt_size e
theorem Paired.mapP {α β : Type} {F G : α → β → Prop} : ∀ {l₁ : List α} {l₂ : List β}, Paired F l₁ l₂ → (∀ a b, F a b → G a b) → Paired G l₁ l₂
  | _, _, .nil, _ => .nil
  | _, _, .cons r t, f => .cons (f _ _ r) (Paired.mapP t f)
theorem ObjOk.stay (x : ObjOk P w H h a o) (k : ∀ b u, (b = a ∨ H b = some (.own a)) → h.get? b = some u → h'.get? b = some u)
    (ho : ∀ b, H b = some (.own a) → H' b = some (.own a)) (ht : ∀ b xs, H b = some (.tup xs) → H' b = some (.tup xs)) : ObjOk P w H' h' a o := by
  induction o with
  | lst xs => obtain ⟨z, its, n, r, e⟩ := x; exact ⟨z, its, n, r, k _ _ (.inl rfl) e⟩
  | tup xs => obtain ⟨z, its, r, ob, e, c⟩ := x; exact ⟨z, its, r, ob, k _ _ (.inl rfl) e, c⟩
  | dK kvs => obtain ⟨z, y, vs, r, ob, es, ep, e, c⟩ := x; exact ⟨z, y, vs, r, ob, es, ep, k _ _ (.inl rfl) e, c⟩
  | dT kvs =>
    obtain ⟨z, y, xs, r, ob, es, ep, e, c⟩ := x
    exact ⟨z, y, xs, Paired.mapP r fun p q z => ⟨z.1, ht _ _ z.2.1, z.2.2⟩, ob, es, ep, k _ _ (.inl rfl) e, c⟩
  | set S n => obtain ⟨ob, es, ep, t, e, c⟩ := x; exact ⟨ob, es, ep, t, k _ _ (.inl rfl) e, c⟩
  | ins C dx fs =>
    obtain ⟨d, z, ne, e, mA, ⟨od, es, ep, e2, c⟩, r⟩ := x
    exact ⟨ho _ d, z, ne, k _ _ (.inl rfl) e, mA, ⟨od, es, ep, k _ _ (.inr d) e2, c⟩, r⟩
  | own y => obtain ⟨ob, e⟩ := x; exact ⟨ob, k _ _ (.inl rfl) e⟩
  | xd fs => obtain ⟨mA, ⟨od, es, ep, e, c⟩, r⟩ := x; exact ⟨mA, ⟨od, es, ep, k _ _ (.inl rfl) e, c⟩, r⟩
  | rng lo hi => obtain ⟨t, u, v, e⟩ := x; exact ⟨t, u, v, k _ _ (.inl rfl) e⟩
  | frz ob u ih => obtain ⟨e, q⟩ := x; exact ⟨k _ _ (.inl rfl) e, ih q⟩
  | tbl ps =>
    have e : h.get? a = some { cls := .none, data := .fields ps } := x
    show h'.get? a = some { cls := .none, data := .fields ps }
    exact k a _ (.inl rfl) e
  | met f y =>
    have e : h.get? a = some (PySem.W.methodObj (.ref f) (.ref y)) := x
    show h'.get? a = some (PySem.W.methodObj (.ref f) (.ref y))
    exact k a _ (.inl rfl) e
  | ext φ => obtain ⟨p, ⟨o, e⟩, st⟩ := x; exact ⟨st _ _ p fun o q => k _ _ (.inl rfl) q, ⟨o, k _ _ (.inl rfl) e⟩, st⟩
theorem HOk.lt (x : HOk P w H h) (e : H a = some o) : a < h.objs.size := (x a o e).lt
theorem HOk.fresh (x : HOk P w H h) (e : h.objs.size ≤ a) : H a = none := by
  cases q : H a with
  | none => rfl
  | some u => exact absurd (Nat.lt_of_lt_of_le (x.lt q) e) (Nat.lt_irrefl _)
theorem HOk.kept (x : HOk P w H h) (k : ∀ b u, h.get? b = some u → h'.get? b = some u) : HOk P w H h' := fun a o e =>
  (x a o e).stay (fun b u _ q => k b u q) (fun _ q => q) fun _ _ q => q
theorem HOk.laid (x : HOk P w H h) (k : ∀ b u, h.get? b = some u → h'.get? b = some u) (hp : h.objs.size ≤ a) (new : ObjOk P w (upd H a o) h' a o) : HOk P w (upd H a o) h' := fun b u e => by
  have hn := x.fresh hp
  by_cases hb : b = a
  · subst hb; rw [upd_same] at e; cases e; exact new
  · rw [upd_ne hb] at e
    exact (x b u e).stay (fun c v _ q => k c v q) (fun c q => by rw [upd_ne (ne_of_none q hn)]; exact q) fun c xs q => by rw [upd_ne (ne_of_none q hn)]; exact q
end

def Rd (H : Hp) (a : Addr) (u : HO) : Prop := H a = some u ∨ ∃ o, H a = some (.frz o u)
theorem Rd.ok {P : Program} {w : World} {H : Hp} {h : Heap} {a : Addr} {u : HO} (r : Rd H a u) (x : HOk P w H h) : ObjOk P w H h a u := by
  rcases r with r | ⟨o, r⟩
  · exact x a u r
  · obtain ⟨_, q⟩ := x a _ r
    exact q
def Mut : Option HO → Prop
  | some (.lst _) => True
  | some (.dK _) => True
  | some (.dT _) => True
  | some (.set _ _) => True
  | some (.ins _ _ _) => True
  | some (.ext _) => True
  | _ => False
section
variable {P : Program} {w : World} {H : Hp} {h h' : Heap} {x e : Addr} {o' : HO}
theorem HOk.write (ok : HOk P w H h) (mu : Mut (H x)) (he : e = x ∨ H e = some (.own x)) (k : ∀ b u, b ≠ e → h.get? b = some u → h'.get? b = some u) (heo : ∃ u, h'.get? e = some u)
    (new : ObjOk P w (upd H x o') h' x o') : HOk P w (upd H x o') h' := fun b u q => by
  have nown : ∀ c y, H c = some (.own y) → c ≠ x := fun c y r z => by subst z; rw [r] at mu; exact mu
  have ntup : ∀ c xs, H c = some (.tup xs) → c ≠ x := fun c xs r z => by subst z; rw [r] at mu; exact mu
  by_cases hb : b = x
  · subst hb; rw [upd_same] at q; cases q; exact new
  · rw [upd_ne hb] at q
    by_cases hbe : b = e
    · have q' : H b = some (.own x) := by
        rcases he with z | z
        · exact absurd (hbe.trans z) hb
        · rw [hbe]; exact z
      rw [q] at q'; cases q'
      obtain ⟨v, hv⟩ := heo
      exact ⟨v, by rw [hbe]; exact hv⟩
    · refine (ok b u q).stay (fun c v hc r => k c v ?_ r) (fun c r => by rw [upd_ne (nown c b r)]; exact r) fun c xs r => by rw [upd_ne (ntup c xs r)]; exact r
      rcases hc with rfl | hc
      · exact hbe
      · rintro rfl
        rcases he with z | z
        · exact nown c b hc z
        · rw [hc] at z; cases z; exact hb rfl
end

structure Un (fs ex : List Addr) (H H' : Hp) (h h' : Heap) : Prop where
  keep : ∀ b o, h.get? b = some o → H b = none → b ∉ fs → b ∉ ex → h'.get? b = some o
  slot : ∀ b o, h.get? b = some o → H b = none → b ∈ fs → b ∉ ex → ∃ sl, h'.get? b = some { o with slots := sl }
  free : ∀ b o, h.get? b = some o → H b = none → b ∉ ex → H' b = none
  there : ∀ b o, h.get? b = some o → b ∉ ex → ∃ o', h'.get? b = some o'
  tups : ∀ b xs, H b = some (.tup xs) → H' b = some (.tup xs)
  frzs : ∀ b o u, H b = some (.frz o u) → H' b = some (.frz o u)
  tbls : ∀ b ps, H b = some (.tbl ps) → ∃ more, H' b = some (.tbl (ps ++ more))
section
variable {fs fs' ex ex' : List Addr} {H H1 H2 : Hp} {h h1 h2 h' : Heap} {a x e : Addr} {o : HO}
theorem Un.any (u : Un fs ex H H1 h h1) {b : Addr} {ob : Obj} (q : h.get? b = some ob) (n : H b = none) (hx : b ∉ ex) : ∃ sl, h1.get? b = some { ob with slots := sl } := by
  by_cases hb : b ∈ fs
  · exact u.slot b ob q n hb hx
  · exact ⟨ob.slots, u.keep b ob q n hb hx⟩
theorem Un.kept (k : ∀ b u, h.get? b = some u → h'.get? b = some u) : Un fs ex H H h h' :=
  ⟨fun b ob q _ _ _ => k b ob q, fun b ob q _ _ _ => ⟨ob.slots, k b ob q⟩, fun _ _ _ n _ => n, fun b ob q _ => ⟨ob, k b ob q⟩, fun _ _ q => q, fun _ _ _ q => q, fun _ ps q => ⟨#[], by rw [q]; simp⟩⟩
theorem Un.refl : Un fs ex H H h h := Un.kept fun _ _ q => q
theorem Un.laid (k : ∀ b u, h.get? b = some u → h'.get? b = some u) (hp : h.objs.size ≤ a) (hn : H a = none) : Un fs ex H (upd H a o) h h' where
  keep := fun b u q _ _ _ => k b u q
  slot := fun b u q _ _ _ => ⟨u.slots, k b u q⟩
  free := fun b u q n _ => by rw [upd_ne (Nat.ne_of_lt (Nat.lt_of_lt_of_le (Heap.lt_size q) hp))]; exact n
  there := fun b u q _ => ⟨u, k b u q⟩
  tups := fun b xs q => by rw [upd_ne (ne_of_none q hn)]; exact q
  frzs := fun b u xs q => by rw [upd_ne (ne_of_none q hn)]; exact q
  tbls := fun b ps q => ⟨#[], by rw [upd_ne (ne_of_none q hn), q]; simp⟩
theorem Un.write (mu : Mut (H x)) (he : e = x ∨ H e = some (.own x)) (k : ∀ b u, b ≠ e → h.get? b = some u → h'.get? b = some u) (heo : ∃ u, h'.get? e = some u) : Un fs ex H (upd H x o) h h' := by
  have hx : ∀ b, H b = none → b ≠ x := fun b n z => by subst z; rw [n] at mu; exact mu
  have hb : ∀ b, H b = none → b ≠ e := fun b n z => by
    subst z
    rcases he with r | r
    · exact hx b n r
    · rw [n] at r; cases r
  have hm : ∀ b u, H b = some u → ¬ Mut (some u) → b ≠ x := fun b u q nm z => by subst z; rw [q] at mu; exact nm mu
  refine ⟨fun b u q n _ _ => k b u (hb b n) q, fun b u q n _ _ => ⟨u.slots, k b u (hb b n) q⟩, fun b u q n _ => by rw [upd_ne (hx b n)]; exact n, fun b u q _ => ?_,
    fun b xs q => by rw [upd_ne (hm b _ q fun z => z)]; exact q, fun b u xs q => by rw [upd_ne (hm b _ q fun z => z)]; exact q, fun b ps q => ⟨#[], by rw [upd_ne (hm b _ q fun z => z), q]; simp⟩⟩
  by_cases hbe : b = e
  · subst hbe; exact heo
  · exact ⟨u, k b u hbe q⟩
end

def trk (h : Heap) (H : Hp) : List Addr := (List.range h.objs.size).filter fun a => (H a).isSome
def hidT (h : Heap) (H : Hp) : Heap := PySem.W.hideAll h (trk h H)
theorem hidT_size (h : Heap) (H : Hp) : (hidT h H).objs.size = h.objs.size := PySem.W.hideAll_size _ _
theorem hidT_get {h : Heap} {H : Hp} {b : Addr} {o : Obj} (e : h.get? b = some o) (n : H b = none) : (hidT h H).get? b = some o :=
  PySem.W.hideAll_get _ e fun hm => by
    have q : (H b).isSome = true := (List.mem_filter.mp hm).2
    rw [n] at q; simp at q
theorem of_hidT {h : Heap} {H : Hp} {b : Addr} {o : Obj} (e : (hidT h H).get? b = some o) : h.get? b = some o ∧ H b = none := by
  have e' : h.get? b = some o := PySem.W.of_hideAll (trk h H) e
  refine ⟨e', ?_⟩
  cases q : H b with
  | none => rfl
  | some x =>
    have hm : b ∈ trk h H := List.mem_filter.mpr ⟨List.mem_range.mpr (Heap.lt_size e'), by simp [q]⟩
    have z : (hidT h H).get? b = none := PySem.W.hideAll_none (trk h H) hm
    rw [z] at e; cases e

def allNews (g h : Heap) (L : Addr) : List (Addr × Obj) := (List.range h.objs.size).filterMap fun a => if a = L ∨ (g.get? a).isSome = true then none else (h.get? a).map fun o => (a, o)
def rest (g h : Heap) (L d : Addr) : List (Addr × Obj) := (allNews g h L).filter fun p => decide (p.1 ≠ d)
end L2

namespace L2
open PySem PySem.Spec PyProof.Rows

structure Mod (K : PySem.W.Frag) (mg : Str → Option Value) (base : Heap) : Prop where
  kin : K.In base
  glob : base.Ns mainGlobals mg
  blt : ∃ mb, base.Ns builtinsNs mb ∧ ∀ x : Str, x ≠ "__name__" → mb x = bootBuiltins x
  nolimit : base.NoLimit

structure Cx where
  prog : Program
  w : World
  K : PySem.W.Frag
  mg : Str → Option Value
  base : Heap
  A : Around
  N : List Str
  s₀ : Shared
  H₀ : Hp
  env : Env
  outer : List Env
  stack : List Env
  ex : List Addr
  fn : Str → Bool
  calm : Bool
  pn : List (Addr × Obj)
  xe : Value → Shared → Prop
def frs (l : List Env) : List Addr := l.filterMap (·.frame)
abbrev Cx.fs (X : Cx) : List Addr := frs X.outer

def Vis (sc : Scope) (x : Str) : Prop := sc.names.lookup x = some .local ∨ sc.names.lookup x = some .cell ∨ sc.names.lookup x = some .free
def Loc (sc : Scope) (x : Str) : Prop := sc.names.lookup x = some .local ∨ sc.names.lookup x = some .cell
def Look (env : Env) (h : Heap) (m : Str → Option Value) (x : Str) (u : Value) : Prop :=
  (env.kindOf x = some .local ∧ m x = some u) ∨ ((env.kindOf x = some .cell ∨ env.kindOf x = some .free) ∧ ∃ c, env.cells.lookup x = some c ∧ h.IsCell c (some u))

structure Cx.Ok (X : Cx) : Prop where
  mod : Mod X.K X.mg X.base
  kind : X.env.scope.kind = .function
  glob : X.env.globals = mainGlobals
  blt : X.env.builtins = builtinsNs
  above : X.s₀.heap.objs.size ≤ X.env.locals
  inj : ∀ x y c, X.env.cells.lookup x = some c → X.env.cells.lookup y = some c → x = y
  has : ∀ x, (X.env.kindOf x = some .cell ∨ X.env.kindOf x = some .free) → ∃ c, X.env.cells.lookup x = some c
  cab : ∀ x c, X.fn x = true → X.env.cells.lookup x = some c → X.s₀.heap.objs.size ≤ c
  hd : X.calm = true → X.A.handled = none
  frames : X.A.frames = some X.stack
  stk : X.stack = X.outer ∨ (X.stack = X.env :: X.outer ∧ X.env.frame = some X.env.locals)
  exf : ∀ b ∈ X.ex, b ≠ X.env.locals ∧ ∀ x c, X.env.cells.lookup x = some c → c ≠ b
  bs : ∀ b o, X.base.get? b = some o → X.s₀.heap.get? b = some o ∧ X.H₀ b = none
  bsz : X.base.objs.size ≤ X.s₀.heap.objs.size
  noex : ∀ b o, X.base.get? b = some o → b ∉ X.ex
  exfs : ∀ b ∈ X.ex, b ∉ X.fs
  funs : X.s₀.heap.FunFrames X.base X.outer
  frf : ∀ b ∈ X.fs, X.H₀ b = none

structure Inv (X : Cx) (pins : List (Addr × Obj)) (σ : List (Option V)) (H : Hp) (s : Shared) : Prop where
  ok : X.Ok
  os : s.os = X.s₀.os
  bare : AllBare s.gens
  base : Un X.fs X.ex X.H₀ H X.s₀.heap s.heap
  loc : ∃ m, s.heap.Ns X.env.locals m ∧ ∀ (i : Nat) (x : Str) (v : V), X.N[i]? = some x → σ[i]? = some (some v) → Vis X.env.scope x → ∃ u, RelV v u ∧ Look X.env s.heap m x u
  cell : ∀ x c, X.env.cells.lookup x = some c → ∃ v, s.heap.IsCell c v
  free : H X.env.locals = none
  freeC : ∀ x c, X.env.cells.lookup x = some c → H c = none
  pin : ∀ p ∈ X.pn ++ pins, s.heap.get? p.1 = some p.2 ∧ H p.1 = none ∧ p.1 ≠ X.env.locals ∧ p.1 ∉ X.fs ∧ ∀ v, p.2.data ≠ .cell v
  hok : HOk X.prog X.w H s.heap
  len : σ.length = X.N.length

section
variable {X : Cx} {pins : List (Addr × Obj)} {σ : List (Option V)} {H H' : Hp} {s : Shared} {h' : Heap}

theorem Cx.Ok.nofr (ok : X.Ok) {b : Addr} {o : Obj} (e : X.base.get? b = some o) : b ∉ X.fs := fun hb => by
  have := (ok.funs.mem hb).1
  rw [e] at this; cases this
theorem Inv.bs (I : Inv X pins σ H s) : ∀ b o, X.base.get? b = some o → s.heap.get? b = some o ∧ H b = none := fun b o e =>
  ⟨I.base.keep b o (I.ok.bs b o e).1 (I.ok.bs b o e).2 (I.ok.nofr e) (I.ok.noex b o e), I.base.free b o (I.ok.bs b o e).1 (I.ok.bs b o e).2 (I.ok.noex b o e)⟩
theorem Inv.bk (I : Inv X pins σ H s) : ∀ b o, X.base.get? b = some o → s.heap.get? b = some o := fun b o e => (I.bs b o e).1
theorem Inv.mod (I : Inv X pins σ H s) : Mod X.K X.mg X.base := I.ok.mod
theorem Inv.kIn (I : Inv X pins σ H s) : X.K.In s.heap := I.ok.mod.kin.keeps I.bk
theorem Inv.lt (I : Inv X pins σ H s) : X.env.locals < s.heap.objs.size := let ⟨_, hn, _⟩ := I.loc; hn.lt
theorem Inv.sz (I : Inv X pins σ H s) : X.s₀.heap.objs.size ≤ s.heap.objs.size := Nat.le_trans I.ok.above (Nat.le_of_lt I.lt)
theorem Inv.nofs (I : Inv X pins σ H s) {a : Addr} (h : s.heap.objs.size ≤ a) : a ∉ X.fs := fun hb => by
  obtain ⟨_, o, ho, _⟩ := I.ok.funs.mem hb
  exact absurd (Nat.lt_of_lt_of_le (Heap.lt_size ho) (Nat.le_trans I.sz h)) (Nat.lt_irrefl _)
theorem Inv.cne (I : Inv X pins σ H s) : ∀ x c, X.env.cells.lookup x = some c → c ≠ X.env.locals := fun x c e z => by
  obtain ⟨v, o, ho, hd⟩ := I.cell x c e
  obtain ⟨m, ⟨o', es, ep, ho', hd', _⟩, _⟩ := I.loc
  rw [z, ho'] at ho; cases ho; rw [hd'] at hd; cases hd
theorem Inv.funs (I : Inv X pins σ H s) : s.heap.FunFrames X.base X.outer := by
  have all : ∀ (l : List Env), (∀ b ∈ frs l, b ∈ X.fs) → X.s₀.heap.FunFrames X.base l → s.heap.FunFrames X.base l := by
    intro l
    induction l with
    | nil => intro _ _; trivial
    | cons env r ih =>
      intro hs hl
      obtain ⟨hk, ⟨L, o, hf, hn, ho, hd⟩, hr⟩ := hl
      have hL : L ∈ X.fs := hs L (by unfold frs; rw [List.filterMap_cons, hf]; exact List.mem_cons_self)
      obtain ⟨sl, e⟩ := I.base.slot L o ho (I.ok.frf L hL) hL fun z => I.ok.exfs L z hL
      exact ⟨hk, ⟨L, _, hf, hn, e, hd⟩, ih (fun b hb => hs b (by unfold frs; rw [List.filterMap_cons, hf]; exact List.mem_cons_of_mem _ hb)) hr⟩
  exact all X.outer (fun _ hb => hb) I.ok.funs

theorem Inv.stack (I : Inv X pins σ H s) : s.heap.FunFrames X.base X.stack := by
  rcases I.ok.stk with e | ⟨e, hf⟩
  · rw [e]; exact I.funs
  · rw [e]
    obtain ⟨m, hn, _⟩ := I.loc
    refine .cons (by rw [I.ok.kind]; decide) hf hn ?_ I.funs
    exact Heap.get?_none_of_le (Nat.le_trans I.ok.bsz I.ok.above)
theorem Inv.stkSub (I : Inv X pins σ H s) : ∀ b ∈ frs X.stack, b ∈ X.env.locals :: X.fs := fun b hb => by
  rcases I.ok.stk with e | ⟨e, hf⟩
  · rw [e] at hb; exact List.mem_cons_of_mem _ hb
  · rw [e] at hb
    unfold frs at hb
    rw [List.filterMap_cons, hf] at hb
    exact hb
theorem Inv.stkFree (I : Inv X pins σ H s) : ∀ b ∈ frs X.stack, H b = none := fun b hb => by
  rcases List.mem_cons.mp (I.stkSub b hb) with e | hb
  · rw [e]; exact I.free
  · obtain ⟨_, o, ho, _⟩ := I.ok.funs.mem hb
    exact I.base.free b o ho (I.ok.frf b hb) fun z => I.ok.exfs b z hb

theorem Inv.step {g' : Array GenState} {t' : Nat} {d' : Drawn} {ch : List Addr} (I : Inv X pins σ H s)
    (hch : ∀ b ∈ ch, (b ∈ X.ex ∨ X.s₀.heap.objs.size ≤ b) ∧ b ≠ X.env.locals ∧ (∀ x c, X.env.cells.lookup x = some c → c ≠ b) ∧ ∀ p ∈ X.pn ++ pins, p.1 ≠ b)
    (keep : ∀ b o, b ≠ X.env.locals → b ∉ X.fs → b ∉ ch → s.heap.get? b = some o → H b = none → h'.get? b = some o)
    (slot : ∀ b o, b ≠ X.env.locals → b ∈ X.fs → b ∉ ch → s.heap.get? b = some o → H b = none → ∃ sl, h'.get? b = some { o with slots := sl }) (free : ∀ b o, b ∉ ch → s.heap.get? b = some o → H b = none → H' b = none)
    (there : ∀ b o, b ∉ ch → s.heap.get? b = some o → ∃ o', h'.get? b = some o')
    (tups : ∀ b xs, H b = some (.tup xs) → H' b = some (.tup xs)) (frzs : ∀ b o u, H b = some (.frz o u) → H' b = some (.frz o u)) (tbls : ∀ b ps, H b = some (.tbl ps) → ∃ more, H' b = some (.tbl (ps ++ more)))
    (ns : ∀ m, s.heap.Ns X.env.locals m → h'.Ns X.env.locals m) (hok : HOk X.prog X.w H' h') (hg : AllBare g') :
    Inv X pins σ H' { s with heap := h', gens := g', drawn := d', toks := t' } := by
  have neL : ∀ b o, X.s₀.heap.get? b = some o → b ≠ X.env.locals := fun b o e => Nat.ne_of_lt (Nat.lt_of_lt_of_le (Heap.lt_size e) I.ok.above)
  have neC : ∀ b o, X.s₀.heap.get? b = some o → b ∉ X.ex → b ∉ ch := fun b o e hx hb => by
    rcases (hch b hb).1 with z | z
    · exact hx z
    · exact absurd (Nat.lt_of_lt_of_le (Heap.lt_size e) z) (Nat.lt_irrefl _)
  have cellK : ∀ x c, X.env.cells.lookup x = some c → ∀ v, s.heap.IsCell c v → h'.IsCell c v := fun x c e v ⟨o, ho, hd⟩ => by
    have nch : c ∉ ch := fun z => (hch c z).2.2.1 x c e rfl
    by_cases hc : c ∈ X.fs
    · obtain ⟨sl, q⟩ := slot c o (I.cne x c e) hc nch ho (I.freeC x c e)
      exact ⟨_, q, hd⟩
    · exact ⟨o, keep c o (I.cne x c e) hc nch ho (I.freeC x c e), hd⟩
  refine ⟨I.ok, I.os, hg, ⟨fun b o e n hb hx => ?_, fun b o e n hb hx => ?_, fun b o e n hx => ?_, fun b o e hx => ?_, fun b xs e => tups b xs (I.base.tups b xs e), fun b o xs e => frzs b o xs (I.base.frzs b o xs e), fun b ps e => ?_⟩, ?_, fun x c e => ?_, ?_, fun x c e => ?_, fun p hp => ?_, hok, I.len⟩
  · exact keep b o (neL b o e) hb (neC b o e hx) (I.base.keep b o e n hb hx) (I.base.free b o e n hx)
  · obtain ⟨sl, e1⟩ := I.base.slot b o e n hb hx
    obtain ⟨sl', e2⟩ := slot b _ (neL b o e) hb (neC b o e hx) e1 (I.base.free b o e n hx)
    exact ⟨sl', e2⟩
  · obtain ⟨o', e1⟩ := I.base.there b o e hx
    exact free b o' (neC b o e hx) e1 (I.base.free b o e n hx)
  · obtain ⟨o', e1⟩ := I.base.there b o e hx
    exact there b o' (neC b o e hx) e1
  · obtain ⟨m1, e1⟩ := I.base.tbls b ps e
    obtain ⟨m2, e2⟩ := tbls b _ e1
    exact ⟨m1 ++ m2, by rw [e2, Array.append_assoc]⟩
  · obtain ⟨m, hn, hl⟩ := I.loc
    refine ⟨m, ns m hn, fun i x v e1 e2 e3 => ?_⟩
    obtain ⟨u, r, l⟩ := hl i x v e1 e2 e3
    refine ⟨u, r, ?_⟩
    rcases l with l | ⟨k, c, e, z⟩
    · exact .inl l
    · exact .inr ⟨k, c, e, cellK x c e _ z⟩
  · obtain ⟨v, z⟩ := I.cell x c e
    exact ⟨v, cellK x c e v z⟩
  · obtain ⟨m, ⟨o, _, _, ho, _⟩, _⟩ := I.loc
    exact free _ o (fun z => (hch _ z).2.1 rfl) ho I.free
  · obtain ⟨v, o, ho, hd⟩ := I.cell x c e
    exact free c o (fun z => (hch c z).2.2.1 x c e rfl) ho (I.freeC x c e)
  · obtain ⟨e, n, ne, nf, d⟩ := I.pin p hp
    have nch : p.1 ∉ ch := fun z => (hch p.1 z).2.2.2 p hp rfl
    exact ⟨keep p.1 p.2 ne nf nch e n, free p.1 p.2 nch e n, ne, nf, d⟩
theorem Inv.un {t' : Nat} (I : Inv X pins σ H s) (u : Un X.fs [] H H' s.heap h') (hok : HOk X.prog X.w H' h') : Inv X pins σ H' { s with heap := h', toks := t' } := by
  obtain ⟨m, ⟨o, es, ep, ho, r⟩, _⟩ := id I.loc
  obtain ⟨sl, hL⟩ := u.any ho I.free (by simp)
  exact I.step (g' := s.gens) (d' := s.drawn) (ch := []) (fun _ z => nomatch z) (fun b o _ hb _ e n => u.keep b o e n hb (by simp)) (fun b o _ hb _ e n => u.slot b o e n hb (by simp)) (fun b o _ e n => u.free b o e n (by simp)) (fun b o _ e => u.there b o e (by simp)) u.tups u.frzs u.tbls (fun m' hm => by
    obtain ⟨o', es', ep', ho', r'⟩ := hm
    rw [ho] at ho'; cases ho'
    exact ⟨_, es', ep', hL, r'⟩) hok I.bare
theorem Inv.call {g' : Array GenState} {t' : Nat} {d' : Drawn} {ch : List Addr} (I : Inv X pins σ H s) (u : Un (frs X.stack) ch H H' s.heap h') (hok : HOk X.prog X.w H' h') (hg : AllBare g')
    (hch : ∀ b ∈ ch, (b ∈ X.ex ∨ X.s₀.heap.objs.size ≤ b) ∧ b ≠ X.env.locals ∧ (∀ x c, X.env.cells.lookup x = some c → c ≠ b) ∧ ∀ p ∈ X.pn ++ pins, p.1 ≠ b) :
    Inv X pins σ H' { s with heap := h', gens := g', drawn := d', toks := t' } := by
  obtain ⟨m, ⟨o, es, ep, ho, r⟩, _⟩ := id I.loc
  obtain ⟨sl, hL⟩ := u.any ho I.free fun z => (hch _ z).2.1 rfl
  exact I.step (ch := ch) hch (fun b o hL hb hc e n => u.keep b o e n (fun z => (List.mem_cons.mp (I.stkSub b z)).elim hL hb) hc) (fun b o _ _ hc e n => u.any e n hc) (fun b o hc e n => u.free b o e n hc) (fun b o hc e => u.there b o e hc) u.tups u.frzs u.tbls (fun m' hm => by
    obtain ⟨o', es', ep', ho', r'⟩ := hm
    rw [ho] at ho'; cases ho'
    exact ⟨_, es', ep', hL, r'⟩) hok hg
theorem Inv.turned {t' : Nat} {it : Addr} (I : Inv X pins σ H s) (k : ∀ b o, b ≠ it → s.heap.get? b = some o → h'.get? b = some o) (hn : H it = none) (hL : it ≠ X.env.locals)
    (h1 : it ∈ X.ex ∨ X.s₀.heap.objs.size ≤ it) (h2 : ∀ x c, X.env.cells.lookup x = some c → c ≠ it) (h3 : ∀ p ∈ X.pn ++ pins, p.1 ≠ it) : Inv X pins σ H { s with heap := h', toks := t' } := by
  have nit : ∀ b u, H b = some u → b ≠ it := fun b u e z => by rw [z, hn] at e; cases e
  refine I.step (g' := s.gens) (d' := s.drawn) (ch := [it]) (fun b hb => ?_) (fun b o _ _ hc e _ => k b o (fun z => hc (by simp [z])) e) (fun b o _ _ hc e _ => ⟨o.slots, k b o (fun z => hc (by simp [z])) e⟩) (fun _ _ _ _ n => n)
    (fun b o hc e => ⟨o, k b o (fun z => hc (by simp [z])) e⟩) (fun _ _ e => e) (fun _ _ _ e => e) (fun b ps e => ⟨#[], by rw [e]; simp⟩) (fun m hm => ?_) (fun b u e => ?_) I.bare
  · have e : b = it := by simpa using hb
    subst e
    exact ⟨h1, hL, h2, h3⟩
  · obtain ⟨o, es, ep, ho, r⟩ := hm
    exact ⟨o, es, ep, k _ o (Ne.symm hL) ho, r⟩
  · refine (I.hok b u e).stay (fun c v hc q => k c v ?_ q) (fun _ q => q) fun _ _ q => q
    rcases hc with z | z
    · rw [z]; exact nit b u e
    · exact nit c _ z
theorem Inv.tok (I : Inv X pins σ H s) (t : Nat) : Inv X pins σ H { s with toks := t } := I.un (h' := s.heap) (t' := t) Un.refl I.hok
theorem Inv.kept {t' : Nat} (I : Inv X pins σ H s) (k : ∀ b u, s.heap.get? b = some u → h'.get? b = some u) : Inv X pins σ H { s with heap := h', toks := t' } := I.un (Un.kept k) (I.hok.kept k)
theorem Inv.laid {a : Addr} {o : HO} {t' : Nat} (I : Inv X pins σ H s) (k : ∀ b u, s.heap.get? b = some u → h'.get? b = some u) (hp : s.heap.objs.size ≤ a) (new : ObjOk X.prog X.w (upd H a o) h' a o) :
    Inv X pins σ (upd H a o) { s with heap := h', toks := t' } := I.un (Un.laid k hp (I.hok.fresh hp)) (I.hok.laid k hp new)
theorem Inv.write {x e : Addr} {o : HO} {t' : Nat} (I : Inv X pins σ H s) (mu : Mut (H x)) (he : e = x ∨ H e = some (.own x)) (k : ∀ b u, b ≠ e → s.heap.get? b = some u → h'.get? b = some u) (heo : ∃ u, h'.get? e = some u)
    (new : ObjOk X.prog X.w (upd H x o) h' x o) : Inv X pins σ (upd H x o) { s with heap := h', toks := t' } := I.un (Un.write mu he k heo) (I.hok.write mu he k heo new)
theorem Inv.pins_of {pins' : List (Addr × Obj)} (I : Inv X pins σ H s) (h : ∀ p ∈ pins', s.heap.get? p.1 = some p.2 ∧ H p.1 = none ∧ p.1 ≠ X.env.locals ∧ p.1 ∉ X.fs ∧ ∀ v, p.2.data ≠ .cell v) : Inv X pins' σ H s :=
  ⟨I.ok, I.os, I.bare, I.base, I.loc, I.cell, I.free, I.freeC, fun p hp => (List.mem_append.mp hp).elim (fun z => I.pin p (List.mem_append_left _ z)) (h p), I.hok, I.len⟩

theorem nodup_ix {N : List Str} (hN : N.Nodup) {i j : Nat} {x : Str} (a : N[i]? = some x) (b : N[j]? = some x) : i = j := by
  obtain ⟨h1, e1⟩ := List.getElem?_eq_some_iff.mp a
  obtain ⟨h2, e2⟩ := List.getElem?_eq_some_iff.mp b
  exact (List.getElem_inj hN).mp (e1.trans e2.symm)

theorem store_ok2 {M : Model} {A : Around} {E : Value → Shared → Prop} {i : Nat} {x : Str} {v : V} {u : Value} {Q : Unit → Shared → Prop} (I : Inv X pins σ H s) (hN : X.N.Nodup) (hi : X.N[i]? = some x) (hx : Loc X.env.scope x) (r : RelV v u)
    (h : ∀ s', Inv X pins (σ.set i (some v)) H s' → (∃ a, Heap.SameBut a s.heap s'.heap ∧ (a = X.env.locals ∨ X.env.cells.lookup x = some a)) → Q () s') (hf : X.fn x = true ∨ X.env.scope.names.lookup x = some .local := by first | exact .inl rfl | exact .inr rfl | assumption) : wpAny M A (storeName X.env x u) Q E s := by
  obtain ⟨m, hn, hl⟩ := id I.loc
  have hcls : (X.env.scope.kind == .class || (X.env.scope.kind == .module && X.env.locals != X.env.globals)) = false := by rw [I.ok.kind]; rfl
  have hiσ : i < σ.length := by rw [I.len]; exact (List.getElem?_eq_some_iff.mp hi).1
  have cne := I.cne
  have tracked : ∀ {a : Addr} {h' : Heap}, (∃ o, s.heap.get? a = some o ∧ H a = none) → Heap.SameBut a s.heap h' → HOk X.prog X.w H h' := fun {a h'} ha hs b ob e => by
    obtain ⟨_, _, hfree⟩ := ha
    refine (I.hok b ob e).stay (fun c w' hc q => (hs.2 c ?_).trans q) (fun _ q => q) fun _ _ q => q
    rintro rfl
    rcases hc with rfl | hc
    · rw [hfree] at e; cases e
    · rw [hfree] at hc; cases hc
  rcases hx with hk | hk
  · refine wpAny_storeName_local hk hn (fun h' hn' hs => ?_) hcls
    obtain ⟨oL, _, _, hoL, _⟩ := id hn
    refine h _ ⟨I.ok, I.os, I.bare, ⟨fun b o e n hb hx => ?_, fun b o e n hb hx => ?_, I.base.free, fun b o e hx => ?_, I.base.tups, I.base.frzs, I.base.tbls⟩, ⟨_, hn', fun j y v' e1 e2 e3 => ?_⟩, fun y c e => ?_, I.free, I.freeC, fun p hp => ?_, tracked ⟨oL, hoL, I.free⟩ hs, by simpa using I.len⟩ ⟨_, hs, .inl rfl⟩
    · exact (hs.2 b (Nat.ne_of_lt (Nat.lt_of_lt_of_le (Heap.lt_size e) I.ok.above))).trans (I.base.keep b o e n hb hx)
    · obtain ⟨sl, e1⟩ := I.base.slot b o e n hb hx
      exact ⟨sl, (hs.2 b (Nat.ne_of_lt (Nat.lt_of_lt_of_le (Heap.lt_size e) I.ok.above))).trans e1⟩
    · obtain ⟨o', e1⟩ := I.base.there b o e hx
      exact ⟨o', (hs.2 b (Nat.ne_of_lt (Nat.lt_of_lt_of_le (Heap.lt_size e) I.ok.above))).trans e1⟩
    · by_cases hj : j = i
      · subst hj
        rw [hi] at e1; cases e1
        rw [List.getElem?_set_self hiσ] at e2
        cases e2
        exact ⟨u, r, .inl ⟨hk, by simp⟩⟩
      · rw [List.getElem?_set_ne (Ne.symm hj)] at e2
        obtain ⟨u', r', q⟩ := hl j y v' e1 e2 e3
        refine ⟨u', r', ?_⟩
        rcases q with ⟨k, e⟩ | ⟨k, c, e, z⟩
        · refine .inl ⟨k, ?_⟩
          have : y ≠ x := fun e => hj (nodup_ix hN e1 (e ▸ hi))
          simp [this, e]
        · exact .inr ⟨k, c, e, z.sameBut hs (cne y c e)⟩
    · obtain ⟨w', z⟩ := I.cell y c e
      exact ⟨w', z.sameBut hs (cne y c e)⟩
    · obtain ⟨e, n, ne, nf, d⟩ := I.pin p hp
      exact ⟨(hs.2 p.1 ne).trans e, n, ne, nf, d⟩
  · have hfn : X.fn x = true := by
      rcases hf with z | z
      · exact z
      · rw [z] at hk; cases hk
    obtain ⟨c, hc⟩ := I.ok.has x (.inl hk)
    obtain ⟨w', z⟩ := I.cell x c hc
    refine wpAny_storeName_cell I.ok.kind hk hc z (fun h' hc' hs => ?_)
    obtain ⟨oc, hoc, hocd⟩ := id z
    refine h { s with heap := h' } ⟨I.ok, I.os, I.bare, ⟨fun b o e n hb hx => ?_, fun b o e n hb hx => ?_, I.base.free, fun b o e hx => ?_, I.base.tups, I.base.frzs, I.base.tbls⟩, ⟨m, hn.sameBut hs (Ne.symm (cne x c hc)), fun j y v' e1 e2 e3 => ?_⟩, fun y c' e => ?_, I.free, I.freeC, fun p hp => ?_, tracked ⟨oc, hoc, I.freeC x c hc⟩ hs, by simpa using I.len⟩ ⟨c, hs, .inr hc⟩
    · exact (hs.2 b (Nat.ne_of_lt (Nat.lt_of_lt_of_le (Heap.lt_size e) (I.ok.cab x c hfn hc)))).trans (I.base.keep b o e n hb hx)
    · obtain ⟨sl, e1⟩ := I.base.slot b o e n hb hx
      exact ⟨sl, (hs.2 b (Nat.ne_of_lt (Nat.lt_of_lt_of_le (Heap.lt_size e) (I.ok.cab x c hfn hc)))).trans e1⟩
    · obtain ⟨o', e1⟩ := I.base.there b o e hx
      exact ⟨o', (hs.2 b (Nat.ne_of_lt (Nat.lt_of_lt_of_le (Heap.lt_size e) (I.ok.cab x c hfn hc)))).trans e1⟩
    · by_cases hj : j = i
      · subst hj
        rw [hi] at e1; cases e1
        rw [List.getElem?_set_self hiσ] at e2
        cases e2
        exact ⟨u, r, .inr ⟨.inl hk, c, hc, hc'⟩⟩
      · rw [List.getElem?_set_ne (Ne.symm hj)] at e2
        obtain ⟨u', r', q⟩ := hl j y v' e1 e2 e3
        refine ⟨u', r', ?_⟩
        rcases q with q | ⟨k, c', e, z'⟩
        · exact .inl q
        · refine .inr ⟨k, c', e, z'.sameBut hs ?_⟩
          rintro rfl
          exact hj (nodup_ix hN e1 (I.ok.inj _ _ _ e hc ▸ hi))
    · by_cases hcc : c' = c
      · subst hcc; exact ⟨_, hc'⟩
      · obtain ⟨w2, z2⟩ := I.cell y c' e
        exact ⟨w2, z2.sameBut hs hcc⟩
    · obtain ⟨e, n, ne, nf, d⟩ := I.pin p hp
      refine ⟨(hs.2 p.1 ?_).trans e, n, ne, nf, d⟩
      intro q
      rw [q, hoc] at e
      have q' : oc = p.2 := Option.some.inj e
      exact d w' (by rw [← q']; exact hocd)
theorem store_ok {M : Model} {A : Around} {E : Value → Shared → Prop} {i : Nat} {x : Str} {v : V} {u : Value} {Q : Unit → Shared → Prop} (I : Inv X pins σ H s) (hN : X.N.Nodup) (hi : X.N[i]? = some x) (hx : Loc X.env.scope x) (r : RelV v u)
    (h : ∀ s', Inv X pins (σ.set i (some v)) H s' → Q () s') (hf : X.fn x = true ∨ X.env.scope.names.lookup x = some .local := by first | exact .inl rfl | exact .inr rfl | assumption) : wpAny M A (storeName X.env x u) Q E s :=
  store_ok2 I hN hi hx r (fun s' I' _ => h s' I') hf
theorem Inv.call' {s' : Shared} {ch : List Addr} (I : Inv X pins σ H s) (ho : s'.os = s.os) (u : Un (frs X.stack) ch H H' s.heap s'.heap) (hok : HOk X.prog X.w H' s'.heap) (hg : AllBare s'.gens)
    (hch : ∀ b ∈ ch, (b ∈ X.ex ∨ X.s₀.heap.objs.size ≤ b) ∧ b ≠ X.env.locals ∧ (∀ x c, X.env.cells.lookup x = some c → c ≠ b) ∧ ∀ p ∈ X.pn ++ pins, p.1 ≠ b) : Inv X pins σ H' s' := by
  obtain ⟨h', g', d', t', o'⟩ := s'
  have e : o' = s.os := ho
  subst e
  exact I.call (g' := g') (t' := t') (d' := d') u hok hg hch
end

abbrev XK := Value → Option Addr → Hp → Prop
abbrev St := List (Option V)
abbrev VK := V → Hp → Prop
abbrev TE := St → Hp → VK → Prop
abbrev TT := St → Hp → (Bool → Hp → Prop) → Prop
abbrev TA := St → Hp → (List V → Hp → Prop) → Prop
structure Ends where
  nx : St → Hp → Prop
  rt : VK
  bk : St → Hp → Prop := fun _ _ => False
  ct : St → Hp → Prop := fun _ _ => False
abbrev TS := Ends → St → Hp → Prop

def EP (X : Cx) (pins : List (Addr × Obj)) (σ : St) (Q : VK) (u : Value) (s' : Shared) : Prop := ∃ v H', Inv X pins σ H' s' ∧ RelV v u ∧ Q v H'
def TP (X : Cx) (pins : List (Addr × Obj)) (σ : St) (Q : Bool → Hp → Prop) (b : Bool) (s' : Shared) : Prop := ∃ H', Inv X pins σ H' s' ∧ Q b H'
def AP (X : Cx) (pins : List (Addr × Obj)) (σ : St) (Q : List V → Hp → Prop) (us : List Value) (s' : Shared) : Prop := ∃ vs H', Inv X pins σ H' s' ∧ Vals vs us ∧ Q vs H'
def SP (X : Cx) (pins : List (Addr × Obj)) (D : Ends) (f : Flow) (s' : Shared) : Prop :=
  match f with
  | .next => ∃ σ' H', Inv X pins σ' H' s' ∧ D.nx σ' H'
  | .brk => ∃ σ' H', Inv X pins σ' H' s' ∧ D.bk σ' H'
  | .cont => ∃ σ' H', Inv X pins σ' H' s' ∧ D.ct σ' H'
  | .ret u => ∃ v σ' H', Inv X pins σ' H' s' ∧ RelV v u ∧ D.rt v H'

def PE (X : Cx) (e : Expr) (t : TE) : Prop :=
  ∀ (pins : List (Addr × Obj)) (s : Shared) (σ : St) (H : Hp) (Q : VK), Inv X pins σ H s → t σ H Q → wpAny (model X.prog X.w) X.A (eval e X.env) (EP X pins σ Q) X.xe s
def PT (X : Cx) (e : Expr) (t : TT) : Prop :=
  ∀ (pins : List (Addr × Obj)) (s : Shared) (σ : St) (H : Hp) (Q : Bool → Hp → Prop), Inv X pins σ H s → t σ H Q → wpAny (model X.prog X.w) X.A (isTrue e X.env (eval e X.env)) (TP X pins σ Q) X.xe s
def PW (X : Cx) (e : Expr) (t : TT) : Prop :=
  ∀ (whole : Sem Value) (pins : List (Addr × Obj)) (s : Shared) (σ : St) (H : Hp) (Q : Bool → Hp → Prop), Inv X pins σ H s → t σ H Q → wpAny (model X.prog X.w) X.A (isTrue e X.env whole) (TP X pins σ Q) X.xe s
theorem PW.pt {X : Cx} {e : Expr} {t : TT} (h : PW X e t) : PT X e t := h _
def PA (X : Cx) (es : List Expr) (t : TA) : Prop :=
  ∀ (pos : Pos) (pins : List (Addr × Obj)) (s : Shared) (σ : St) (H : Hp) (Q : List V → Hp → Prop), Inv X pins σ H s → t σ H Q → wpAny (model X.prog X.w) X.A (spliced (backTo pos (starEach es X.env))) (AP X pins σ Q) X.xe s
def PS (X : Cx) (st : Stmt) (t : TS) : Prop :=
  ∀ (pins : List (Addr × Obj)) (s : Shared) (σ : St) (H : Hp) (D : Ends), Inv X pins σ H s → t D σ H → wpAny (model X.prog X.w) X.A (exec st X.env) (SP X pins D) X.xe s
def PSs (X : Cx) (st : List Stmt) (t : TS) : Prop :=
  ∀ (pins : List (Addr × Obj)) (s : Shared) (σ : St) (H : Hp) (D : Ends), Inv X pins σ H s → t D σ H → wpAny (model X.prog X.w) X.A (execs st X.env) (SP X pins D) X.xe s
theorem thn {α : Type} {t : Sem α} {Q Q' : α → Shared → Prop} {M : Model} {A : Around} {E : Value → Shared → Prop} {s : Shared} (h : wpAny M A t Q E s) (hQ : ∀ a s, Q a s → Q' a s) : wpAny M A t Q' E s := wpAny_mono h hQ fun _ _ x => x
end L2

namespace L2
open PySem PySem.Spec PyProof.Rows
section
variable {X : Cx}

def tVar (i : Nat) : TE := fun σ H Q => ∃ v, σ[i]? = some (some v) ∧ Q v H
def tC (v : V) : TE := fun _ H Q => Q v H
theorem pe_var {i : Nat} {x : Str} {pos : Pos} (hN : X.N[i]? = some x) (hv : Vis X.env.scope x) (hd : (x == ("__debug__" : Str)) = false := by decide) (hcd : (x == ("__classdict__" : Str)) = false := by decide) : PE X (.Name x pos) (tVar i) := by
  intro pins s σ H Q I h
  obtain ⟨v, e, h⟩ := h
  obtain ⟨m, hn, hl⟩ := I.loc
  obtain ⟨u, r, l⟩ := hl i x v hN e hv
  have fin : EP X pins σ Q u s := ⟨v, H, I, r, h⟩
  rcases l with ⟨hk, hm⟩ | ⟨hk, c, hc, hcell⟩
  · exact wpAny_Name (wpAny_loadName_local I.ok.kind hk hn hm fin) hd
  · rcases hk with hk | hk
    · exact wpAny_Name (wpAny_loadName_cell I.ok.kind hk hc hcell fin) hd
    · exact wpAny_Name (wpAny_loadName_free I.ok.kind hk hc hcell fin hcd) hd
theorem pe_int {i j pos} : PE X (.Constant (.int i) j pos) (tC (.int i)) := fun _ _ _ H _ I h => wpAny_Constant_int ⟨.int i, H, I.tok _, ⟨_, rfl⟩, h⟩
theorem pe_bl {b j pos} : PE X (.Constant (.bool b) j pos) (tC (.bl b)) := fun _ _ _ H _ I h => Constant_bool ⟨.bl b, H, I, rfl, h⟩
theorem pe_non {j pos} : PE X (.Constant .none j pos) (tC .non) := fun _ _ _ H _ I h => Constant_none ⟨.non, H, I, rfl, h⟩
theorem pe_str {x j pos} : PE X (.Constant (.str x) j pos) (tC (.str x)) := fun _ _ _ H _ I h => Calls.Constant_str ⟨.str x, H, I.tok _, ⟨_, rfl⟩, h⟩

def Gl (X : Cx) (x : Str) : Prop := X.env.kindOf x = some .globalImplicit
theorem ld_glob {E : Value → Shared → Prop} {pins : List (Addr × Obj)} {s : Shared} {σ : St} {H : Hp} {x : Str} {u : Value} {pos : Pos} {Q : Value → Shared → Prop} (I : Inv X pins σ H s) (hg : Gl X x) (hm : X.mg x = some u) (h : Q u s)
    (hd : (x == ("__debug__" : Str)) = false := by decide) : wpAny (model X.prog X.w) X.A (eval (.Name x pos) X.env) Q E s :=
  Calls.Name_function_global I.ok.kind hg (Calls.loadGlobal_global (by rw [I.ok.glob]; exact I.mod.glob.keeps I.bk) hm h) hd
theorem ld_blt {E : Value → Shared → Prop} {pins : List (Addr × Obj)} {s : Shared} {σ : St} {H : Hp} {x : Str} {u : Value} {pos : Pos} {Q : Value → Shared → Prop} (I : Inv X pins σ H s) (hg : Gl X x) (hm : X.mg x = none) (hv : bootBuiltins x = some u) (h : Q u s)
    (hn : x ≠ "__name__" := by decide) (hd : (x == ("__debug__" : Str)) = false := by decide) : wpAny (model X.prog X.w) X.A (eval (.Name x pos) X.env) Q E s := by
  obtain ⟨mb, h1, h2⟩ := I.mod.blt
  exact Calls.Name_function_global I.ok.kind hg (Calls.loadGlobal_builtin (by rw [I.ok.glob]; exact I.mod.glob.keeps I.bk) hm (by rw [I.ok.blt]; exact h1.keeps I.bk) ((h2 x hn).trans hv) h) hd
theorem pe_glob {x : Str} {v : V} {u : Value} {pos : Pos} (hg : Gl X x) (hm : X.mg x = some u) (r : RelV v u) (hd : (x == ("__debug__" : Str)) = false := by decide) : PE X (.Name x pos) (tC v) :=
  fun _ _ _ H _ I h => ld_glob I hg hm ⟨v, H, I, r, h⟩ hd
theorem pe_bltn {x : Str} {v : V} {u : Value} {pos : Pos} (hg : Gl X x) (hm : X.mg x = none) (hv : bootBuiltins x = some u) (r : RelV v u) (hn : x ≠ "__name__" := by decide) (hd : (x == ("__debug__" : Str)) = false := by decide) : PE X (.Name x pos) (tC v) :=
  fun _ _ _ H _ I h => ld_blt I hg hm hv ⟨v, H, I, r, h⟩ hn hd

def t2I (ta tb : TE) (k : Int → Int → Hp → Prop) : St → Hp → Prop := fun σ H => ta σ H fun x H1 => tb σ H1 fun y H2 => ∃ i j, x = .int i ∧ y = .int j ∧ k i j H2
def tAdd (ta tb : TE) : TE := fun σ H Q => t2I ta tb (fun i j H2 => Q (.int (i + j)) H2) σ H
def tSub (ta tb : TE) : TE := fun σ H Q => t2I ta tb (fun i j H2 => Q (.int (i - j)) H2) σ H
def tMul (ta tb : TE) : TE := fun σ H Q => t2I ta tb (fun i j H2 => (-(2 ^ 64) < i ∧ i < 2 ^ 64) ∧ Q (.int (i * j)) H2) σ H
variable {a b : Expr} {ta tb : TE} {pos : Pos}
def PC (X : Cx) (op : CmpOp) (a b : Expr) (t : TE) : Prop :=
  ∀ (pins : List (Addr × Obj)) (s : Shared) (σ : St) (H : Hp) (Q : VK), Inv X pins σ H s → t σ H Q →
    wpAny (model X.prog X.w) X.A (eval a X.env) (fun v s₁ => wpAny (model X.prog X.w) X.A (eval b X.env) (fun u s₂ => wpAny (model X.prog X.w) X.A (compareOp op v u) (EP X pins σ Q) X.xe s₂) X.xe s₁) X.xe s
def tCmp (p : Int → Int → Bool) (ta tb : TE) : TE := fun σ H Q => t2I ta tb (fun i j H2 => Q (.bl (p i j)) H2) σ H
abbrev tLt : TE → TE → TE := tCmp fun i j => decide (i < j)
abbrev tLe : TE → TE → TE := tCmp fun i j => decide (i ≤ j)
abbrev tGt : TE → TE → TE := tCmp fun i j => decide (j < i)
abbrev tGe : TE → TE → TE := tCmp fun i j => decide (j ≤ i)
abbrev tEqI : TE → TE → TE := tCmp fun i j => decide (i = j)
abbrev tNeI : TE → TE → TE := tCmp fun i j => !decide (i = j)
def tIsN (ta : TE) : TE := fun σ H Q => ta σ H fun x H1 => Q (.bl (decide (x = .non))) H1
def tNotN (ta : TE) : TE := fun σ H Q => ta σ H fun x H1 => Q (.bl (!decide (x = .non))) H1
def tB (t : TE) : TT := fun σ H Q => t σ H fun x H1 => ∃ c, x = .bl c ∧ Q c H1
theorem pt_val {e : Expr} {t : TE} (h : PE X e t) (he : ∀ whole, isTrue e X.env whole = (do let v ← whole; standAt e.pos; holding [v] (truthy v)) := by intro _; rfl) : PT X e (tB t) := by
  intro pins s σ H Q I hw
  refine isTrue_plain (thn (h pins s σ H _ I hw) fun v s1 ⟨x, H1, I1, r1, q1⟩ => ?_) (he _)
  obtain ⟨d, rfl, q⟩ := q1
  cases r1
  exact wpAny_truthy_bool ⟨H1, I1, q⟩

variable {tA tB' : TT} {rest : List Expr}
def tAnd (t u : TT) : TT := fun σ H Q => t σ H fun c H1 => if c = true then u σ H1 Q else Q false H1
def tOr (t u : TT) : TT := fun σ H Q => t σ H fun c H1 => if c = true then Q true H1 else u σ H1 Q
def tNot (t : TT) : TT := fun σ H Q => t σ H fun c H1 => Q (!c) H1
theorem pw_and1 (ha : PT X a tA) : PW X (.BoolOp .And [a] pos) tA := by
  intro wh pins s σ H Q I h
  refine isTrue_and (thn (ha pins s σ H Q I h) fun c s1 e => ?_)
  cases c with
  | true => exact isTrue_and_nil e
  | false => exact e
theorem pw_or1 (ha : PT X a tA) : PW X (.BoolOp .Or [a] pos) tA := by
  intro wh pins s σ H Q I h
  refine isTrue_or (thn (ha pins s σ H Q I h) fun c s1 e => ?_)
  cases c with
  | false => exact isTrue_or_nil e
  | true => exact e
theorem pw_and (ha : PT X a tA) (hb : PW X (.BoolOp .And (b :: rest) pos) tB') : PW X (.BoolOp .And (a :: b :: rest) pos) (tAnd tA tB') := by
  intro wh pins s σ H Q I h
  refine isTrue_and (thn (ha pins s σ H _ I h) fun c s1 ⟨H1, I1, q1⟩ => ?_)
  cases c with
  | true => exact hb wh pins s1 σ H1 Q I1 q1
  | false => exact ⟨H1, I1, q1⟩
theorem pw_or (ha : PT X a tA) (hb : PW X (.BoolOp .Or (b :: rest) pos) tB') : PW X (.BoolOp .Or (a :: b :: rest) pos) (tOr tA tB') := by
  intro wh pins s σ H Q I h
  refine isTrue_or (thn (ha pins s σ H _ I h) fun c s1 ⟨H1, I1, q1⟩ => ?_)
  cases c with
  | true => exact ⟨H1, I1, q1⟩
  | false => exact hb wh pins s1 σ H1 Q I1 q1
theorem pt_not (ha : PT X a tA) : PT X (.UnaryOp .Not a pos) (tNot tA) := by
  intro pins s σ H Q I h
  exact isTrue_not (ha pins s σ H (fun c H1 => Q (!c) H1) I h)
def tAndV (ta tb : TE) : TE := fun σ H Q => ta σ H fun x H1 => ∃ c, x = .bl c ∧ if c = true then tb σ H1 Q else Q (.bl false) H1
def tOrV (ta tb : TE) : TE := fun σ H Q => ta σ H fun x H1 => ∃ c, x = .bl c ∧ if c = true then Q (.bl true) H1 else tb σ H1 Q
def tNotV (ta : TE) : TE := fun σ H Q => ta σ H fun x H1 => ∃ c, x = .bl c ∧ Q (.bl (!c)) H1
theorem pe_one {op} {t : TE} (h : PE X a t) : PE X (.BoolOp op [a] pos) t := fun pins s σ H Q I hw => BoolOp_one (h pins s σ H Q I hw)
theorem pe_and (ha : PE X a ta) (hb : PE X (.BoolOp .And (b :: rest) pos) tb) : PE X (.BoolOp .And (a :: b :: rest) pos) (tAndV ta tb) := by
  intro pins s σ H Q I h
  refine BoolOp_and (thn (ha pins s σ H _ I h) fun v s1 ⟨x, H1, I1, r1, q1⟩ => ?_)
  obtain ⟨c, rfl, q1⟩ := q1
  cases r1
  refine wpAny_truthy_bool ?_
  cases c with
  | true => exact hb pins s1 σ H1 Q I1 q1
  | false => exact ⟨.bl false, H1, I1, rfl, q1⟩
theorem pe_not (ha : PE X a ta) : PE X (.UnaryOp .Not a pos) (tNotV ta) := by
  intro pins s σ H Q I h
  refine UnaryOp_ (thn (ha pins s σ H _ I h) fun v s1 ⟨x, H1, I1, r1, q1⟩ => ?_)
  obtain ⟨c, rfl, q1⟩ := q1
  cases r1
  exact not_of (wpAny_truthy_bool ⟨.bl (!c), H1, I1, rfl, q1⟩)
def tIf (t : TT) (ta tb : TE) : TE := fun σ H Q => t σ H fun c H1 => if c = true then ta σ H1 Q else tb σ H1 Q
theorem pe_ifExp {c : Expr} (hc : PT X c tA) (ha : PE X a ta) (hb : PE X b tb) : PE X (.IfExp c a b pos) (tIf tA ta tb) := by
  intro pins s σ H Q I h
  refine wpAny_IfExp (thn (hc pins s σ H _ I h) fun d s1 ⟨H1, I1, q1⟩ => ?_)
  cases d with
  | true => exact ha pins s1 σ H1 Q I1 q1
  | false => exact hb pins s1 σ H1 Q I1 q1
end
end L2

namespace L2
open PySem PySem.Spec PyProof.Rows

def SqL (K : PySem.W.Frag) (H : Hp) (a : Addr) (xs : List V) : Prop :=
  Rd H a (.lst xs) ∨
    ∃ (o : Obj) (its : Array Value) (n : Nat), K.lookup a = some o ∧ o.cls = .type "list" ∧ o.dict = none ∧ o.data = .seq its n ∧ its.size ≤ sizeLine ∧ Vals xs its.toList
def SqT (K : PySem.W.Frag) (H : Hp) (a : Addr) (xs : List V) : Prop :=
  Rd H a (.tup xs) ∨
    ∃ (o : Obj) (its : Array Value) (n : Nat), K.lookup a = some o ∧ o.cls = .type "tuple" ∧ o.data = .seq its n ∧ its.size ≤ sizeLine ∧ Vals xs its.toList
def absV : Value → Option V
  | .none => some .non
  | .bool b => some (.bl b)
  | .int i _ => some (.int i)
  | .str x _ => some (.str x)
  | .bytes b _ => some (.byt b)
  | .float b _ => some (.flt b)
  | .ref a => some (.ref a)
  | .type n => some (.ty n)
  | _ => none
theorem RelV.abs {x : V} {u : Value} (r : RelV x u) : absV u = some x := by
  cases x with
  | non => cases r; rfl
  | bl _ => cases r; rfl
  | int _ => obtain ⟨t, rfl⟩ := r; rfl
  | str _ => obtain ⟨t, rfl⟩ := r; rfl
  | byt _ => obtain ⟨t, rfl⟩ := r; rfl
  | flt _ => obtain ⟨t, rfl⟩ := r; rfl
  | ref _ => cases r; rfl
  | ty _ => cases r; rfl
theorem RelV.inj {x y : V} {u : Value} (r : RelV x u) (q : RelV y u) : x = y := Option.some.inj (r.abs.symm.trans q.abs)
theorem Vals.inj : ∀ {xs ys : List V} {us : List Value}, Vals xs us → Vals ys us → xs = ys
  | _, _, _, .nil, .nil => rfl
  | _, _, _, .cons r t, .cons r' t' => by rw [r.inj r', Vals.inj t t']
section
variable {X : Cx} {pins : List (Addr × Obj)} {σ : St} {H : Hp} {s : Shared} {a : Addr} {xs ys : List V}
theorem SqL.of {K : PySem.W.Frag} (h : H a = some (.lst xs)) : SqL K H a xs := .inl (.inl h)
theorem SqT.of {K : PySem.W.Frag} (h : H a = some (.tup xs)) : SqT K H a xs := .inl (.inl h)
theorem Inv.list (I : Inv X pins σ H s) (h : SqL X.K H a xs) : ∃ its : List Value, Vals xs its ∧ PlainL s.heap a its.toArray ∧ xs.length ≤ sizeLine := by
  rcases h with h | ⟨o, its, n, hk, hc, hd, hs, hz, r⟩
  · obtain ⟨z, its, n, r, e⟩ := h.ok I.hok
    exact ⟨its, r, ⟨_, n, e, rfl, rfl, rfl⟩, z⟩
  · refine ⟨its.toList, r, ⟨o, n, I.kIn a o hk, hc, hd, by simpa using hs⟩, ?_⟩
    have e := r.length
    simp only [Array.length_toList] at e
    omega
theorem Inv.tuple (I : Inv X pins σ H s) (h : SqT X.K H a xs) : ∃ its : List Value, Vals xs its ∧ IsTup s.heap a its.toArray ∧ xs.length ≤ sizeLine := by
  rcases h with h | ⟨o, its, n, hk, hc, hs, hz, r⟩
  · obtain ⟨z, its, r, p⟩ := h.ok I.hok
    exact ⟨its, r, p, z⟩
  · refine ⟨its.toList, r, ⟨o, I.kIn a o hk, hc, n, by simpa using hs⟩, ?_⟩
    have e := r.length
    simp only [Array.length_toList] at e
    omega
theorem Inv.list_inj (I : Inv X pins σ H s) (h : SqL X.K H a xs) (h' : SqL X.K H a ys) : xs = ys := by
  obtain ⟨its, r, ⟨o, n, e, _, _, d⟩, _⟩ := I.list h
  obtain ⟨its', r', ⟨o', n', e', _, _, d'⟩, _⟩ := I.list h'
  rw [e] at e'; cases e'
  rw [d] at d'
  injection d' with d1 _
  have : its = its' := by simpa using congrArg Array.toList d1
  subst this
  exact r.inj r'
end

abbrev Cx.wish (X : Cx) (E : Value → Shared → Prop) : Cx := { X with xe := E }
abbrev Cx.nox (X : Cx) : Cx := X.wish fun _ _ => False
theorem Cx.Ok.wish {X : Cx} (ok : X.Ok) (E : Value → Shared → Prop) : (X.wish E).Ok :=
  ⟨ok.mod, ok.kind, ok.glob, ok.blt, ok.above, ok.inj, ok.has, ok.cab, ok.hd, ok.frames, ok.stk, ok.exf, ok.bs, ok.bsz, ok.noex, ok.exfs, ok.funs, ok.frf⟩
theorem Cx.Ok.unwish {X : Cx} {E : Value → Shared → Prop} (ok : (X.wish E).Ok) : X.Ok :=
  ⟨ok.mod, ok.kind, ok.glob, ok.blt, ok.above, ok.inj, ok.has, ok.cab, ok.hd, ok.frames, ok.stk, ok.exf, ok.bs, ok.bsz, ok.noex, ok.exfs, ok.funs, ok.frf⟩
section
variable {X : Cx} {pins : List (Addr × Obj)} {σ : St} {H : Hp} {s : Shared} {E : Value → Shared → Prop}
theorem Inv.wish (I : Inv X pins σ H s) (E : Value → Shared → Prop) : Inv (X.wish E) pins σ H s := ⟨I.ok.wish E, I.os, I.bare, I.base, I.loc, I.cell, I.free, I.freeC, I.pin, I.hok, I.len⟩
theorem Inv.unwish (I : Inv (X.wish E) pins σ H s) : Inv X pins σ H s := ⟨I.ok.unwish, I.os, I.bare, I.base, I.loc, I.cell, I.free, I.freeC, I.pin, I.hok, I.len⟩
theorem SP.unwish {D : Ends} {f : Flow} {s' : Shared} (h : SP (X.wish E) pins D f s') : SP X pins D f s' := by
  cases f with
  | next => obtain ⟨σ', H', I, q⟩ := h; exact ⟨σ', H', I.unwish, q⟩
  | brk => obtain ⟨σ', H', I, q⟩ := h; exact ⟨σ', H', I.unwish, q⟩
  | cont => obtain ⟨σ', H', I, q⟩ := h; exact ⟨σ', H', I.unwish, q⟩
  | ret u => obtain ⟨v, σ', H', I, r, q⟩ := h; exact ⟨v, σ', H', I.unwish, r, q⟩
theorem PSs.nox {st : List Stmt} {t : TS} (h : PSs X.nox st t) : PSs X st t := fun pins s σ H D I hw =>
  wpAny_mono (h pins s σ H D (I.wish _) hw) (fun _ _ q => q.unwish) fun _ _ z => False.elim z
end

section
variable {X : Cx} {st : Stmt} {rest : List Stmt} {t u : TS} {e : Expr} {te : TE} {pos : Pos}
def tNext : TS := fun D σ H => D.nx σ H
def tSeq (t u : TS) : TS := fun D σ H => t { D with nx := u D } σ H
theorem pss_nil : PSs X [] tNext := fun _ _ σ H _ I h => wpAny_execs_nil ⟨σ, H, I, h⟩
theorem pss_cons (h1 : PS X st t) (h2 : PSs X rest u) : PSs X (st :: rest) (tSeq t u) := by
  intro pins s σ H D I h
  refine wpAny_execs_cons (thn (h1 pins s σ H { D with nx := u D } I h) fun f s1 q => ?_)
  cases f with
  | next =>
    obtain ⟨σ', H', I', q⟩ := q
    exact h2 pins s1 σ' H' D I' q
  | ret v => exact q
  | brk => exact q
  | cont => exact q
theorem pss_one (h1 : PS X st t) : PSs X [st] t := by
  intro pins s σ H D I h
  refine wpAny_execs_cons (thn (h1 pins s σ H D I h) fun f s1 q => ?_)
  cases f with
  | next => exact wpAny_execs_nil q
  | ret v => exact q
  | brk => exact q
  | cont => exact q
def tBreak : TS := fun D σ H => D.bk σ H
def tCont : TS := fun D σ H => D.ct σ H
theorem Inv.quiet {pins : List (Addr × Obj)} {σ : St} {H : Hp} {s : Shared} (I : Inv X pins σ H s) : interactive X.env = false := by simp [interactive, I.ok.kind]
def tDrop (te : TE) : TS := fun D σ H => te σ H fun _ H1 => D.nx σ H1
theorem ps_expr (he : PE X e te) (hs : swapsWith e none pos.line X.env = pure false := by rfl) : PS X (.Expr e pos) (tDrop te) := by
  intro pins s σ H D I h
  exact wpAny_Expr_any (thn (he pins s σ H _ I h) fun v s1 ⟨x, H1, I1, r1, q1⟩ => ⟨σ, H1, I1, q1⟩) I.quiet hs
def tRet (te : TE) : TS := fun D σ H => te σ H D.rt
theorem ps_ret (he : PE X e te) : PS X (.Return (some e) pos) (tRet te) := by
  intro pins s σ H D I h
  exact wpAny_Return_some (thn (he pins s σ H _ I h) fun v s1 ⟨x, H1, I1, r1, q1⟩ => ⟨x, σ, H1, I1, r1, q1⟩)
def tRetN : TS := fun D _ H => D.rt .non H
def tIfS (c : TT) (t u : TS) : TS := fun D σ H => c σ H fun b H1 => if b = true then t D σ H1 else u D σ H1
theorem ps_if {c : Expr} {a b : List Stmt} {tc : TT} (hc : PT X c tc) (ha : PSs X a t) (hb : PSs X b u) : PS X (.If c a b pos) (tIfS tc t u) := by
  intro pins s σ H D I h
  refine wpAny_If (thn (hc pins s σ H _ I h) fun d s1 ⟨H1, I1, q1⟩ => ?_)
  cases d with
  | true => exact ha pins s1 σ H1 D I1 q1
  | false => exact hb pins s1 σ H1 D I1 q1
def tNever : TS := fun _ _ _ => False
theorem pss_never {sts : List Stmt} : PSs X sts tNever := fun _ _ _ _ _ _ h => h.elim
end

abbrev TG := V → St → Hp → (St → Hp → Prop) → Prop
abbrev TGs := List V → St → Hp → (St → Hp → Prop) → Prop
def PG (X : Cx) (target : Expr) (t : TG) : Prop :=
  ∀ (pins : List (Addr × Obj)) (s : Shared) (σ : St) (H : Hp) (v : V) (u : Value) (Q : St → Hp → Prop), Inv X pins σ H s → RelV v u → t v σ H Q →
    wpAny (model X.prog X.w) X.A (assign target X.env u) (fun _ s' => ∃ σ' H', Inv X pins σ' H' s' ∧ Q σ' H') X.xe s
def PGs (X : Cx) (ts : List Expr) (t : TGs) : Prop :=
  ∀ (pins : List (Addr × Obj)) (s : Shared) (σ : St) (H : Hp) (vs : List V) (us : List Value) (Q : St → Hp → Prop), Inv X pins σ H s → Vals vs us → t vs σ H Q →
    wpAny (model X.prog X.w) X.A (assignInOrder ((assignEach ts X.env).map (·.2)) us) (fun _ s' => ∃ σ' H', Inv X pins σ' H' s' ∧ Q σ' H') X.xe s
abbrev TSet := V → V → V → Hp → (Hp → Prop) → Prop
def PSet (X : Cx) (t : TSet) : Prop :=
  ∀ (pins : List (Addr × Obj)) (s : Shared) (σ : St) (H : Hp) (o i v : V) (ov iv u : Value) (Q : Hp → Prop), Inv X pins σ H s → RelV o ov → RelV i iv → RelV v u → t o i v H Q →
    wpAny (model X.prog X.w) X.A (setItem ov iv u) (fun _ s' => ∃ H', Inv X pins σ H' s' ∧ Q H') X.xe s
abbrev TIp := V → V → Hp → VK → Prop
def PIp (X : Cx) (op : Operator) (t : TIp) : Prop :=
  ∀ (pins : List (Addr × Obj)) (s : Shared) (σ : St) (H : Hp) (x y : V) (v u : Value) (Q : VK), Inv X pins σ H s → RelV x v → RelV y u → t x y H Q →
    wpAny (model X.prog X.w) X.A (inplaceOp op v u) (EP X pins σ Q) X.xe s
section
variable {X : Cx} {pos : Pos}
def gName (i : Nat) : TG := fun v σ H Q => Q (σ.set i (some v)) H
theorem pg_name {i : Nat} {x : Str} (hN : X.N.Nodup) (hi : X.N[i]? = some x) (hx : Loc X.env.scope x) (hf : X.fn x = true ∨ X.env.scope.names.lookup x = some .local := by first | exact .inl rfl | exact .inr rfl | assumption) : PG X (.Name x pos) (gName i) := by
  intro pins s σ H v u Q I r h
  exact wpAny_assign_Name (store_ok I hN hi hx r (fun s' I' => ⟨_, H, I', h⟩) hf)
def gNil : TGs := fun vs σ H Q => vs = [] ∧ Q σ H
def gCons (t : TG) (u : TGs) : TGs := fun vs σ H Q => ∃ v r, vs = v :: r ∧ t v σ H fun σ' H' => u r σ' H' Q
def gTup (K : PySem.W.Frag) (n : Nat) (t : TGs) : TG := fun v σ H Q => ∃ a xs, v = .ref a ∧ SqT K H a xs ∧ xs.length = n ∧ t xs σ H Q
def gSub (to ti : TE) (t : TSet) : TG := fun v σ H Q => to σ H fun o H1 => ti σ H1 fun i H2 => t o i v H2 fun H3 => Q σ H3
def tAsg (te : TE) (g : TG) : TS := fun D σ H => te σ H fun x H1 => g x σ H1 D.nx
theorem ps_set {i : Nat} {x : Str} {e : Expr} {te : TE} {pos' : Pos} (hN : X.N.Nodup) (hi : X.N[i]? = some x) (hx : Loc X.env.scope x) (he : PE X e te) (hs : swapsWith e (some (.Name x pos')) pos.line X.env = pure false := by rfl) (hf : X.fn x = true ∨ X.env.scope.names.lookup x = some .local := by first | exact .inl rfl | exact .inr rfl | assumption) :
    PS X (.Assign [.Name x pos'] e pos) (tAsg te (gName i)) := by
  intro pins s σ H D I h
  refine wpAny_Assign_Name (thn (he pins s σ H _ I h) fun v s1 ⟨y, H1, I1, r1, q1⟩ => ?_) hs
  exact store_ok I1 hN hi hx r1 (fun s2 I2 => ⟨_, H1, I2, q1⟩) hf
def tPar (i j : Nat) (ta : TA) : TS := fun D σ H => ta σ H fun vs H1 => ∃ v w, vs = [v, w] ∧ D.nx ((σ.set i (some v)).set j (some w)) H1
def tAug (i : Nat) (te : TE) (ti : TIp) : TS := fun D σ H => ∃ x, σ[i]? = some (some x) ∧ te σ H fun y H1 => ti x y H1 fun z H2 => D.nx (σ.set i (some z)) H2
def tAugS (to ti te : TE) (tget : V → V → Hp → VK → Prop) (tip : TIp) (tset : TSet) : TS := fun D σ H => to σ H fun o H1 => ti σ H1 fun i H2 => tget o i H2 fun x H3 => te σ H3 fun y H4 => tip x y H4 fun z H5 => tset o i z H5 fun H6 => D.nx σ H6
def PGet (X : Cx) (t : V → V → Hp → VK → Prop) : Prop :=
  ∀ (pins : List (Addr × Obj)) (s : Shared) (σ : St) (H : Hp) (o i : V) (ov iv : Value) (Q : VK), Inv X pins σ H s → RelV o ov → RelV i iv → t o i H Q →
    wpAny (model X.prog X.w) X.A (getItem ov iv) (EP X pins σ Q) X.xe s
def ipI (f : Int → Int → Int) : TIp := fun x y H Q => ∃ i j, x = .int i ∧ y = .int j ∧ Q (.int (f i j)) H
end

section
variable {X : Cx} {pos : Pos}
def tWhile (c : TT) (tb : TS) : TS := fun D σ H => ∃ W : Nat → St → Hp → Prop, (∃ m, W m σ H) ∧ ∀ m σ H, W m σ H →
  c σ H fun b H1 => if b = true then ∃ N : St → Hp → Prop, (∀ σ' H', N σ' H' → ∃ m', m' < m ∧ W m' σ' H') ∧ tb { D with nx := N, ct := N, bk := D.nx } σ H1 else D.nx σ H1
theorem ps_while {c : Expr} {body : List Stmt} {tc : TT} {tb : TS} (hp : PassesOwn (model X.prog X.w) X.A X.env X.xe) (hc : PT X c tc) (hb : PSs X body tb) : PS X (.While c body [] pos) (tWhile tc tb) := by
  intro pins s σ H D I h
  obtain ⟨W, ⟨m0, w0⟩, turn⟩ := h
  refine wpAny_While (codeAny_whileLoop (fun n s' => ∃ σ' H', Inv X pins σ' H' s' ∧ W n σ' H') ?_ m0 ⟨σ, H, I, w0⟩)
  rintro n s1 ⟨σ1, H1, I1, w1⟩
  refine wpAny_passesOwn hp (thn (hc pins s1 σ1 H1 _ I1 (turn n σ1 H1 w1)) fun b s2 ⟨H2, I2, q2⟩ => ?_)
  cases b with
  | true =>
    obtain ⟨N, hN, q2⟩ := q2
    rw [if_pos rfl]
    refine wpAny_passesOwn hp (thn (hb pins s2 σ1 H2 _ I2 q2) fun f s3 q3 => ?_)
    cases f with
    | next =>
      obtain ⟨σ3, H3, I3, n3⟩ := q3
      obtain ⟨m', hm, w3⟩ := hN σ3 H3 n3
      exact ⟨m', hm, σ3, H3, I3, w3⟩
    | cont =>
      obtain ⟨σ3, H3, I3, n3⟩ := q3
      obtain ⟨m', hm, w3⟩ := hN σ3 H3 n3
      exact ⟨m', hm, σ3, H3, I3, w3⟩
    | brk => exact q3
    | ret v => exact q3
  | false =>
    rw [if_neg Bool.false_ne_true]
    exact wpAny_execs_nil ⟨σ1, H2, I2, q2⟩
end

structure It where
  go : Nat → Hp → Prop
  yld : Nat → Hp → V → Hp → Prop
  stop : Nat → Hp → Prop
def FpOk (X : Cx) (pins : List (Addr × Obj)) (H : Hp) (b : Addr) : Prop :=
  H b = none ∧ b ≠ X.env.locals ∧ b ∉ X.fs ∧ (b ∈ X.ex ∨ X.s₀.heap.objs.size ≤ b) ∧ (∀ x c, X.env.cells.lookup x = some c → c ≠ b) ∧ ∀ p ∈ X.pn ++ pins, p.1 ≠ b
theorem Inv.fpOk {X : Cx} {pins : List (Addr × Obj)} {σ : St} {H H' : Hp} {s : Shared} {b : Addr} (I : Inv X pins σ H s) (hb : s.heap.objs.size ≤ b) (hn : H' b = none) : FpOk X pins H' b := by
  refine ⟨hn, Nat.ne_of_gt (Nat.lt_of_lt_of_le I.lt hb), I.nofs hb, .inr (Nat.le_trans I.sz hb), fun x c e z => ?_, fun p hp z => ?_⟩
  · obtain ⟨v, q⟩ := I.cell x c e
    exact absurd (Nat.lt_of_lt_of_le q.lt (by rw [z]; exact hb)) (Nat.lt_irrefl _)
  · exact absurd (Nat.lt_of_lt_of_le (Heap.lt_size (I.pin p hp).1) (by rw [z]; exact hb)) (Nat.lt_irrefl _)
structure Turn (P : Program) (w : World) (K : PySem.W.Frag) (tg : Expr) (J : It) (fp : List Addr) (it : Addr) (tn : Nat → Heap → Prop) : Prop where
  mem : it ∈ fp
  obj : ∀ i h, tn i h → ∀ b ∈ fp, ∃ o, h.get? b = some o ∧ ∀ v, o.data ≠ .cell v
  keep : ∀ i h h', tn i h → (∀ b ∈ fp, ∀ o, h.get? b = some o → h'.get? b = some o) → tn i h'
  item : ∀ (X : Cx), X.prog = P → X.w = w → X.K = K → X.calm = true → ∀ (i : Nat) (pins : List (Addr × Obj)) (s : Shared) (σ : St) (H : Hp) (E : Value → Shared → Prop), Inv X pins σ H s → (∀ b ∈ fp, FpOk X pins H b) → tn i s.heap → J.go i H →
    wpAny (model P w) X.A (pyNext (.ref it)) (fun r s1 => ∃ u, r = some u ∧
      wpAny (model P w) X.A (letOwnedTupleGo tg (.ref it) u) (fun _ s2 => ∃ x H', Inv X pins σ H' s2 ∧ RelV x u ∧ J.yld i H x H' ∧ tn (i + 1) s2.heap ∧ ∀ b ∈ fp, H' b = none) E s1) E s
  done : ∀ (X : Cx), X.prog = P → X.w = w → X.K = K → X.calm = true → ∀ (i : Nat) (pins : List (Addr × Obj)) (s : Shared) (σ : St) (H : Hp) (E : Value → Shared → Prop), Inv X pins σ H s → (∀ b ∈ fp, FpOk X pins H b) → tn i s.heap → J.stop i H →
    wpAny (model P w) X.A (pyNext (.ref it)) (fun r s1 => r = none ∧ Inv X pins σ H s1) E s
  self : ∀ (A : Around) (i : Nat) (s : Shared) (Q : Value → Shared → Prop) (E : Value → Shared → Prop), tn i s.heap → Q (.ref it) s → wpAny (model P w) A (pyIter (.ref it)) Q E s
abbrev TI := St → Hp → (It → Hp → Prop) → Prop
def PIE (X : Cx) (pins : List (Addr × Obj)) (σ : St) (tg : Expr) (R : It → Hp → Prop) (itv : Value) (s2 : Shared) : Prop :=
  ∃ (it : Addr) (fp : List Addr) (tn : Nat → Heap → Prop) (J : It) (H' : Hp), itv = .ref it ∧ Inv X pins σ H' s2 ∧ Turn X.prog X.w X.K tg J fp it tn ∧ tn 0 s2.heap ∧ (∀ b ∈ fp, FpOk X pins H' b) ∧ R J H'
def PI (X : Cx) (tg iter : Expr) (wi : TI) : Prop :=
  ∀ (pins : List (Addr × Obj)) (s : Shared) (σ : St) (H : Hp) (R : It → Hp → Prop), Inv X pins σ H s → wi σ H R →
    wpAny (model X.prog X.w) X.A (eval iter X.env) (fun v s1 => wpAny (model X.prog X.w) X.A (pyIter v) (PIE X pins σ tg R) X.xe s1) X.xe s

theorem go_of {M : Model} {A : Around} {E : Value → Shared → Prop} {s : Shared} {tg : Expr} {it : Addr} {u : Value} {o : Obj} {n : String} {vs : Array Value} {Q : Unit → Shared → Prop} (ho : s.heap.get? it = some o) (hc : o.cls = .type n) (hd : o.data = .fields vs)
    (hn : ["enumerate", "zip", "dict_itemiterator", "dict_reverseitemiterator", "odict_iterator", "itertools.zip_longest", "itertools.pairwise"].contains n = false) (hQ : Q () s) : wpAny M A (letOwnedTupleGo tg (.ref it) u) Q E s := by
  unfold letOwnedTupleGo
  cases tg <;> first
    | exact wpAny_pure hQ
    | (cases u <;> first
        | exact wpAny_pure hQ
        | (refine wpAny_bind (wpAny_load ho ?_)
           rw [hc, hd]
           show wpAny M A (if (["enumerate", "zip", "dict_itemiterator", "dict_reverseitemiterator", "odict_iterator", "itertools.zip_longest", "itertools.pairwise"].contains n && vs[0]? == some (rawInt _)) = true then _ else _) Q E s
           rw [if_neg (by intro h; rw [hn, Bool.false_and] at h; cases h)]
           exact wpAny_pure hQ))

def Itl (K : PySem.W.Frag) (a : Addr) : It :=
  ⟨fun i H => ∃ xs x, SqL K H a xs ∧ xs[i]? = some x, fun i H x H' => H' = H ∧ ∀ xs, SqL K H a xs → xs[i]? = some x, fun i H => ∃ xs, SqL K H a xs ∧ xs.length ≤ i⟩
def Itt (K : PySem.W.Frag) (a : Addr) : It :=
  ⟨fun i H => ∃ xs x, SqT K H a xs ∧ xs[i]? = some x, fun i H x H' => H' = H ∧ ∀ xs, SqT K H a xs → xs[i]? = some x, fun i H => ∃ xs, SqT K H a xs ∧ xs.length ≤ i⟩
def Itr (lo : Int) (n : Nat) : It := ⟨fun i _ => i < n, fun i H x H' => H' = H ∧ x = .int (lo + i), fun i _ => n ≤ i⟩
theorem turn_list {P : Program} {w : World} {K : PySem.W.Frag} {tg : Expr} (a it : Addr) : Turn P w K tg (Itl K a) [it] it (fun i h => h.IsListIter it a i) where
  mem := by simp
  obj := fun i h st b hb => by
    have e : b = it := by simpa using hb
    subst e
    obtain ⟨o, e, c, d⟩ := st
    exact ⟨o, e, fun v z => by rw [d] at z; cases z⟩
  keep := fun i h h' st k => st.at fun o e => k it (by simp) o e
  item := by
    intro X hP hw hK hc i pins s σ H E I hf st hg
    subst hP hw hK
    obtain ⟨xs, x, hq, hx⟩ := hg
    obtain ⟨its, rv, p, hz⟩ := I.list hq
    obtain ⟨u, hu, ru⟩ := rv.get hx
    obtain ⟨f0, f1, f2, f3, f4, f5⟩ := hf it (by simp)
    refine wpAny_pyNext_list_item st p.isList (x := u) (by simpa using hu) fun h' st' sb => ?_
    have I1 : Inv X pins σ H { s with heap := h' } := I.turned (t' := s.toks) (fun b o hb e => (sb.2 b hb).trans e) f0 f1 f3 f4 f5
    obtain ⟨o, e, c, d⟩ := id st'
    exact ⟨u, rfl, go_of (s := { s with heap := h' }) e c d (by decide) ⟨x, H, I1, ru, ⟨rfl, fun ys hy => by rw [I.list_inj hy hq]; exact hx⟩, st', fun b hb => (hf b hb).1⟩⟩
  done := by
    intro X hP hw hK hc i pins s σ H E I hf st hg
    subst hP hw hK
    obtain ⟨xs, hq, hx⟩ := hg
    obtain ⟨its, rv, p, hz⟩ := I.list hq
    obtain ⟨f0, f1, f2, f3, f4, f5⟩ := hf it (by simp)
    have hl := rv.length
    exact wpAny_pyNext_list_end (I.ok.hd hc) st p.isList (by simp; omega) fun h' eb => ⟨rfl, I.turned (t' := s.toks) (fun b o hb e => eb b o hb e) f0 f1 f3 f4 f5⟩
  self := fun _ _ _ _ _ st h => wpAny_pyIter_listiter st h
theorem turn_range {P : Program} {w : World} {K : PySem.W.Frag} {tg : Expr} (it : Addr) (lo : Int) (n : Nat) : Turn P w K tg (Itr lo n) [it] it (fun i h => IsRangeIter h it (lo + (i : Nat) * 1) ((n : Int) - (i : Nat)) 1) where
  mem := by simp
  obj := fun i h st b hb => by
    have e : b = it := by simpa using hb
    subst e
    exact ⟨_, st, fun v z => by
      have z' : Data.fields _ = Data.cell v := z
      cases z'⟩
  keep := fun i h h' st k => k it (by simp) _ st
  item := by
    intro X hP hw hK hc i pins s σ H E I hf st hg
    subst hP hw hK
    obtain ⟨f0, f1, f2, f3, f4, f5⟩ := hf it (by simp)
    have W := Walks.range (prog := X.prog) (w := X.w) (I.ok.hd hc) it lo 1 n
    refine W.item i s _ _ hg st fun v h' tk hv st' kk => ?_
    obtain ⟨t, rfl⟩ := hv
    have I1 : Inv X pins σ H { s with heap := h', toks := tk } := I.turned (fun b o hb e => kk b o (by simpa using hb) e) f0 f1 f3 f4 f5
    refine ⟨_, rfl, go_of (s := { s with heap := h', toks := tk }) (n := "range_iterator") st' rfl rfl (by decide) ⟨.int (lo + i), H, I1, ⟨t, ?_⟩, ⟨rfl, rfl⟩, st', fun b hb => (hf b hb).1⟩⟩
    rw [Int.mul_one]
  done := by
    intro X hP hw hK hc i pins s σ H E I hf st hg
    subst hP hw hK
    obtain ⟨f0, f1, f2, f3, f4, f5⟩ := hf it (by simp)
    exact wpAny_pyNext_range_end (I.ok.hd hc) st (by have : n ≤ i := hg; omega) fun h' eb => ⟨rfl, I.turned (t' := s.toks) (fun b o hb e => eb b o hb e) f0 f1 f3 f4 f5⟩
  self := fun _ _ _ _ _ st h => wpAny_pyIter_rangeiter st h
end L2

namespace L2
open PySem PySem.Spec PyProof.Rows
section
variable {X : Cx} {tg : Expr}
def iList (K : PySem.W.Frag) (tl : TE) : TI := fun σ H R => tl σ H fun x H1 => ∃ a, x = .ref a ∧ (∃ xs, SqL K H1 a xs) ∧ R (Itl K a) H1
def iTup (K : PySem.W.Frag) (tl : TE) : TI := fun σ H R => tl σ H fun x H1 => ∃ a, x = .ref a ∧ (∃ xs, SqT K H1 a xs) ∧ R (Itt K a) H1
theorem pi_list {l : Expr} {tl : TE} (hl : PE X l tl) : PI X tg l (iList X.K tl) := by
  intro pins s σ H R I h
  refine thn (hl pins s σ H _ I h) fun v s1 ⟨x, H1, I1, r1, q1⟩ => ?_
  obtain ⟨a, e, ⟨xs, hq⟩, q⟩ := q1
  subst e
  cases r1
  obtain ⟨its, rv, p, hz⟩ := I1.list hq
  refine wpAny_pyIter_list p.isList ?_
  refine ⟨s1.heap.objs.size, [s1.heap.objs.size], _, _, H1, rfl, I1.kept (t' := s1.toks) fun b o e => Heap.get?_push_of_some _ e, turn_list a _, ⟨_, Heap.get?_push_size _ rfl, rfl, rfl⟩, fun b hb => ?_, q⟩
  have e : b = s1.heap.objs.size := by simpa using hb
  subst e
  exact I1.fpOk (Nat.le_refl _) (I1.hok.fresh (Nat.le_refl _))
theorem range_it {pins : List (Addr × Obj)} {σ : St} {H : Hp} {s : Shared} {R : It → Hp → Prop} {E : Value → Shared → Prop} {lo hi : Int} {t u v : Tok} {tk : Nat} (I : Inv X pins σ H s) (h1 : -(2 ^ 62) ≤ lo) (h2 : lo < 2 ^ 62) (h3 : -(2 ^ 62) ≤ hi) (h4 : hi < 2 ^ 62)
    (q : R (Itr lo (hi - lo).toNat) H) : wpAny (model X.prog X.w) X.A (pyIter (.ref s.heap.objs.size)) (PIE X pins σ tg R) E { s with heap := s.heap.push { cls := .type "range", data := .fields #[.int lo t, .int hi u, .int 1 v] }, toks := tk } := by
  refine wpAny_pyIter_range (IsRange.new ..) (small_one h1 h2 h3 h4) ?_
  have I1 : Inv X pins σ H { s with heap := s.heap.push { cls := .type "range", data := .fields #[.int lo t, .int hi u, .int 1 v] }, toks := tk } := I.kept fun b o e => Heap.get?_push_of_some _ e
  refine ⟨(s.heap.push { cls := .type "range", data := .fields #[.int lo t, .int hi u, .int 1 v] }).objs.size, [(s.heap.push { cls := .type "range", data := .fields #[.int lo t, .int hi u, .int 1 v] }).objs.size], _, _, H, rfl,
    I1.kept (t' := tk) fun b o e => Heap.get?_push_of_some _ e, turn_range _ lo (hi - lo).toNat, ?_, fun b hb => ?_, q⟩
  · have e1 : lo + ((0 : Nat) : Int) * 1 = lo := by simp
    have e2 : (((hi - lo).toNat : Nat) : Int) - ((0 : Nat) : Int) = Builtin.Range.rangeSize lo hi 1 := by rw [rangeSize_one]; split <;> omega
    show IsRangeIter _ _ (lo + ((0 : Nat) : Int) * 1) ((((hi - lo).toNat : Nat) : Int) - ((0 : Nat) : Int)) 1
    rw [e1, e2]
    exact Heap.get?_push_size _ rfl
  · have e : b = (s.heap.push { cls := .type "range", data := .fields #[.int lo t, .int hi u, .int 1 v] }).objs.size := by simpa using hb
    subst e
    exact I1.fpOk (Nat.le_refl _) (I1.hok.fresh (Nat.le_refl _))
def iRng1 (ta : TA) : TI := fun σ H R => ta σ H fun vs H1 => ∃ j : Int, vs = [.int j] ∧ -(2 ^ 62) ≤ j ∧ j < 2 ^ 62 ∧ R (Itr 0 j.toNat) H1
def iRng2 (ta : TA) : TI := fun σ H R => ta σ H fun vs H1 => ∃ i j : Int, vs = [.int i, .int j] ∧ (-(2 ^ 62) ≤ i ∧ i < 2 ^ 62 ∧ -(2 ^ 62) ≤ j ∧ j < 2 ^ 62) ∧ R (Itr i (j - i).toNat) H1
theorem pi_range1 {a : Expr} {ta : TA} {p pos : Pos} (hg : Gl X "range") (hm : X.mg "range" = none) (ha : PA X [a] ta) (hs : starEach [a] X.env = [(false, eval a X.env)] := by rfl) : PI X tg (.Call (.Name "range" p) [a] [] pos) (iRng1 ta) := by
  intro pins s σ H R I h
  refine Call_ (ld_blt I hg hm boot_range (PyProof.Rows.callWith_type1 (thn (ha pos pins s σ H _ I h) fun us s1 ⟨vs, H1, I1, r1, q1⟩ => ?_) hs rfl))
  obtain ⟨j, e, q1, q2, q⟩ := q1
  subst e
  cases r1 with
  | cons r rr =>
    cases rr
    obtain ⟨t, rfl⟩ := r
    exact call_range_1 (range_it I1 (by omega) (by omega) q1 q2 (by simpa using q))
def tFor (wi : TI) (g : TG) (tb : TS) : TS := fun D σ H => wi σ H fun J H1 => ∃ W : Nat → Nat → St → Hp → Prop, (∃ m, W 0 m σ H1) ∧ ∀ i m σ H, W i m σ H →
  (J.stop i H ∧ D.nx σ H) ∨ (J.go i H ∧ ∃ N : St → Hp → Prop, (∀ σ' H', N σ' H' → ∃ m', m' < m ∧ W (i + 1) m' σ' H') ∧ ∀ x H', J.yld i H x H' → g x σ H' fun σ2 H2 => tb { D with nx := N, ct := N, bk := D.nx } σ2 H2)
def pinsAt (fp : List Addr) (h : Heap) : List (Addr × Obj) := fp.filterMap fun b => (h.get? b).map fun o => (b, o)
theorem mem_pinsAt {fp : List Addr} {h : Heap} {b : Addr} {o : Obj} (hb : b ∈ fp) (e : h.get? b = some o) : (b, o) ∈ pinsAt fp h := List.mem_filterMap.mpr ⟨b, hb, by rw [e]; rfl⟩
theorem of_pinsAt {fp : List Addr} {h : Heap} {p : Addr × Obj} (hp : p ∈ pinsAt fp h) : p.1 ∈ fp ∧ h.get? p.1 = some p.2 := by
  obtain ⟨b, hb, e⟩ := List.mem_filterMap.mp hp
  cases q : h.get? b with
  | none => rw [q] at e; cases e
  | some o =>
    rw [q] at e
    have e' : (b, o) = p := Option.some.inj e
    subst e'
    exact ⟨hb, q⟩
theorem Inv.pinned {pins : List (Addr × Obj)} {σ : St} {H : Hp} {s : Shared} {fp : List Addr} (I : Inv X pins σ H s) (hf : ∀ b ∈ fp, FpOk X pins H b) (ho : ∀ b ∈ fp, ∃ o, s.heap.get? b = some o ∧ ∀ v, o.data ≠ .cell v) : Inv X (pins ++ pinsAt fp s.heap) σ H s :=
  I.pins_of fun p hp => (List.mem_append.mp hp).elim (fun z => I.pin p (List.mem_append_right _ z)) fun z => by
    obtain ⟨hb, e⟩ := of_pinsAt z
    obtain ⟨f0, f1, f2, _⟩ := hf p.1 hb
    obtain ⟨o, e', d⟩ := ho p.1 hb
    rw [e] at e'; cases e'
    exact ⟨e, f0, f1, f2, d⟩
theorem Inv.unpinned {pins pl : List (Addr × Obj)} {σ : St} {H : Hp} {s : Shared} (I : Inv X (pins ++ pl) σ H s) : Inv X pins σ H s := I.pins_of fun p hp => I.pin p (List.mem_append_right _ (List.mem_append_left _ hp))
theorem ps_for {iter : Expr} {body : List Stmt} {wi : TI} {g : TG} {tb : TS} {pos : Pos} (hp : PassesOwn (model X.prog X.w) X.A X.env X.xe) (hc : X.calm = true) (hi : PI X tg iter wi) (hg : PG X tg g) (hb : PSs X body tb)
    (hs : ∀ x, foldedSetIterable iter X.env x = pure x := by intro _; rfl) : PS X (.For tg iter body [] pos) (tFor wi g tb) := by
  intro pins s σ H D I h
  refine wpAny_For (thn (hi pins s σ H _ I h) fun v s1 h1 => thn h1 fun itv s2 h2 => ?_) hs
  obtain ⟨it, fp, tn, J, H2, e, I2, T, st2, f2, W, ⟨m0, w0⟩, turn⟩ := h2
  subst e
  -- what stays true of the iterator's objects through the loop
  have stat : ∀ {H' : Hp}, (∀ b ∈ fp, H' b = none) → ∀ b ∈ fp, FpOk X pins H' b := fun hn b hb => ⟨hn b hb, (f2 b hb).2⟩
  refine codeAny_forLoop_any (fun n s' => ∃ i σ' H', Inv X pins σ' H' s' ∧ tn i s'.heap ∧ (∀ b ∈ fp, H' b = none) ∧ W i n σ' H') ?_ m0 ⟨0, σ, H2, I2, st2, fun b hb => (f2 b hb).1, w0⟩
  rintro n s3 ⟨i, σ3, H3, I3, st3, fr3, w3⟩
  rcases turn i n σ3 H3 w3 with ⟨stop, qn⟩ | ⟨go, N, hN, step⟩
  · refine wpAny_passesOwn hp (thn (T.done X rfl rfl rfl hc i pins s3 σ3 H3 X.xe I3 (stat fr3) st3 stop) fun r s4 ⟨hr, I4⟩ => ?_)
    subst hr
    exact wpAny_execs_nil ⟨σ3, H3, I4, qn⟩
  · refine wpAny_passesOwn hp (thn (T.item X rfl rfl rfl hc i pins s3 σ3 H3 X.xe I3 (stat fr3) st3 go) fun r s4 ⟨u, hr, h4⟩ => ?_)
    subst hr
    refine wpAny_passesOwn hp (thn h4 fun _ s5 ⟨x, H5, I5, r5, y5, st5, fr5⟩ => ?_)
    have I5' := I5.pinned (stat fr5) (T.obj _ _ st5)
    refine wpAny_passesOwn hp (thn (hg _ s5 σ3 H5 x u _ I5' r5 (step x H5 y5)) fun _ s6 ⟨σ6, H6, I6, q6⟩ => ?_)
    refine wpAny_passesOwn hp (thn (hb _ s6 σ6 H6 _ I6 q6) fun f s7 q7 => ?_)
    have again : ∀ {σ7 : St} {H7 : Hp}, Inv X (pins ++ pinsAt fp s5.heap) σ7 H7 s7 → N σ7 H7 → ∃ m, m < n ∧ ∃ i σ' H', Inv X pins σ' H' s7 ∧ tn i s7.heap ∧ (∀ b ∈ fp, H' b = none) ∧ W i m σ' H' := fun {σ7 H7} I7 n7 => by
      obtain ⟨m', hm, w7⟩ := hN σ7 H7 n7
      refine ⟨m', hm, i + 1, σ7, H7, I7.unpinned, T.keep _ _ _ st5 fun b hb o e => (I7.pin (b, o) (List.mem_append_right _ (List.mem_append_right _ (mem_pinsAt hb e)))).1, fun b hb => ?_, w7⟩
      obtain ⟨o, e, d⟩ := T.obj _ _ st5 b hb
      exact (I7.pin (b, o) (List.mem_append_right _ (List.mem_append_right _ (mem_pinsAt hb e)))).2.1
    cases f with
    | next => obtain ⟨σ7, H7, I7, n7⟩ := q7; exact again I7 n7
    | cont => obtain ⟨σ7, H7, I7, n7⟩ := q7; exact again I7 n7
    | brk => obtain ⟨σ7, H7, I7, q7⟩ := q7; exact ⟨σ7, H7, I7.unpinned, q7⟩
    | ret v => obtain ⟨x7, σ7, H7, I7, r7, q7⟩ := q7; exact ⟨x7, σ7, H7, I7.unpinned, r7, q7⟩
end

theorem for_range {lo : Int} {n : Nat} {g : TG} {tb : TS} {D : Ends} {σ : St} {H : Hp} (Pv : Nat → St → Hp → Prop) (h0 : Pv 0 σ H)
    (hs : ∀ i σ H, i < n → Pv i σ H → g (.int (lo + i)) σ H fun σ2 H2 => tb { D with nx := Pv (i + 1), ct := Pv (i + 1), bk := D.nx } σ2 H2) (hd : ∀ σ H, Pv n σ H → D.nx σ H) :
    ∃ W : Nat → Nat → St → Hp → Prop, (∃ m, W 0 m σ H) ∧ ∀ i m σ H, W i m σ H →
      ((Itr lo n).stop i H ∧ D.nx σ H) ∨ ((Itr lo n).go i H ∧ ∃ N : St → Hp → Prop, (∀ σ' H', N σ' H' → ∃ m', m' < m ∧ W (i + 1) m' σ' H') ∧ ∀ x H', (Itr lo n).yld i H x H' → g x σ H' fun σ2 H2 => tb { D with nx := N, ct := N, bk := D.nx } σ2 H2) := by
  refine ⟨fun i m σ H => m = n - i ∧ i ≤ n ∧ Pv i σ H, ⟨n, by simp, Nat.zero_le _, h0⟩, ?_⟩
  rintro i m σ H ⟨rfl, hi, p⟩
  by_cases hlt : i < n
  · refine .inr ⟨hlt, Pv (i + 1), fun σ' H' p' => ⟨n - (i + 1), by omega, rfl, hlt, p'⟩, fun x H' y => ?_⟩
    obtain ⟨e, y⟩ := y
    subst e y
    exact hs i σ _ hlt p
  · have e : i = n := by omega
    subst e
    exact .inl ⟨Nat.le_refl _, hd σ H p⟩
end L2

namespace L2
open PySem PySem.Spec PyProof.Rows

abbrev R2 := V → V → Hp → VK → Prop
def OpR (X : Cx) (f : Value → Value → Sem Value) (r : R2) : Prop :=
  ∀ (pins : List (Addr × Obj)) (s : Shared) (σ : St) (H : Hp) (x y : V) (v u : Value) (Q : VK), Inv X pins σ H s → RelV x v → RelV y u → r x y H Q →
    wpAny (model X.prog X.w) X.A (f v u) (EP X pins σ Q) X.xe s
def UnR (X : Cx) (f : Value → Sem Value) (r : V → Hp → VK → Prop) : Prop :=
  ∀ (pins : List (Addr × Obj)) (s : Shared) (σ : St) (H : Hp) (x : V) (v : Value) (Q : VK), Inv X pins σ H s → RelV x v → r x H Q →
    wpAny (model X.prog X.w) X.A (f v) (EP X pins σ Q) X.xe s
def CallR (X : Cx) (f : Value) (r : List V → Hp → VK → Prop) : Prop :=
  ∀ (pins : List (Addr × Obj)) (s : Shared) (σ : St) (H : Hp) (xs : List V) (us : List Value) (Q : VK), Inv X pins σ H s → Vals xs us → r xs H Q →
    wpAny (model X.prog X.w) X.A (call f us) (EP X pins σ Q) X.xe s
def TruR (X : Cx) (r : V → Hp → (Bool → Hp → Prop) → Prop) : Prop :=
  ∀ (pins : List (Addr × Obj)) (s : Shared) (σ : St) (H : Hp) (x : V) (v : Value) (Q : Bool → Hp → Prop), Inv X pins σ H s → RelV x v → r x H Q →
    wpAny (model X.prog X.w) X.A (truthy v) (TP X pins σ Q) X.xe s

def tOp (r : R2) (ta tb : TE) : TE := fun σ H Q => ta σ H fun x H1 => tb σ H1 fun y H2 => r x y H2 Q
def tUn (r : V → Hp → VK → Prop) (ta : TE) : TE := fun σ H Q => ta σ H fun x H1 => r x H1 Q
def rI (C : Int → Int → Prop) (g : Int → Int → V) : R2 := fun x y H Q => ∃ i j, x = .int i ∧ y = .int j ∧ C i j ∧ Q (g i j) H
def rI0 (g : Int → Int → V) : R2 := fun x y H Q => ∃ i j, x = .int i ∧ y = .int j ∧ Q (g i j) H
def rU (g : Int → V) : V → Hp → VK → Prop := fun x H Q => ∃ i, x = .int i ∧ Q (g i) H

section
variable {X : Cx} {a b c : Expr} {ta tb tc : TE} {pos : Pos}

theorem binT (ha : PE X a ta) (hb : PE X b tb) {pins : List (Addr × Obj)} {s : Shared} {σ : St} {H : Hp} {R : V → V → Hp → Prop} (I : Inv X pins σ H s)
    (h : ta σ H fun x H1 => tb σ H1 fun y H2 => R x y H2) {Q : Value → Shared → Prop} {f : Value → Value → Sem Value}
    (hf : ∀ v u s2 x y H2, Inv X pins σ H2 s2 → RelV x v → RelV y u → R x y H2 → wpAny (model X.prog X.w) X.A (f v u) Q X.xe s2) :
    wpAny (model X.prog X.w) X.A (eval a X.env) (fun v s₁ => wpAny (model X.prog X.w) X.A (eval b X.env) (fun u s₂ => wpAny (model X.prog X.w) X.A (f v u) Q X.xe s₂) X.xe s₁) X.xe s := by
  refine thn (ha pins s σ H _ I h) fun v s1 ⟨x, H1, I1, r1, q1⟩ => ?_
  refine thn (hb pins s1 σ H1 _ I1 q1) fun u s2 ⟨y, H2, I2, r2, q2⟩ => ?_
  exact hf v u s2 x y H2 I2 r1 r2 q2

theorem pe_op {op : Operator} {r : R2} (ho : OpR X (binaryOp op) r) (ha : PE X a ta) (hb : PE X b tb) : PE X (.BinOp a op b pos) (tOp r ta tb) := by
  intro pins s σ H Q I h
  exact wpAny_BinOp (binT ha hb I h fun v u s2 x y H2 I2 rx ry q => ho pins s2 σ H2 x y v u Q I2 rx ry q)
theorem pe_un {op : UnaryOp} {r : V → Hp → VK → Prop} (ho : UnR X (unaryOp op) r) (ha : PE X a ta) : PE X (.UnaryOp op a pos) (tUn r ta) := by
  intro pins s σ H Q I h
  exact UnaryOp_ (thn (ha pins s σ H _ I h) fun v s1 ⟨x, H1, I1, r1, q1⟩ => ho pins s1 σ H1 x v Q I1 r1 q1)
theorem opI {f : Value → Value → Sem Value} {C : Int → Int → Prop} {g : Int → Int → Int}
    (rule : ∀ (i j : Int) (t u : Tok) (s : Shared) (Q : Value → Shared → Prop) (E : Value → Shared → Prop), C i j → Q (.int (g i j) s.toks) { s with toks := s.toks + 1 } → wpAny (model X.prog X.w) X.A (f (.int i t) (.int j u)) Q E s) :
    OpR X f (rI C fun i j => .int (g i j)) := by
  intro pins s σ H x y v u Q I rx ry h
  obtain ⟨i, j, rfl, rfl, hc, q⟩ := h
  obtain ⟨t, rfl⟩ := rx
  obtain ⟨t', rfl⟩ := ry
  exact rule i j t t' s _ _ hc ⟨.int (g i j), H, I.tok _, ⟨_, rfl⟩, q⟩
theorem opI0 {f : Value → Value → Sem Value} {g : Int → Int → Int}
    (rule : ∀ (i j : Int) (t u : Tok) (s : Shared) (Q : Value → Shared → Prop) (E : Value → Shared → Prop), Q (.int (g i j) s.toks) { s with toks := s.toks + 1 } → wpAny (model X.prog X.w) X.A (f (.int i t) (.int j u)) Q E s) :
    OpR X f (rI0 fun i j => .int (g i j)) := by
  intro pins s σ H x y v u Q I rx ry h
  obtain ⟨i, j, rfl, rfl, q⟩ := h
  obtain ⟨t, rfl⟩ := rx
  obtain ⟨t', rfl⟩ := ry
  exact rule i j t t' s _ _ ⟨.int (g i j), H, I.tok _, ⟨_, rfl⟩, q⟩
theorem opB0 {f : Value → Value → Sem Value} {g : Int → Int → Bool}
    (rule : ∀ (i j : Int) (t u : Tok) (s : Shared) (Q : Value → Shared → Prop) (E : Value → Shared → Prop), Q (.bool (g i j)) s → wpAny (model X.prog X.w) X.A (f (.int i t) (.int j u)) Q E s) :
    OpR X f (rI0 fun i j => .bl (g i j)) := by
  intro pins s σ H x y v u Q I rx ry h
  obtain ⟨i, j, rfl, rfl, q⟩ := h
  obtain ⟨t, rfl⟩ := rx
  obtain ⟨t', rfl⟩ := ry
  exact rule i j t t' s _ _ ⟨.bl (g i j), H, I, rfl, q⟩

def CDiv (i j : Int) : Prop := 0 < j ∧ j < 1073741824
def CDivN (i j : Int) : Prop := j ≠ 0 ∧ j.natAbs < 1073741824
def CPow (i j : Int) : Prop := 0 ≤ j ∧ j ≤ 1000000 ∧ i.natAbs < 2 ^ 64
def CMul (i j : Int) : Prop := (-(2 ^ 64) < i ∧ i < 2 ^ 64) ∨ (-(2 ^ 64) < j ∧ j < 2 ^ 64)
theorem op_add : OpR X (binaryOp .Add) (rI0 fun i j => .int (i + j)) := opI0 fun _ _ _ _ _ _ _ q => add_int q
theorem op_sub : OpR X (binaryOp .Sub) (rI0 fun i j => .int (i - j)) := opI0 fun _ _ _ _ _ _ _ q => sub_int q
theorem op_mod : OpR X (binaryOp .Mod) (rI (fun _ j => 0 < j) fun i j => .int (i % j)) := opI fun i j _ _ _ _ _ hc q => by
  have h1 : (0 : Int) < j := hc
  exact mod_int' (by omega) (by rw [Int.fmod_eq_emod_of_nonneg i (by omega)]; exact q)
theorem op_modN : OpR X (binaryOp .Mod) (rI (fun _ j => j ≠ 0) fun i j => .int (i.fmod j)) := opI fun _ _ _ _ _ _ _ hc q => mod_int' hc q
theorem unI {f : Value → Sem Value} {g : Int → Int}
    (rule : ∀ (i : Int) (t : Tok) (s : Shared) (Q : Value → Shared → Prop) (E : Value → Shared → Prop), Q (.int (g i) s.toks) { s with toks := s.toks + 1 } → wpAny (model X.prog X.w) X.A (f (.int i t)) Q E s) :
    UnR X f (rU fun i => .int (g i)) := by
  intro pins s σ H x v Q I rx h
  obtain ⟨i, rfl, q⟩ := h
  obtain ⟨t, rfl⟩ := rx
  exact rule i t s _ _ ⟨.int (g i), H, I.tok _, ⟨_, rfl⟩, q⟩
theorem un_neg : UnR X (unaryOp .USub) (rU fun i => .int (-i)) := unI fun _ _ _ _ _ q => neg_int q
end

def scal : V → V → Bool
  | .non, .non => true | .non, .int _ => true | .int _, .non => true | .non, .bl _ => true | .bl _, .non => true | .non, .str _ => true | .str _, .non => true
  | .int _, .int _ => true | .bl _, .bl _ => true | .str _, .str _ => true | .byt _, .byt _ => true
  | .int _, .str _ => true | .str _, .int _ => true | .bl _, .str _ => true | .str _, .bl _ => true
  | _, _ => false
def rEq : R2 := fun x y H Q => scal x y = true ∧ Q (.bl (decide (x = y))) H
def rNe : R2 := fun x y H Q => scal x y = true ∧ Q (.bl (!decide (x = y))) H

theorem dec_int {i j : Int} : decide (V.int i = V.int j) = (i == j) := by
  rw [Bool.eq_iff_iff]
  simp
theorem dec_bl {i j : Bool} : decide (V.bl i = V.bl j) = (i == j) := by
  rw [Bool.eq_iff_iff]
  simp
theorem dec_str {i j : Str} : decide (V.str i = V.str j) = (i == j) := by
  rw [Bool.eq_iff_iff]
  simp
theorem dec_byt {i j : Array UInt8} : decide (V.byt i = V.byt j) = (i.toList == j.toList) := by
  rw [Bool.eq_iff_iff]
  cases i
  cases j
  simp

section
variable {X : Cx} {a b c : Expr} {ta tb tc : TE} {pos : Pos}
theorem fin_bl {pins : List (Addr × Obj)} {σ : St} {H : Hp} {s : Shared} {Q : VK} {k k' : Bool} (I : Inv X pins σ H s) (q : Q (.bl k) H) (e : k = k') : EP X pins σ Q (.bool k') s := by
  subst e
  exact ⟨.bl k, H, I, rfl, q⟩
theorem op_eq : OpR X (compareOp .Eq) rEq := by
  intro pins s σ H x y v u Q I rx ry h
  obtain ⟨hs, q⟩ := h
  cases x with
  | non =>
    cases rx
    cases y with
    | non => cases ry; exact PySem.EqNone.eq_none_none (fin_bl I q (by simp))
    | bl j => cases ry; exact PySem.EqNone.eq_none_bool (fin_bl I q (by simp))
    | int j => obtain ⟨t', rfl⟩ := ry; exact PySem.EqNone.eq_none_int (fin_bl I q (by simp))
    | str j => obtain ⟨t', rfl⟩ := ry; exact PySem.EqNone.eq_none_str (fin_bl I q (by simp))
    | _ => exact absurd (show false = true from hs) Bool.false_ne_true
  | bl i =>
    cases rx
    cases y with
    | non => cases ry; exact PySem.EqNone.eq_bool_none (fin_bl I q (by simp))
    | bl j => cases ry; exact eq_bool (fin_bl I q dec_bl)
    | str j => obtain ⟨t', rfl⟩ := ry; exact PySem.EqMixed.eq_bool_str (fin_bl I q (by simp))
    | _ => exact absurd (show false = true from hs) Bool.false_ne_true
  | int i =>
    obtain ⟨t, rfl⟩ := rx
    cases y with
    | non => cases ry; exact PySem.EqNone.eq_int_none (fin_bl I q (by simp))
    | int j => obtain ⟨t', rfl⟩ := ry; exact eq_int (fin_bl I q dec_int)
    | str j => obtain ⟨t', rfl⟩ := ry; exact PySem.EqMixed.eq_int_str (fin_bl I q (by simp))
    | _ => exact absurd (show false = true from hs) Bool.false_ne_true
  | str i =>
    obtain ⟨t, rfl⟩ := rx
    cases y with
    | non => cases ry; exact PySem.EqNone.eq_str_none (fin_bl I q (by simp))
    | bl j => cases ry; exact PySem.EqMixed.eq_str_bool (fin_bl I q (by simp))
    | int j => obtain ⟨t', rfl⟩ := ry; exact PySem.EqMixed.eq_str_int (fin_bl I q (by simp))
    | str j => obtain ⟨t', rfl⟩ := ry; exact eq_str (fin_bl I q dec_str)
    | _ => exact absurd (show false = true from hs) Bool.false_ne_true
  | byt i =>
    obtain ⟨t, rfl⟩ := rx
    cases y with
    | byt j => obtain ⟨t', rfl⟩ := ry; exact PySem.W.eq_bytes (fin_bl I q dec_byt)
    | _ => exact absurd (show false = true from hs) Bool.false_ne_true
  | _ => cases y <;> exact absurd (show false = true from hs) Bool.false_ne_true
theorem op_ne : OpR X (compareOp .NotEq) rNe := by
  intro pins s σ H x y v u Q I rx ry h
  obtain ⟨hs, q⟩ := h
  cases x with
  | non =>
    cases rx
    cases y with
    | non => cases ry; exact PySem.EqNone.ne_none_none (fin_bl I q (by simp))
    | bl j => cases ry; exact PySem.EqNone.ne_none_bool (fin_bl I q (by simp))
    | int j => obtain ⟨t', rfl⟩ := ry; exact PySem.EqNone.ne_none_int (fin_bl I q (by simp))
    | str j => obtain ⟨t', rfl⟩ := ry; exact PySem.EqNone.ne_none_str (fin_bl I q (by simp))
    | _ => exact absurd (show false = true from hs) Bool.false_ne_true
  | bl i =>
    cases rx
    cases y with
    | non => cases ry; exact PySem.EqNone.ne_bool_none (fin_bl I q (by simp))
    | bl j => cases ry; exact ne_bool (fin_bl I q (congrArg not dec_bl))
    | str j => obtain ⟨t', rfl⟩ := ry; exact PySem.EqMixed.ne_bool_str (fin_bl I q (by simp))
    | _ => exact absurd (show false = true from hs) Bool.false_ne_true
  | int i =>
    obtain ⟨t, rfl⟩ := rx
    cases y with
    | non => cases ry; exact PySem.EqNone.ne_int_none (fin_bl I q (by simp))
    | int j => obtain ⟨t', rfl⟩ := ry; exact ne_int (fin_bl I q (congrArg not dec_int))
    | str j => obtain ⟨t', rfl⟩ := ry; exact PySem.EqMixed.ne_int_str (fin_bl I q (by simp))
    | _ => exact absurd (show false = true from hs) Bool.false_ne_true
  | str i =>
    obtain ⟨t, rfl⟩ := rx
    cases y with
    | non => cases ry; exact PySem.EqNone.ne_str_none (fin_bl I q (by simp))
    | bl j => cases ry; exact PySem.EqMixed.ne_str_bool (fin_bl I q (by simp))
    | int j => obtain ⟨t', rfl⟩ := ry; exact PySem.EqMixed.ne_str_int (fin_bl I q (by simp))
    | str j => obtain ⟨t', rfl⟩ := ry; exact ne_str (fin_bl I q (congrArg not dec_str))
    | _ => exact absurd (show false = true from hs) Bool.false_ne_true
  | byt i =>
    obtain ⟨t, rfl⟩ := rx
    cases y with
    | byt j => obtain ⟨t', rfl⟩ := ry; exact PySem.W.ne_bytes (fin_bl I q (congrArg not dec_byt))
    | _ => exact absurd (show false = true from hs) Bool.false_ne_true
  | _ => cases y <;> exact absurd (show false = true from hs) Bool.false_ne_true

theorem op_lt : OpR X (compareOp .Lt) (rI0 fun i j => .bl (decide (i < j))) := opB0 fun _ _ _ _ _ _ _ q => lt_int q
theorem op_le : OpR X (compareOp .LtE) (rI0 fun i j => .bl (decide (i ≤ j))) := opB0 fun _ _ _ _ _ _ _ q => le_int q
theorem op_gt : OpR X (compareOp .Gt) (rI0 fun i j => .bl (decide (j < i))) := opB0 fun _ _ _ _ _ _ _ q => gt_int q
def isObj : HO → Bool
  | .lst _ => true
  | .ins _ _ _ => true
  | _ => false
theorem nomark (b : Expr) {op : CmpOp} (h : op ≠ .In := by decide) (h2 : op ≠ .NotIn := by decide) : behindInMarks op b = false := by
  have e1 : (op == CmpOp.In) = false := by cases op <;> first | rfl | exact absurd rfl h
  have e2 : (op == CmpOp.NotIn) = false := by cases op <;> first | rfl | exact absurd rfl h2
  cases b <;> simp [behindInMarks, e1, e2]
theorem pe_cmpR {op : CmpOp} {r : R2} (ho : OpR X (compareOp op) r) (ha : PE X a ta) (hb : PE X b tb) (hm : behindInMarks op b = false) : PE X (.Compare a [op] [b] pos) (tOp r ta tb) := by
  intro pins s σ H Q I h
  exact wpAny_Compare1 (binT ha hb I h fun v u s2 x y H2 I2 rx ry q => ho pins s2 σ H2 x y v u Q I2 rx ry q) hm
def tTest (t : TE) : TT := fun σ H Q => t σ H fun x H' => ∃ k, x = .bl k ∧ Q k H'
theorem pt_cmpR {op : CmpOp} {r : R2} (ho : OpR X (compareOp op) r) (ha : PE X a ta) (hb : PE X b tb) (hm : behindInMarks op b = false) : PT X (.Compare a [op] [b] pos) (tTest (tOp r ta tb)) := by
  intro pins s σ H Q I h
  refine wpAny_isTrue_Compare1 (thn (ha pins s σ H _ I h) fun v s1 ⟨x, H1, I1, r1, q1⟩ => thn (hb pins s1 σ H1 _ I1 q1) fun u s2 ⟨y, H2, I2, r2, q2⟩ =>
    thn (ho pins s2 σ H2 x y v u _ I2 r1 r2 q2) fun c s3 ⟨z, H3, I3, r3, k, e, q3⟩ => ?_) hm
  subst e
  cases r3
  exact wpAny_truthy_bool ⟨H3, I3, q3⟩
def tChain (r r' : R2) (ta tb tc : TE) : TE := fun σ H Q => ta σ H fun x H1 => tb σ H1 fun y H2 => r x y H2 fun z H3 => ∃ k, z = .bl k ∧
  (if k = true then tc σ H3 fun w' H4 => r' y w' H4 Q else Q (.bl false) H3)
def TruV (K : PySem.W.Frag) (x : V) (H : Hp) (k : Bool) : Prop :=
  match x with
  | .non => k = false
  | .bl b => k = b
  | .int i => k = (i != 0)
  | .str y => y.length ≤ sizeLine ∧ k = ((y.length : Int) != 0)
  | .byt y => y.size ≤ sizeLine ∧ k = ((y.size : Int) != 0)
  | .ref p => (∃ xs, SqL K H p xs ∧ k = !xs.isEmpty) ∨ (∃ xs, SqT K H p xs ∧ k = !xs.isEmpty) ∨ ∃ kvs, H p = some (.dK kvs) ∧ k = !kvs.isEmpty
  | _ => False
theorem line63 : (sizeLine : Nat) < 2 ^ 63 := by rw [sizeLine_eq]; decide
def PlainIxT (b : Expr) : Prop := ∀ o i, subscripted b false o i = operate [o, i] (getItem o i)
theorem vals1 {x : V} {us : List Value} (r : Vals [x] us) : ∃ u, us = [u] ∧ RelV x u := by
  cases r with
  | cons r1 r2 => cases r2; exact ⟨_, rfl, r1⟩
theorem call_int1 : CallR X (.type "int") (fun xs H Q => (∃ i, xs = [.int i] ∧ Q (.int i) H) ∨ ∃ k, xs = [.bl k] ∧ Q (.int (if k then 1 else 0)) H) := by
  intro pins s σ H xs us Q I r h
  rcases h with ⟨i, rfl, q⟩ | ⟨k, rfl, q⟩
  · obtain ⟨u, rfl, t, rfl⟩ := vals1 r
    exact call_int_int ⟨.int i, H, I, ⟨_, rfl⟩, q⟩
  · obtain ⟨u, rfl, r1⟩ := vals1 r
    cases r1
    exact call_int_bool ⟨.int (if k then 1 else 0), H, I.tok _, ⟨_, rfl⟩, q⟩
def LenV (K : PySem.W.Frag) (x : V) (H : Hp) (n : Nat) : Prop :=
  match x with
  | .str y => y.length ≤ sizeLine ∧ n = y.length
  | .byt y => y.size ≤ sizeLine ∧ n = y.size
  | .ref p => (∃ xs, SqL K H p xs ∧ n = xs.length) ∨ ∃ xs, SqT K H p xs ∧ n = xs.length
  | _ => False
end
end L2

namespace L2
open PySem PySem.Spec PyProof.Rows

structure ObjM (h : Heap) (x dx C : Addr) (mA : Str → Option Value) : Prop where
  obj : h.get? x = some (PySem.W.instObj C dx)
  ns : h.Ns1 dx mA
  ne : dx ≠ x

theorem lookIn_ns {h : Heap} {dx : Addr} {mA : Str → Option Value} (n : h.Ns1 dx mA) : ∃ od, h.get? dx = some od ∧ ∀ name, PySem.W.lookIn name od = some (mA name) := by
  obtain ⟨o, es, ep, ho, hd, hk, _, hm⟩ := n
  refine ⟨o, ho, fun name => ?_⟩
  have e := hm name
  unfold nsFind findBy at e
  rw [← Array.find?_toList] at e
  unfold PySem.W.lookIn
  rw [hd]
  dsimp only
  split
  · rename_i y q
    rw [q] at e
    exact congrArg some e
  · rename_i q
    rw [q] at e
    have a : es.toList.any (·.refKey) = false := by
      rw [List.any_eq_false]
      intro y hy
      obtain ⟨z, t, hkey⟩ := hk y (Array.mem_toList_iff.mp hy)
      simp [DictEntry.refKey, hkey]
    have a' : ¬ es.toList.any (·.refKey) = true := by rw [a]; exact Bool.false_ne_true
    rw [if_neg a']
    exact congrArg some e

theorem ObjM.look {h : Heap} {x dx C : Addr} {mA : Str → Option Value} (I : ObjM h x dx C mA) : ∃ od, PySem.W.InstAt h x (PySem.W.instObj C dx) C (some od) ∧ ∀ name, PySem.W.lookIn name od = some (mA name) :=
  let ⟨od, ho, hl⟩ := lookIn_ns I.ns
  ⟨od, ⟨I.obj, rfl, rfl, ho⟩, hl⟩

section
variable {prog : Program} {w : World} {A : Around} {E : Value → Shared → Prop} {s : Shared} {K : PySem.W.Frag} {x dx C f : Addr} {mA : Str → Option Value} {name : Str} {v : Value}

end

def putF (f : Str) (v : V) : List (Str × V) → List (Str × V)
  | [] => [(f, v)]
  | (g, x) :: r => if g = f then (g, v) :: r else (g, x) :: putF f v r
section
variable {P : Program} {w : World} {H H' : Hp} {h h' : Heap} {a C dx : Addr} {fs fs' : List (Str × V)}
theorem ins_get (hok : HOk P w H h) (e : H a = some (.ins C dx fs)) : ∃ mA, ObjM h a dx C mA ∧ (∀ f, RelO (fs.lookup f) (mA f)) ∧ PySem.Within mA (fs.map (·.1)) ∧ fs.length ≤ 1000 ∧ H dx = some (.own a) := by
  obtain ⟨d, z, ne, ob, mA, n, r, q⟩ := (show ObjOk P w H h a (.ins C dx fs) from hok a _ e)
  exact ⟨mA, ⟨ob, n, ne⟩, r, q, z, d⟩
end

structure Cls (K : PySem.W.Frag) (C : Addr) : Prop where
  pg : PySem.W.plainGet K C Str.empty = true
  hd : PySem.W.hasDictIn K C = true
  po : PySem.W.plainOver K C = true
  sa : PySem.W.findIn K (.ref C) "__setattr__" = some (some (.builtin "object.__setattr__"))
theorem Cls.get {K : PySem.W.Frag} {C : Addr} (c : Cls K C) (f : Str) : PySem.W.plainGet K C f = true := c.pg
def NoAttr (K : PySem.W.Frag) (C : Addr) (f : Str) : Prop := PySem.W.findIn K (.ref C) f = some none
structure Con (K : PySem.W.Frag) (C : Addr) (f : Str) (v : V) (u : Value) : Prop where
  at_ : PySem.W.findIn K (.ref C) f = some (some u)
  rel : RelV v u
  get : PySem.W.specialIn K u "__get__" = some none
  cp : PySem.W.copiedNames.contains f = false
structure Meth (K : PySem.W.Frag) (C : Addr) (m : Str) (f : Addr) : Prop where
  at_ : PySem.W.findIn K (.ref C) m = some (some (.ref f))
  fn : PySem.W.isFn K (.ref f) = true
  kp : PySem.W.keepIn K (.ref f) = true

section
variable {X : Cx} {pins : List (Addr × Obj)} {σ : St} {H : Hp} {s : Shared} {a C dx : Addr} {fs : List (Str × V)} {f : Str} {v : V} {A : Around} {E : Value → Shared → Prop}

end

def tFld (K : PySem.W.Frag) (ta : TE) (f : Str) : TE := fun σ H Q => ta σ H fun x H1 => ∃ a C dx fs v, x = .ref a ∧ H1 a = some (.ins C dx fs) ∧ Cls K C ∧ NoAttr K C f ∧ fs.lookup f = some v ∧ Q v H1
def tCon (K : PySem.W.Frag) (ta : TE) (f : Str) : TE := fun σ H Q => ta σ H fun x H1 => ∃ a C dx fs v u, x = .ref a ∧ H1 a = some (.ins C dx fs) ∧ Cls K C ∧ Con K C f v u ∧ fs.lookup f = none ∧ Q v H1
def sFld (K : PySem.W.Frag) (ta tv : TE) (f : Str) : TS := fun D σ H => tv σ H fun y H1 => ta σ H1 fun x H2 => ∃ a C dx fs, x = .ref a ∧ H2 a = some (.ins C dx fs) ∧ Cls K C ∧ NoAttr K C f ∧ fs.length < 1000 ∧
  D.nx σ (upd H2 a (.ins C dx (putF f y fs)))
def InOp (X : Cx) (op : Operator) (rd : V → V → Hp → VK → Prop) : Prop :=
  ∀ (pins : List (Addr × Obj)) (s : Shared) (σ : St) (H : Hp) (x y : V) (u v : Value) (Q : VK), Inv X pins σ H s → RelV x u → RelV y v → rd x y H Q → wpAny (model X.prog X.w) X.A (inplaceOp op u v) (EP X pins σ Q) X.xe s
def sFldAug (K : PySem.W.Frag) (ta tv : TE) (rd : V → V → Hp → VK → Prop) (f : Str) : TS := fun D σ H => ta σ H fun x H1 => ∃ a C dx fs v, x = .ref a ∧ H1 a = some (.ins C dx fs) ∧ Cls K C ∧ NoAttr K C f ∧ fs.lookup f = some v ∧
  tv σ H1 fun y H2 => rd v y H2 fun z H3 => ∃ dx' fs', H3 a = some (.ins C dx' fs') ∧ fs'.length < 1000 ∧ D.nx σ (upd H3 a (.ins C dx' (putF f z fs')))

section
variable {X : Cx} {o e value : Expr} {f : Str} {pos pos' tpos : Pos} {ta tv : TE}
def rAdd : V → V → Hp → VK → Prop := fun x y H Q => ∃ i j, x = .int i ∧ y = .int j ∧ Q (.int (i + j)) H
def rSub : V → V → Hp → VK → Prop := fun x y H Q => ∃ i j, x = .int i ∧ y = .int j ∧ Q (.int (i - j)) H
end

section
variable {X : Cx} {pins : List (Addr × Obj)} {σ : St} {H : Hp} {s : Shared} {A : Around} {E : Value → Shared → Prop} {Q : Value → Shared → Prop} {c : Value} {b : Bool}
inductive TyOf (K : PySem.W.Frag) (H : Hp) : V → Value → Prop where
  | non : TyOf K H .non (.type "NoneType")
  | bl (x : Bool) : TyOf K H (.bl x) (.type "bool")
  | int (i : Int) : TyOf K H (.int i) (.type "int")
  | str (x : Str) : TyOf K H (.str x) (.type "str")
  | flt (x : UInt64) : TyOf K H (.flt x) (.type "float")
  | lst {a : Addr} {xs : List V} (e : H a = some (.lst xs)) : TyOf K H (.ref a) (.type "list")
  | frz {a : Addr} {o : Obj} {xs : List V} (e : H a = some (.frz o (.lst xs))) : TyOf K H (.ref a) (.type "list")
  | tup {a : Addr} {xs : List V} (e : H a = some (.tup xs)) : TyOf K H (.ref a) (.type "tuple")
  | dK {a : Addr} {kvs : List (Key × V)} (e : H a = some (.dK kvs)) : TyOf K H (.ref a) (.type "dict")
  | dT {a : Addr} {kvs : List (List Key × V)} (e : H a = some (.dT kvs)) : TyOf K H (.ref a) (.type "dict")
  | ins {a C dx : Addr} {fs : List (Str × V)} (e : H a = some (.ins C dx fs)) (cl : Cls K C) (ha : PySem.W.findIn K (.ref C) "__class__" = some (some (.builtin "object.__class__")))
      (hn : PySem.W.specialIn K (.builtin "object.__class__") "__get__" = some (some (.builtin "getset_descriptor.__get__"))) (htk : PySem.W.takesIn K (.builtin "object.__class__") = some true)
      (hm : PySem.W.mroIn K C (.type "object") = some true) : TyOf K H (.ref a) (.ref C)
theorem isinst_ok {x : V} {u t : Value} (I : Inv X pins σ H s) (rx : RelV x u) (ty : TyOf X.K H x t) (e : PySem.W.kitOne X.K t c = some b) (h : ∀ tk, Q (.bool b) { s with toks := tk }) :
    wpAny (model X.prog X.w) A (call (.builtin "isinstance") [u, c]) Q E s := by
  cases ty with
  | non => cases (show u = Value.none from rx); exact PySem.W.kia_one PySem.W.kitx_none I.kIn True.intro e (fun z => nomatch z) h
  | bl y => cases (show u = Value.bool y from rx); exact PySem.W.kia_one PySem.W.kitx_bool I.kIn True.intro e (fun z => nomatch z) h
  | int i => obtain ⟨t, q⟩ := (show ∃ t, u = Value.int i t from rx); cases q; exact PySem.W.kia_one PySem.W.kitx_int I.kIn True.intro e (fun z => nomatch z) h
  | str y => obtain ⟨t, q⟩ := (show ∃ t, u = Value.str y t from rx); cases q; exact PySem.W.kia_one PySem.W.kitx_str I.kIn True.intro e (fun z => nomatch z) h
  | flt y => obtain ⟨t, q⟩ := (show ∃ t, u = Value.float y t from rx); cases q; exact PySem.W.kia_one PySem.W.kitx_float I.kIn True.intro e (fun z => nomatch z) h
  | @lst a xs ea =>
    cases (show u = Value.ref a from rx)
    obtain ⟨_, _, n, _, h1⟩ := (show ObjOk X.prog X.w H s.heap a (.lst xs) from I.hok a _ ea)
    exact PySem.W.kia_one PySem.W.kitx_list I.kIn ⟨_, h1, rfl⟩ e (fun z => nomatch z) h
  | @frz a ob xs ea =>
    cases (show u = Value.ref a from rx)
    obtain ⟨_, _, _, n, _, h1⟩ := (show ObjOk X.prog X.w H s.heap a (.frz ob (.lst xs)) from I.hok a _ ea)
    exact PySem.W.kia_one PySem.W.kitx_list I.kIn ⟨_, h1, rfl⟩ e (fun z => nomatch z) h
  | @tup a xs ea =>
    cases (show u = Value.ref a from rx)
    obtain ⟨_, _, _, p⟩ := (show ObjOk X.prog X.w H s.heap a (.tup xs) from I.hok a _ ea)
    obtain ⟨o, h1, h2, _⟩ := p
    exact PySem.W.kia_one PySem.W.kitx_tuple I.kIn ⟨o, h1, h2⟩ e (fun z => nomatch z) h
  | @dK a kvs ea =>
    cases (show u = Value.ref a from rx)
    obtain ⟨_, _, vs, _, p⟩ := (show ObjOk X.prog X.w H s.heap a (.dK kvs) from I.hok a _ ea)
    obtain ⟨o, es, ep, h1, h2, _⟩ := p
    exact PySem.W.kia_one PySem.W.kitx_dict I.kIn ⟨o, h1, h2.1⟩ e (fun z => nomatch z) h
  | @dT a kvs ea =>
    cases (show u = Value.ref a from rx)
    obtain ⟨_, _, xs, _, o, es, ep, h1, h2, _⟩ := (show ObjOk X.prog X.w H s.heap a (.dT kvs) from I.hok a _ ea)
    exact PySem.W.kia_one PySem.W.kitx_dict I.kIn ⟨o, h1, h2.1⟩ e (fun z => nomatch z) h
  | @ins a C dx fs ea cl ha hn htk hm =>
    cases (show u = Value.ref a from rx)
    obtain ⟨mA, O, _⟩ := ins_get I.hok ea
    obtain ⟨od, J, _⟩ := O.look
    exact PySem.W.kia_one (PySem.W.kitx_own (cl.get _) cl.hd ha hn htk hm) I.kIn J e (fun z => nomatch z) h
end
end L2

namespace L2
open PySem PySem.Spec PyProof.Rows

structure Room (k : Nat) (A : Around) : Prop where
  hd : A.handled = none
  dp : A.depth + 3 * k + 5 < recursionLimit
  un : A.units + 16 * k + 200 < cLine
theorem Room.mono {j k : Nat} {A : Around} (r : Room k A) (h : j ≤ k) : Room j A := ⟨r.hd, by have := r.dp; omega, by have := r.un; omega⟩
theorem Room.deeper {k : Nat} {A : Around} (r : Room (k + 1) A) (env : Env) : Room k (A.deeper env) :=
  ⟨r.hd, by have := r.dp; show A.depth + 1 + 3 * k + 5 < _; omega, by have := r.un; show A.units + 3 + 16 * k + 200 < _; omega⟩
theorem Room.depth {k : Nat} {A : Around} (r : Room k A) : A.depth < recursionLimit := by have := r.dp; omega
def tNil : TA := fun _ H Q => Q [] H
def tCons (ta : TE) (tr : TA) : TA := fun σ H Q => ta σ H fun x H1 => tr σ H1 fun xs H2 => Q (x :: xs) H2
section
variable {X : Cx} {e : Expr} {es : List Expr} {te : TE} {t : TA} {pos : Pos}
theorem pa_nil : PA X [] tNil := fun _ _ _ _ H Q I h => Calls.spliced_nil ⟨[], H, I, .nil, h⟩
theorem pa_cons (ha : PE X e te) (hr : PA X es t) (hs : starEach (e :: es) X.env = (false, eval e X.env) :: starEach es X.env := by rfl) : PA X (e :: es) (tCons te t) := by
  intro pos pins s σ H Q I h
  rw [hs]
  show wpAny _ _ (spliced ((false, eval e X.env) :: backTo pos (starEach es X.env))) _ _ s
  refine Calls.spliced_cons (thn (ha pins s σ H _ I h) fun u s1 ⟨x, H1, I1, r1, q1⟩ => ?_)
  exact thn (hr pos pins s1 σ H1 _ I1 q1) fun us s2 ⟨xs, H2, I2, r2, q2⟩ => ⟨x :: xs, H2, I2, .cons r1 r2, q2⟩

def tTup (t : TA) : TE := fun σ H Q => t σ H fun xs H1 => xs.length ≤ sizeLine ∧ ∀ p, H1 p = none → Q (.ref p) (upd H1 p (.tup xs))
def tLst (t : TA) : TE := fun σ H Q => t σ H fun xs H1 => xs.length ≤ sizeLine ∧ ∀ p, H1 p = none → Q (.ref p) (upd H1 p (.lst xs))
theorem pe_tup {x1} (h : PA X es t) : PE X (.Tuple es x1 pos) (tTup t) := by
  intro pins s σ H Q I hq
  refine wpAny_Tuple_spliced (thn (h pos pins s σ H _ I hq) fun us s1 ⟨xs, H1, I1, r, z, q⟩ => ⟨by rw [← r.length]; exact z, ?_⟩)
  have hf : H1 s1.heap.objs.size = none := I1.hok.fresh (Nat.le_refl _)
  refine ⟨.ref s1.heap.objs.size, upd H1 s1.heap.objs.size (.tup xs), I1.laid (t' := s1.toks) (fun b u e => Heap.get?_push_of_some _ e) (Nat.le_refl _) ?_, rfl, q _ hf⟩
  exact ⟨z, us, r, ⟨_, Heap.get?_push_size _ rfl, rfl, _, rfl⟩⟩
theorem pe_lst (h : PA X es t) : PE X (.List es pos) (tLst t) := by
  intro pins s σ H Q I hq
  refine wpAny_List_spliced (thn (h pos pins s σ H _ I hq) fun us s1 ⟨xs, H1, I1, r, z, q⟩ => ⟨by rw [← r.length]; exact z, ?_⟩)
  have hf : H1 s1.heap.objs.size = none := I1.hok.fresh (Nat.le_refl _)
  refine ⟨.ref s1.heap.objs.size, upd H1 s1.heap.objs.size (.lst xs), I1.laid (t' := s1.toks) (fun b u e => Heap.get?_push_of_some _ e) (Nat.le_refl _) ?_, rfl, q _ hf⟩
  exact ⟨z, us, 0, r, Heap.get?_push_size _ rfl⟩
end

abbrev Sp := List V → Hp → VK → XK → Prop
abbrev CXT := List Env → Hp → Shared → XK → Value → Shared → Prop

structure Env0 (P : Program) (w : World) (K : PySem.W.Frag) (mg : Str → Option Value) (base : Heap) (A : Around) (outer : List Env) (s : Shared) (H : Hp) : Prop where
  frames : A.frames = some outer
  mod : Mod K mg base
  bs : ∀ b o, base.get? b = some o → s.heap.get? b = some o ∧ H b = none
  bsz : base.objs.size ≤ s.heap.objs.size
  funs : s.heap.FunFrames base outer
  frf : ∀ b ∈ frs outer, H b = none
  hok : HOk P w H s.heap
  bare : AllBare s.gens
def CE (outer : List Env) (P : Program) (w : World) (H : Hp) (s : Shared) (Q : VK) (u : Value) (s' : Shared) : Prop :=
  ∃ v H', s'.os = s.os ∧ AllBare s'.gens ∧ Un (frs outer) [] H H' s.heap s'.heap ∧ HOk P w H' s'.heap ∧ RelV v u ∧ Q v H'
def CR (CX : CXT) (outer : List Env) (P : Program) (w : World) (H : Hp) (s : Shared) (Q : VK) (E : XK) (r : Result) (s' : Shared) : Prop :=
  match r with
  | .ok (.ret u) => CE outer P w H s Q u s'
  | .ok _ => False
  | .error e => CX outer H s E e s'
structure FnOk (P : Program) (w : World) (K : PySem.W.Frag) (mg : Str → Option Value) (base : Heap) (CX : CXT) (k : Nat) (f : Addr) (fd : FuncData) (ps : List Str) (sp : Sp) : Prop where
  len : ∀ vs H Q E, sp vs H Q E → vs.length = ps.length
  run : ∀ (A : Around) (outer : List Env) (s : Shared) (H : Hp) (args : Args) (us : List Value) (vs : List V) (Q : VK) (E : XK), Room k A → Env0 P w K mg base A outer s H → BindsTo s fd args (ps.zip us) → Vals vs us → sp vs H Q E →
    codeAny (model P w) A (.call (.ref f) args) (CR CX outer P w H s Q E) s
section
variable {X : Cx} {pins : List (Addr × Obj)} {σ : St} {H : Hp} {s s' : Shared}
theorem Inv.env0 (I : Inv X pins σ H s) : Env0 X.prog X.w X.K X.mg X.base X.A X.stack s H :=
  ⟨I.ok.frames, I.ok.mod, I.bs, Nat.le_trans I.ok.bsz I.sz, I.stack, I.stkFree, I.hok, I.bare⟩
theorem Inv.after {Q : VK} {u : Value} (I : Inv X pins σ H s) (h : CE X.stack X.prog X.w H s Q u s') : EP X pins σ Q u s' := by
  obtain ⟨v, H', os, bare, un, hok, r, q⟩ := h
  obtain ⟨hh, g, d, t, os'⟩ := s'
  obtain rfl : os' = s.os := os
  exact ⟨v, H', I.call (h' := hh) (g' := g) (d' := d) (t' := t) (ch := []) un hok bare (fun b z => absurd z (by simp)), r, q⟩
end

def tCall (sp : Sp) (dvs : List V) (E : XK) (t : TA) : TE := fun σ H Q => t σ H fun vs H1 => sp (vs ++ dvs) H1 Q E
def tMeth (C : Addr) (m : Str) (sp : Sp) (dvs : List V) (E : XK) (ta : TE) (t : TA) : TE := fun σ H Q => ta σ H fun x H1 => ∃ a dx fs, x = .ref a ∧ H1 a = some (.ins C dx fs) ∧ fs.lookup m = none ∧
  t σ H1 fun vs H2 => sp (x :: (vs ++ dvs)) H2 Q E
def tMake (C : Addr) (sp : Sp) (dvs : List V) (E : XK) (t : TA) : TE := fun σ H Q => t σ H fun vs H1 => ∀ x dx, H1 x = none → H1 dx = none → dx ≠ x →
  sp (.ref x :: (vs ++ dvs)) (upd (upd H1 dx (.own x)) x (.ins C dx [])) (fun v H2 => v = .non ∧ Q (.ref x) H2) E

def Binds (K : PySem.W.Frag) (fd : FuncData) (ps : List Str) (ds : List Value) : Prop :=
  ∀ (s : Shared) (us : List Value), K.In s.heap → (us ++ ds).length = ps.length → BindsTo s fd ⟨us, []⟩ (ps.zip (us ++ ds))
theorem Binds.all {K : PySem.W.Frag} {fd : FuncData} {ps : List Str} (h : ∀ us : List Value, us.length = ps.length → bindArgs fd ⟨us, []⟩ = pure (ps.zip us)) : Binds K fd ps [] := fun s us _ hl => by
  rw [List.append_nil] at hl ⊢
  exact .of_eq (h us hl)

def Passes (CX : CXT) (X : Cx) (E : XK) : Prop := ∀ (pins : List (Addr × Obj)) (σ : St) (H : Hp) (s : Shared) (e : Value) (s' : Shared), Inv X pins σ H s → CX X.stack H s E e s' → X.xe e s'

section
variable {X : Cx} {CX : CXT} {k : Nat} {f C : Addr} {fd : FuncData} {ps : List Str} {sp : Sp} {dvs : List V} {ds : List Value} {E : XK} {x m : Str} {p pos apos : Pos} {e o : Expr} {es : List Expr} {ta : TE} {t : TA}

theorem run_fn {pins : List (Addr × Obj)} {σ : St} {H : Hp} {s : Shared} {Q : VK} {us : List Value} {vs : List V} (F : FnOk X.prog X.w X.K X.mg X.base CX k f fd ps sp) (hr : Room k X.A) (hb : Binds X.K fd ps ds) (hd : Vals dvs ds) (hx : Passes CX X E)
    (I : Inv X pins σ H s) (r : Vals vs us) (h : sp (vs ++ dvs) H Q E) : wpAny (model X.prog X.w) X.A (call (.ref f) us) (EP X pins σ Q) X.xe s := by
  have r2 : Vals (vs ++ dvs) (us ++ ds) := r.append hd
  have hl : (us ++ ds).length = ps.length := by rw [← r2.length]; exact F.len _ _ _ _ h
  refine wpAny_call (codeAny_mono (F.run X.A X.stack s H ⟨us, []⟩ (us ++ ds) (vs ++ dvs) Q E hr I.env0 (hb s us I.kIn hl) r2 h) fun r s' hq => ?_)
  cases r with
  | error e => exact hx pins σ H s e s' I hq
  | ok fl =>
    cases fl with
    | ret u => exact I.after hq
    | next => exact False.elim hq
    | brk => exact False.elim hq
    | cont => exact False.elim hq

theorem pe_call (F : FnOk X.prog X.w X.K X.mg X.base CX k f fd ps sp) (hr : Room k X.A) (hg : Gl X x) (hm : X.mg x = some (.ref f)) (hk : PySem.W.keepIn X.K (.ref f) = true) (hb : Binds X.K fd ps ds) (hd : Vals dvs ds) (hx : Passes CX X E)
    (ha : PA X (e :: es) t) (hdb : (x == ("__debug__" : Str)) = false := by decide) (he : starEach (e :: es) X.env = (false, eval e X.env) :: starEach es X.env := by rfl) (hpl : (backTo pos (starEach es X.env)).any (·.1) = false := by rfl) :
    PE X (.Call (.Name x p) (e :: es) [] pos) (tCall sp dvs E t) := by
  intro pins s σ H Q I h
  refine wpAny_Call_Name_kw (ld_glob I hg hm ?_ hdb)
  refine PySem.W.callWith_K (h₀ := X.base) I.ok.mod.kin hk (thn (ha pos pins s σ H _ I h) fun us s1 ⟨vs, H1, I1, r, q⟩ => ⟨I1.kIn, ?_⟩) he hpl
  exact run_fn F hr hb hd hx I1 r q
theorem pe_call0 (F : FnOk X.prog X.w X.K X.mg X.base CX k f fd ps sp) (hr : Room k X.A) (hg : Gl X x) (hm : X.mg x = some (.ref f)) (hk : PySem.W.keepIn X.K (.ref f) = true) (hb : Binds X.K fd ps ds) (hd : Vals dvs ds) (hx : Passes CX X E)
    (hdb : (x == ("__debug__" : Str)) = false := by decide) : PE X (.Call (.Name x p) [] [] pos) (tCall sp dvs E tNil) := by
  intro pins s σ H Q I h
  refine wpAny_Call_Name_kw (ld_glob I hg hm ?_ hdb)
  exact PySem.W.callWith_K0 I.kIn hk (run_fn (us := []) F hr hb hd hx I .nil h)

structure Mk (K : PySem.W.Frag) (C f : Addr) : Prop where
  makes : PySem.W.makesIn K C = true
  init : PySem.W.findIn K (.ref C) "__init__" = some (some (.ref f))
  fn : PySem.W.isFn K (.ref f) = true
  kp : PySem.W.keepIn K (.ref C) = true

end

def PK (X : Cx) (kws : List Keyword) (t : TA) : Prop :=
  ∀ (pos : Pos) (pins : List (Addr × Obj)) (s : Shared) (σ : St) (H : Hp) (Q : List V → Hp → Prop), Inv X pins σ H s → t σ H Q → wpAny (model X.prog X.w) X.A (evalAll ((backToKw pos (keywordEach kws X.env)).map (·.2))) (AP X pins σ Q) X.xe s
section
variable {X : Cx} {CX : CXT} {k : Nat} {f C : Addr} {fd : FuncData} {ps ks : List Str} {sp : Sp} {E : XK} {x m : Str} {p pos apos kpos : Pos} {e o : Expr} {es : List Expr} {kws : List Keyword} {te ta : TE} {t tk : TA} {nm : Option Str}
structure KBinds (K : PySem.W.Frag) (fd : FuncData) (ps ks : List Str) (g : List Value → List Value → List Value) (gV : List V → List V → List V) : Prop where
  to : ∀ (s : Shared) (us ws : List Value), K.In s.heap → (g us ws).length = ps.length → BindsTo s fd ⟨us, ks.zip ws⟩ (ps.zip (g us ws))
  rel : ∀ {vs : List V} {us : List Value} {zs : List V} {ws : List Value}, Vals vs us → Vals zs ws → Vals (gV vs zs) (g us ws)
def tCallK (sp : Sp) (gV : List V → List V → List V) (E : XK) (t tk : TA) : TE := fun σ H Q => t σ H fun vs H1 => tk σ H1 fun zs H2 => sp (gV vs zs) H2 Q E
variable {g : List Value → List Value → List Value} {gV : List V → List V → List V}
end

structure FnScope (N P : List Str) (sc : Scope) : Prop where
  kind : sc.kind = .function
  co : sc.isCoroutine = false
  gen : sc.isGenerator = false
  nd : N.Nodup
  pre : N.take P.length = P
  par : ∀ x ∈ P, sc.names.lookup x = some .local ∨ sc.names.lookup x = some .cell
  nofree : ∀ y ∈ sc.names, y.2 ≠ .free

theorem bindL_out {kindOf : Str → Option NameKind} {x : Str} : ∀ {binds : List (Str × Value)} {m : Str → Option Value}, (∀ v, (x, v) ∉ binds) → bindL kindOf binds m x = m x
  | [], _, _ => rfl
  | (n, v) :: r, m, h => by
    unfold bindL
    rw [bindL_out fun w hw => h w (List.mem_cons_of_mem _ hw)]
    split
    · have : x ≠ n := by rintro rfl; exact h v List.mem_cons_self
      simp [this]
    · rfl
theorem bindC_out {kindOf : Str → Option NameKind} {x : Str} : ∀ {binds : List (Str × Value)} {m : Str → Option Value}, (∀ v, (x, v) ∉ binds) → bindC kindOf binds m x = m x
  | [], _, _ => rfl
  | (n, v) :: r, m, h => by
    unfold bindC
    rw [bindC_out fun w hw => h w (List.mem_cons_of_mem _ hw)]
    split
    · rfl
    · have : x ≠ n := by rintro rfl; exact h v List.mem_cons_self
      simp [this]
theorem bindL_get {kindOf : Str → Option NameKind} {x : Str} {v : Value} : ∀ {P : List Str} {vs : List Value} {i : Nat} {m : Str → Option Value}, P.Nodup → P[i]? = some x → vs[i]? = some v → kindOf x = some .local →
    bindL kindOf (P.zip vs) m x = some v
  | [], _, _, _, _, h, _, _ => by simp at h
  | _ :: _, [], _, _, _, _, h, _ => by simp at h
  | p :: P, w :: vs, 0, m, nd, h1, h2, hk => by
    simp at h1 h2; subst h1; subst h2
    show bindL kindOf ((p, w) :: P.zip vs) m p = _
    unfold bindL
    rw [bindL_out fun v hv => (List.nodup_cons.mp nd).1 (List.of_mem_zip hv).1, if_pos hk]
    simp
  | p :: P, w :: vs, i + 1, m, nd, h1, h2, hk => by
    show bindL kindOf ((p, w) :: P.zip vs) m x = _
    unfold bindL
    exact bindL_get (i := i) (List.nodup_cons.mp nd).2 (by simpa using h1) (by simpa using h2) hk
theorem bindC_get {kindOf : Str → Option NameKind} {x : Str} {v : Value} : ∀ {P : List Str} {vs : List Value} {i : Nat} {m : Str → Option Value}, P.Nodup → P[i]? = some x → vs[i]? = some v → kindOf x ≠ some .local →
    bindC kindOf (P.zip vs) m x = some v
  | [], _, _, _, _, h, _, _ => by simp at h
  | _ :: _, [], _, _, _, _, h, _ => by simp at h
  | p :: P, w :: vs, 0, m, nd, h1, h2, hk => by
    simp at h1 h2; subst h1; subst h2
    show bindC kindOf ((p, w) :: P.zip vs) m p = _
    unfold bindC
    rw [bindC_out fun v hv => (List.nodup_cons.mp nd).1 (List.of_mem_zip hv).1, if_neg hk]
    simp
  | p :: P, w :: vs, i + 1, m, nd, h1, h2, hk => by
    show bindC kindOf ((p, w) :: P.zip vs) m x = _
    unfold bindC
    exact bindC_get (i := i) (List.nodup_cons.mp nd).2 (by simpa using h1) (by simpa using h2) hk

def start (N : List Str) (vs : List V) : St := vs.map some ++ List.replicate (N.length - vs.length) none

def cxOf (CX : CXT) (P : Program) (w : World) (K : PySem.W.Frag) (mg : Str → Option Value) (base : Heap) (N : List Str) (qual : Str) (scope : Scope) (f : Addr) (cd : Value) (A : Around) (outer : List Env) (s : Shared) (H : Hp) (E : XK) : Cx where
  prog := P
  w := w
  K := K
  mg := mg
  base := base
  A := A.deeper (envOfC qual scope s.heap.objs.size f cd)
  N := N
  s₀ := s
  H₀ := H
  env := envOfC qual scope s.heap.objs.size f cd
  outer := outer
  stack := envOfC qual scope s.heap.objs.size f cd :: outer
  ex := []
  calm := true
  fn := fun _ => true
  pn := []
  xe := fun e s' => wpAny (model P w) (A.deeper (envOfC qual scope s.heap.objs.size f cd)) (leaving (envOfC qual scope s.heap.objs.size f cd) e) (fun _ s'' => CX outer H s E e s'') (fun e' s'' => CX outer H s E e' s'') s'

theorem cell_has {sc : Scope} {n : Nat} {x : Str} (h : sc.names.lookup x = some .cell) : ∃ c, (cellsFrom n sc.names []).lookup x = some c := by
  have q := PySem.W.cellsFrom_some sc.names n [] (.inl h)
  exact Option.isSome_iff_exists.mp q

theorem inv_start {CX : CXT} {P : Program} {w : World} {K : PySem.W.Frag} {mg : Str → Option Value} {base : Heap} {N ps : List Str} {qual : Str} {scope : Scope} {f : Addr} {cd : Value} {A : Around} {outer : List Env} {s s1 : Shared} {H : Hp} {E : XK} {us : List Value} {vs : List V}
    (S : FnScope N ps scope) (hd : A.handled = none) (e0 : Env0 P w K mg base A outer s H) (hl : vs.length = ps.length) (r : Vals vs us)
    (x : InCallC s s.heap.objs.size (bindL (envOfC qual scope s.heap.objs.size f cd).kindOf (ps.zip us) fun _ => none) (cellsFrom (s.heap.objs.size + 1) scope.names []) (bindC (envOfC qual scope s.heap.objs.size f cd).kindOf (ps.zip us) fun _ => none) s1) :
    Inv (cxOf CX P w K mg base N qual scope f cd A outer s H E) [] (start N vs) H s1 := by
  have hpl : ps.length ≤ N.length := by have := congrArg List.length S.pre; rw [List.length_take] at this; omega
  obtain ⟨h1, tk, rfl, hk⟩ := x.done
  have noA : ∀ b : Addr, b ∉ (cxOf CX P w K mg base N qual scope f cd A outer s H E).ex := fun b z => absurd (show b ∈ ([] : List Addr) from z) (by simp)
  refine ⟨⟨e0.mod, S.kind, rfl, rfl, Nat.le_refl _, fun y z c h1 h2 => ?_, fun y hy => ?_, fun y c _ h => ?_, fun _ => hd, Around.frames_deeper e0.frames, .inr ⟨rfl, rfl⟩, fun b z => absurd z (noA b), e0.bs, e0.bsz, fun b _ _ => noA b, fun b z => absurd z (noA b), e0.funs, e0.frf⟩,
    rfl, e0.bare, Un.kept hk, ⟨_, x.toInCall.ns, fun i y v h1 h2 h3 => ?_⟩, fun y c h => ⟨_, x.cell y c h⟩, e0.hok.fresh (Nat.le_refl _), fun y c h => ?_, fun p hp => absurd (show p ∈ ([] : List (Addr × Obj)) from hp) (by simp), e0.hok.kept hk, ?_⟩
  · exact name_of_addr x.apart (PySem.mem_of_lookup h1) (PySem.mem_of_lookup h2)
  · have hy : scope.names.lookup y = some .cell ∨ scope.names.lookup y = some .free := hy
    rcases hy with hy | hy
    · exact cell_has hy
    · exact absurd rfl (S.nofree _ (PySem.mem_of_lookup hy))
  · exact Nat.le_of_lt (x.above y c (PySem.mem_of_lookup h))
  · have hi : i < vs.length := by
      unfold start at h2
      by_cases hi : i < vs.length
      · exact hi
      · rw [List.getElem?_append_right (by simpa using hi)] at h2
        rw [List.getElem?_replicate] at h2
        split at h2 <;> cases h2
    have ha : vs[i]? = some v := by
      unfold start at h2
      rw [List.getElem?_append_left (by simpa using hi), List.getElem?_map] at h2
      cases e : vs[i]? with
      | none => rw [e] at h2; cases h2
      | some a => rw [e] at h2; cases h2; rfl
    obtain ⟨u, hu, rv⟩ := r.get ha
    have hp : ps[i]? = some y := by
      rw [← S.pre, List.getElem?_take_of_lt (by omega)]; exact h1
    have ndP : ps.Nodup := by rw [← S.pre]; exact S.nd.sublist (List.take_sublist _ _)
    refine ⟨u, rv, ?_⟩
    rcases S.par y (List.mem_of_getElem? hp) with k | k
    · exact .inl ⟨k, bindL_get ndP hp hu k⟩
    · obtain ⟨c, e⟩ := cell_has (n := s.heap.objs.size + 1) k
      refine .inr ⟨.inl k, c, e, ?_⟩
      have q := x.cell y c e
      rw [bindC_get ndP hp hu (by show scope.names.lookup y ≠ _; rw [k]; decide)] at q
      exact q
  · exact e0.hok.fresh (Nat.le_of_lt (x.above y c (PySem.mem_of_lookup h)))
  · unfold start
    show _ = N.length
    rw [List.length_append, List.length_map, List.length_replicate]
    omega

theorem fn_of {CX : CXT} {P : Program} {w : World} {K : PySem.W.Frag} {mg : Str → Option Value} {base : Heap} {k : Nat} {f : Addr} {name qual : Str} {params : Arguments} {body : List Stmt} {scope : Scope} {dV kV doc pm cdv ct oc : Value} {an od : Option Addr}
    {osl : Array (Option Value)} {N ps : List Str} {sp : Sp} (lk : K.lookup f = some ⟨oc, od, .func (PySem.W.fnOf name qual params body scope dV kV doc pm an cdv ct), osl⟩) (hcd : PySem.W.codeIn K cdv qual = true) (S : FnScope N ps scope)
    (len : ∀ vs H Q E, sp vs H Q E → vs.length = ps.length)
    (hbody : ∀ (A : Around) (outer : List Env) (s : Shared) (H : Hp) (vs : List V) (Q : VK) (E : XK), Room k (A.deeper (envOfC qual scope s.heap.objs.size f cdv)) → sp vs H Q E →
      ∃ t, PSs (cxOf CX P w K mg base N qual scope f cdv A outer s H E) body t ∧ t { nx := fun _ H' => Q .non H', rt := Q } (start N vs) H) :
    FnOk P w K mg base CX (k + 1) f (PySem.W.fnOf name qual params body scope dV kV doc pm an cdv ct) ps sp := by
  refine ⟨len, fun A outer s H args us vs Q E hr e0 hb r hsp => ?_⟩
  have hl := len _ _ _ _ hsp
  have KX : K.In s.heap := e0.mod.kin.keeps fun b o e => (e0.bs b o e).1
  have lim : s.heap.NoLimit := e0.mod.nolimit.keeps fun b o e => (e0.bs b o e).1
  have hkind : ∀ y ∈ ps.zip us, scope.names.lookup y.1 = some .local ∨ (scope.names.lookup y.1 = some .cell ∧ ((cellsFrom (s.heap.objs.size + 1) scope.names []).lookup y.1).isSome = true) := fun ⟨n, v⟩ hy => by
    rcases S.par n (List.of_mem_zip hy).1 with q | q
    · exact .inl q
    · exact .inr ⟨q, PySem.W.cellsFrom_some _ _ _ (.inl q)⟩
  refine codeAny_call_function hr.depth (KX _ _ lk) rfl S.co S.gen rfl (PySem.W.codeRec_of KX hcd) (hb _ _ _ _ ?_)
  refine wpAny_newFunctionEnv_cells S.kind hkind fun env he s1 x => ?_
  subst he
  refine ⟨lim.keeps x.toInCall.keep, codeAny_func ?_⟩
  obtain ⟨t, ht, hq⟩ := hbody A outer s H vs Q E (hr.deeper _) hsp
  have I : Inv (cxOf CX P w K mg base N qual scope f cdv A outer s H E) [] (start N vs) H s1 := inv_start S hr.hd e0 hl r x
  refine wpAny_mono (ht [] s1 (start N vs) H _ I hq) (fun fl s' hs => ?_) fun e s' hs => hs
  have fin : ∀ {σ' : St} {H' : Hp} {v : V} {u : Value}, Inv (cxOf CX P w K mg base N qual scope f cdv A outer s H E) [] σ' H' s' → RelV v u → Q v H' → CE outer P w H s Q u s' :=
    fun {σ' H' v u} J rv q => ⟨v, H', J.os, J.bare, J.base, J.hok, rv, q⟩
  cases fl with
  | ret u =>
    obtain ⟨v, σ', H', J, rv, q⟩ := hs
    exact fin J rv q
  | next =>
    obtain ⟨σ', H', J, q⟩ := hs
    exact fin (v := V.non) (u := Value.none) J rfl q
  | brk =>
    obtain ⟨_, _, _, q⟩ := hs
    exact False.elim q
  | cont =>
    obtain ⟨_, _, _, q⟩ := hs
    exact False.elim q
end L2

namespace L2
open PySem PySem.Spec PyProof.Rows
section
variable {X : Cx} {x : Str} {p pos : Pos} {e : Expr} {es : List Expr} {t : TA} {id T : String} {r : List V → Hp → VK → Prop}

def tCB (r : List V → Hp → VK → Prop) (t : TA) : TE := fun σ H Q => t σ H fun vs H1 => r vs H1 Q
theorem pe_callB (hc : CallR X (.builtin id) r) (hg : Gl X x) (hm : X.mg x = none) (hv : bootBuiltins x = some (.builtin id)) (ha : PA X (e :: es) t) (hn : x ≠ "__name__" := by decide) (hdb : (x == ("__debug__" : Str)) = false := by decide)
    (he : starEach (e :: es) X.env = (false, eval e X.env) :: starEach es X.env := by rfl) (hpl : (backTo pos (starEach es X.env)).any (·.1) = false := by rfl) : PE X (.Call (.Name x p) (e :: es) [] pos) (tCB r t) := by
  intro pins s σ H Q I h
  refine wpAny_Call_Name_kw (ld_blt I hg hm hv ?_ hn hdb)
  exact PyProof.Rows.callWith_builtin1 (thn (ha pos pins s σ H _ I h) fun us s1 ⟨vs, H1, I1, r1, q1⟩ => hc pins s1 σ H1 vs us Q I1 r1 q1) he hpl
theorem pe_callTy (hc : CallR X (.type T) r) (hg : Gl X x) (hm : X.mg x = none) (hv : bootBuiltins x = some (.type T)) (ha : PA X (e :: es) t) (hn : x ≠ "__name__" := by decide) (hdb : (x == ("__debug__" : Str)) = false := by decide)
    (he : starEach (e :: es) X.env = (false, eval e X.env) :: starEach es X.env := by rfl) (hpl : (backTo pos (starEach es X.env)).any (·.1) = false := by rfl) : PE X (.Call (.Name x p) (e :: es) [] pos) (tCB r t) := by
  intro pins s σ H Q I h
  refine wpAny_Call_Name_kw (ld_blt I hg hm hv ?_ hn hdb)
  exact PyProof.Rows.callWith_type1 (thn (ha pos pins s σ H _ I h) fun us s1 ⟨vs, H1, I1, r1, q1⟩ => hc pins s1 σ H1 vs us Q I1 r1 q1) he hpl
end
end L2

namespace HT
open PySem PyProof.Rows

def lexLt : List Int → List Int → Bool
  | [], [] => false
  | [], _ :: _ => true
  | _ :: _, [] => false
  | x :: xs, y :: ys => if x = y then lexLt xs ys else decide (x < y)
section
open PySem.SeqAt
open PySem.AutoSeq1 (wpAny_loadPart')
open PySem.MeetsSeq PySem.MeetsSeq2 PySem.MeetsSeq3

end

section
variable {prog : Program} {w : World} {A : Around} {E : Value → Shared → Prop} {s : Shared}

def sIx (n d : Nat) : Option Int → Nat
  | none => d
  | some v => if v < 0 then (v + (n : Int)).toNat else min v.toNat n
end
end HT

namespace L2
open PySem PySem.Spec PyProof.Rows

abbrev TO := St → Hp → (Option Int → Hp → Prop) → Prop
def PO (X : Cx) (e : Option Expr) (t : TO) : Prop :=
  ∀ (pins : List (Addr × Obj)) (s : Shared) (σ : St) (H : Hp) (Q : Option Int → Hp → Prop), Inv X pins σ H s → t σ H Q →
    wpAny (model X.prog X.w) X.A (evalPart e X.env) (fun u s' => ∃ o H', Inv X pins σ H' s' ∧ IsPart u o ∧ Q o H') X.xe s
def tNoPart : TO := fun _ H Q => Q none H
def tPart (t : TE) : TO := fun σ H Q => t σ H fun x H1 => ∃ i, x = .int i ∧ Q (some i) H1

section
variable {X : Cx} {e : Expr} {te : TE} {lo hi : Option Expr} {tl th : TO} {pos p2 : Pos}

def SlR (X : Cx) (r : V → Option Int → Option Int → Hp → VK → Prop) : Prop :=
  ∀ (pins : List (Addr × Obj)) (s : Shared) (σ : St) (H : Hp) (x : V) (v vl vu : Value) (lo hi : Option Int) (sl : Addr) (Q : VK), Inv X pins σ H s → RelV x v → s.heap.IsSliceOf sl vl vu .none → IsPart vl lo → IsPart vu hi → r x lo hi H Q →
    ∃ T id, typeLookup (.type T) "__getitem__" = pure (some (.builtin id)) ∧ s.TypeIs v T ∧ wpAny (model X.prog X.w) X.A (getItem v (.ref sl)) (EP X pins σ Q) X.xe s
def tSl (r : V → Option Int → Option Int → Hp → VK → Prop) (te : TE) (tl th : TO) : TE := fun σ H Q => te σ H fun x H1 => tl σ H1 fun l H2 => th σ H2 fun u H3 => r x l u H3 Q
def cutV (xs : List V) (lo hi : Option Int) : List V := (xs.drop (HT.sIx xs.length 0 lo)).take (HT.sIx xs.length xs.length hi - HT.sIx xs.length 0 lo)
def rSlT (K : PySem.W.Frag) : V → Option Int → Option Int → Hp → VK → Prop := fun x lo hi H Q => ∃ a xs, x = .ref a ∧ SqT K H a xs ∧
  ¬ (HT.sIx xs.length 0 lo = 0 ∧ HT.sIx xs.length xs.length hi = xs.length) ∧ ∀ p, H p = none → Q (.ref p) (upd H p (.tup (cutV xs lo hi)))
def rLtT (K : PySem.W.Frag) : R2 := fun x y H Q => ∃ a b ns ms, x = .ref a ∧ y = .ref b ∧ SqT K H a (ns.map V.int) ∧ SqT K H b (ms.map V.int) ∧ Q (.bl (HT.lexLt ns ms)) H
def rCatT (K : PySem.W.Frag) : R2 := fun x y H Q => ∃ a b xs ys, x = .ref a ∧ y = .ref b ∧ SqT K H a xs ∧ SqT K H b ys ∧ xs ≠ [] ∧ xs.length + ys.length ≤ sizeLine ∧
  (ys = [] → Q (.ref a) H) ∧ (ys ≠ [] → ∀ p, H p = none → Q (.ref p) (upd H p (.tup (xs ++ ys))))
end
end L2

namespace L2
open PySem PySem.Spec PyProof.Rows

def ixN (n : Nat) (i : Int) : Option Nat := if 0 ≤ i then (if i < n then some i.toNat else none) else if -(n : Int) ≤ i then some (i + n).toNat else none
def atI {α : Type} (xs : List α) (i : Int) : Option α := (ixN xs.length i).bind fun j => xs[j]?
theorem ixN_seq {n : Nat} {i : Int} {j : Nat} (h : ixN n i = some j) : seqIndex? i n = some j ∧ j < n ∧ -(n : Int) ≤ i ∧ i < n := by
  unfold ixN at h
  by_cases h0 : 0 ≤ i
  · rw [if_pos h0] at h
    by_cases h1 : i < n
    · rw [if_pos h1] at h
      have e : i.toNat = j := Option.some.inj h
      exact ⟨by rw [seqIndex_of h0 h1, e], by omega, by omega, h1⟩
    · rw [if_neg h1] at h; cases h
  · rw [if_neg h0] at h
    by_cases h1 : -(n : Int) ≤ i
    · rw [if_pos h1] at h
      have e : (i + n).toNat = j := Option.some.inj h
      exact ⟨by rw [seqIndex_neg (by omega) h1, e], by omega, h1, by omega⟩
    · rw [if_neg h1] at h; cases h
theorem atI_get {α : Type} {xs : List α} {i : Int} {v : α} (h : atI xs i = some v) : ∃ j, seqIndex? i xs.length = some j ∧ xs[j]? = some v ∧ j < xs.length ∧ -(xs.length : Int) ≤ i ∧ i < xs.length := by
  unfold atI at h
  cases e : ixN xs.length i with
  | none => rw [e] at h; cases h
  | some j =>
    rw [e] at h
    obtain ⟨h1, h2, h3, h4⟩ := ixN_seq e
    exact ⟨j, h1, h, h2, h3, h4⟩
theorem atI_nat {α : Type} {xs : List α} {j : Nat} {v : α} (h : xs[j]? = some v) : atI xs (j : Int) = some v := by
  have hj : j < xs.length := (List.getElem?_eq_some_iff.mp h).1
  have e : ixN xs.length (j : Int) = some j := by
    unfold ixN
    rw [if_pos (by omega), if_pos (by omega)]; simp
  unfold atI; rw [e]; exact h
def PlainIx (b : Expr) : Prop := ∀ o i, subscripted b false o i = operate [o, i] (getItem o i)
def IxR (X : Cx) (r : R2) : Prop :=
  ∀ (value slice : Expr) (pins : List (Addr × Obj)) (s : Shared) (σ : St) (H : Hp) (x y : V) (v u : Value) (Q : VK), Inv X pins σ H s → RelV x v → RelV y u → r x y H Q →
    subscripted slice false v u = operate [v, u] (getItem v u) → wpAny (model X.prog X.w) X.A (subscriptTail value slice v u) (EP X pins σ Q) X.xe s
def MtR (X : Cx) (id : String) (r : V → List V → Hp → VK → Prop) : Prop :=
  ∀ (pins : List (Addr × Obj)) (s : Shared) (σ : St) (H : Hp) (x : V) (xs : List V) (v : Value) (us : List Value) (Q : VK), Inv X pins σ H s → RelV x v → Vals xs us → r x xs H Q →
    wpAny (model X.prog X.w) X.A (call (.builtin id) (v :: us)) (EP X pins σ Q) X.xe s
section
variable {X : Cx} {a b : Expr} {ta tb : TE} {pos : Pos}
theorem pe_ix {r : R2} (hr : IxR X r) (ha : PE X a ta) (hb : PE X b tb) (hs : PlainIx b) : PE X (.Subscript a b pos) (tOp r ta tb) := by
  intro pins s σ H Q I h
  exact Subscript_ (binT ha hb I h fun v u s2 x y H2 I2 rx ry q => hr a b pins s2 σ H2 x y v u Q I2 rx ry q (hs _ _))

def rIxL (K : PySem.W.Frag) : R2 := fun x y H Q => ∃ p xs i v, x = .ref p ∧ y = .int i ∧ SqL K H p xs ∧ atI xs i = some v ∧ Q v H
def rIxT (K : PySem.W.Frag) : R2 := fun x y H Q => ∃ p xs i v, x = .ref p ∧ y = .int i ∧ SqT K H p xs ∧ atI xs i = some v ∧ Q v H
def rIxS : R2 := fun x y H Q => ∃ z i c, x = .str z ∧ y = .int i ∧ z.length ≤ sizeLine ∧ atI z.cps.toList i = some c ∧ Q (.str ⟨#[c]⟩) H
theorem ix_list : IxR X (rIxL X.K) := by
  intro value slice pins s σ H x y v u Q I rx ry h hs
  obtain ⟨p, xs, i, z, rfl, rfl, hq, he, q⟩ := h
  cases rx
  obtain ⟨t, rfl⟩ := ry
  obtain ⟨its, r, pl, hz⟩ := I.list hq
  obtain ⟨j, h1, h2, h3, h4, h5⟩ := atI_get he
  obtain ⟨w, ew, rw'⟩ := r.get h2
  have hl := r.length
  have hn := line63
  have fin : EP X pins σ Q w s := ⟨z, H, I, rw', q⟩
  by_cases h0 : 0 ≤ i
  · have hj : i.toNat = j := by
      rw [seqIndex_of h0 h5] at h1
      exact Option.some.inj h1
    exact item_listR pl.isList h0 (by omega) (by rw [hj]; simpa using ew) fin hs
  · have hj : (i + (its.toArray.size : Int)).toNat = j := by
      rw [seqIndex_neg (by omega) h4] at h1
      rw [List.size_toArray, ← hl]
      exact Option.some.inj h1
    exact subscriptTail_builtinR (x := w) pl.isList.typeIs slot_list_getitem.lookup
      (wpAny_getItem_list_neg (Q := fun r s' => r = w ∧ EP X pins σ Q r s') pl.isList (by omega) (by rw [List.size_toArray] <;> omega) (by omega) (by rw [hj]; simpa using ew) ⟨rfl, fin⟩) hs
theorem ix_tup : IxR X (rIxT X.K) := by
  intro value slice pins s σ H x y v u Q I rx ry h hs
  obtain ⟨p, xs, i, z, rfl, rfl, hq, he, q⟩ := h
  cases rx
  obtain ⟨t, rfl⟩ := ry
  obtain ⟨its, r, pl, hz⟩ := I.tuple hq
  obtain ⟨j, h1, h2, h3, h4, h5⟩ := atI_get he
  obtain ⟨w, ew, rw'⟩ := r.get h2
  have hl := r.length
  have hn := line63
  have fin : EP X pins σ Q w s := ⟨z, H, I, rw', q⟩
  exact subscriptTail_builtinR (x := w) pl.typeIs slot_tuple_getitem.lookup
    (getItem_tuple (j := j) (Q := fun r s' => r = w ∧ EP X pins σ Q r s') pl (by omega) (by omega) (by rw [List.size_toArray, ← hl]; exact h1) (by simpa using ew) ⟨rfl, fin⟩) hs
def rIx (K : PySem.W.Frag) : R2 := fun x y H Q => rIxL K x y H Q ∨ rIxT K x y H Q ∨ rIxS x y H Q
def rSetL : V → V → V → Hp → (Hp → Prop) → Prop := fun o i v H Q => ∃ p xs k j, o = .ref p ∧ i = .int k ∧ H p = some (.lst xs) ∧ ixN xs.length k = some j ∧ Q (upd H p (.lst (xs.set j v)))
def rSlL (K : PySem.W.Frag) : V → Option Int → Option Int → Hp → VK → Prop := fun x lo hi H Q => ∃ a xs, x = .ref a ∧ SqL K H a xs ∧ ∀ p, H p = none → Q (.ref p) (upd H p (.lst (cutV xs lo hi)))
def flatV : V → Bool
  | .non => true
  | .bl _ => true
  | .int _ => true
  | .str _ => true
  | _ => false
def eqV : V → V → Bool
  | .non, .non => true
  | .bl a, .bl b => a == b
  | .bl a, .int b => (if a then 1 else 0) == b
  | .int a, .bl b => a == (if b then 1 else 0)
  | .int a, .int b => a == b
  | .str a, .str b => a == b
  | _, _ => false
theorem eqAt_V {A : Around} {s : Shared} {y x : V} {u v : Value} (ry : RelV y u) (rx : RelV x v) (fy : flatV y = true) (fx : flatV x = true) : SeqAt.EqAt A s u v (eqV y x) := by
  cases y with
  | non =>
    cases ry
    cases x with
    | non => cases rx; exact SeqAt.EqAt.same _
    | bl b => cases rx; exact SeqAt.EqAt.none_bool b
    | int b => obtain ⟨t, rfl⟩ := rx; exact SeqAt.EqAt.none_int b t
    | str b => obtain ⟨t, rfl⟩ := rx; exact SeqAt.EqAt.none_str b t
    | _ => exact absurd (show false = true from fx) Bool.false_ne_true
  | bl a =>
    cases ry
    cases x with
    | non => cases rx; exact SeqAt.EqAt.bool_none a
    | bl b => cases rx; exact SeqAt.EqAt.bool_bool a b
    | int b => obtain ⟨t, rfl⟩ := rx; exact SeqAt.EqAt.bool_int a b t
    | str b => obtain ⟨t, rfl⟩ := rx; exact SeqAt.EqAt.bool_str a b t
    | _ => exact absurd (show false = true from fx) Bool.false_ne_true
  | int a =>
    obtain ⟨t', rfl⟩ := ry
    cases x with
    | non => cases rx; exact SeqAt.EqAt.int_none a t'
    | bl b => cases rx; exact SeqAt.EqAt.int_bool a t' b
    | int b => obtain ⟨t, rfl⟩ := rx; exact SeqAt.EqAt.int_int a t' b t
    | str b => obtain ⟨t, rfl⟩ := rx; exact SeqAt.EqAt.int_str a t' b t
    | _ => exact absurd (show false = true from fx) Bool.false_ne_true
  | str a =>
    obtain ⟨t', rfl⟩ := ry
    cases x with
    | non => cases rx; exact SeqAt.EqAt.str_none a t'
    | bl b => cases rx; exact SeqAt.EqAt.str_bool a t' b
    | int b => obtain ⟨t, rfl⟩ := rx; exact SeqAt.EqAt.str_int a t' b t
    | str b => obtain ⟨t, rfl⟩ := rx; exact SeqAt.EqAt.str_str a t' b t
    | _ => exact absurd (show false = true from fx) Bool.false_ne_true
  | _ => exact absurd (show false = true from fy) Bool.false_ne_true
def eqU (x : V) (u : Value) : Bool := match u with
  | .none => eqV .non x
  | .bool b => eqV (.bl b) x
  | .int i _ => eqV (.int i) x
  | .str z _ => eqV (.str z) x
  | _ => false
theorem eqU_of {x y : V} {u : Value} (r : RelV y u) (f : flatV y = true) : eqU x u = eqV y x := by
  cases y with
  | non => cases r; rfl
  | bl b => cases r; rfl
  | int i => obtain ⟨t, rfl⟩ := r; rfl
  | str z => obtain ⟨t, rfl⟩ := r; rfl
  | _ => exact absurd (show false = true from f) Bool.false_ne_true
theorem any_eqU {x : V} : ∀ {xs : List V} {us : List Value}, Vals xs us → xs.all flatV = true → us.any (eqU x) = xs.any fun y => eqV y x
  | _, _, .nil, _ => rfl
  | y :: xs, u :: us, .cons r t, f => by
    rw [List.all_cons, Bool.and_eq_true] at f
    rw [List.any_cons, List.any_cons, eqU_of r f.1, any_eqU t f.2]
theorem mem_eqAt {A : Around} {s : Shared} {x : V} {v : Value} (rx : RelV x v) (fx : flatV x = true) : ∀ {xs : List V} {us : List Value}, Vals xs us → xs.all flatV = true → ∀ u ∈ us, SeqAt.EqAt A s u v (eqU x u)
  | _, _, .nil, _ => fun u hu => by cases hu
  | y :: xs, u :: us, .cons r t, f => fun u' hu => by
    rw [List.all_cons, Bool.and_eq_true] at f
    rcases List.mem_cons.mp hu with rfl | hu
    · rw [eqU_of r f.1]; exact eqAt_V r rx f.1 fx
    · exact mem_eqAt rx fx t f.2 u' hu
def inV (x : V) (xs : List V) : Bool := xs.any fun y => eqV y x
def rIn (K : PySem.W.Frag) (neg : Bool) : R2 := fun x y H Q => ∃ p xs, y = .ref p ∧ (SqL K H p xs ∨ SqT K H p xs) ∧ flatV x = true ∧ xs.all flatV = true ∧ Q (.bl (if neg then !inV x xs else inV x xs)) H
theorem op_in_seq : OpR X (compareOp .In) (rIn X.K false) := by
  intro pins s σ H x y v u Q I rx ry h
  obtain ⟨p, xs, rfl, hq, fx, fs, q⟩ := h
  cases ry
  rcases hq with hq | hq
  · obtain ⟨its, r, pl, hz⟩ := I.list hq
    refine SeqAt.in_listAt (eqU x) pl.isList (fun w hw => mem_eqAt rx fx r fs w (by simpa using hw)) ⟨.bl _, H, I, rfl, ?_⟩
    rw [show its.toArray.any (eqU x) = its.any (eqU x) by simp, any_eqU r fs]
    exact q
  · obtain ⟨its, r, pl, hz⟩ := I.tuple hq
    refine SeqAt.in_tupleAt (eqU x) pl (fun w hw => mem_eqAt rx fx r fs w (by simpa using hw)) ⟨.bl _, H, I, rfl, ?_⟩
    rw [show its.toArray.any (eqU x) = its.any (eqU x) by simp, any_eqU r fs]
    exact q
theorem op_notIn_seq : OpR X (compareOp .NotIn) (rIn X.K true) := by
  intro pins s σ H x y v u Q I rx ry h
  obtain ⟨p, xs, rfl, hq, fx, fs, q⟩ := h
  cases ry
  rcases hq with hq | hq
  · obtain ⟨its, r, pl, hz⟩ := I.list hq
    refine SeqAt.notIn_listAt (eqU x) pl.isList (fun w hw => mem_eqAt rx fx r fs w (by simpa using hw)) ⟨.bl _, H, I, rfl, ?_⟩
    rw [show its.toArray.any (eqU x) = its.any (eqU x) by simp, any_eqU r fs]
    exact q
  · obtain ⟨its, r, pl, hz⟩ := I.tuple hq
    refine SeqAt.notIn_tupleAt (eqU x) pl (fun w hw => mem_eqAt rx fx r fs w (by simpa using hw)) ⟨.bl _, H, I, rfl, ?_⟩
    rw [show its.toArray.any (eqU x) = its.any (eqU x) by simp, any_eqU r fs]
    exact q
theorem call_len_seq : CallR X (.builtin "len") (fun xs H Q => ∃ p ys, xs = [.ref p] ∧ (SqL X.K H p ys ∨ SqT X.K H p ys) ∧ Q (.int ys.length) H) := by
  intro pins s σ H xs us Q I r h
  obtain ⟨p, ys, rfl, hq, q⟩ := h
  obtain ⟨u, rfl, rx⟩ := vals1 r
  cases rx
  have hn := line63
  rcases hq with hq | hq
  · obtain ⟨its, r', pl, hz⟩ := I.list hq
    have hlen := r'.length
    exact Calls.call_len_list pl.isList (by simp only [List.size_toArray] <;> omega) ⟨.int ys.length, H, I.tok _, ⟨s.toks + 1, by rw [List.size_toArray, hlen]⟩, q⟩
  · obtain ⟨its, r', pl, hz⟩ := I.tuple hq
    have hlen := r'.length
    exact len_tuple pl (by simp only [List.size_toArray] <;> omega) ⟨.int ys.length, H, I.tok _, ⟨s.toks + 1, by rw [List.size_toArray, hlen]⟩, q⟩
def tyV (K : PySem.W.Frag) (T : String) (x : V) (H : Hp) : Prop := match x with
  | .str _ => T = "str"
  | .int _ => T = "int"
  | .ref p => (T = "list" ∧ ∃ xs, SqL K H p xs) ∨ (T = "tuple" ∧ ∃ o, K.lookup p = some o ∧ o.cls = .type "tuple" ∧ o.dict = none) ∨
      (T = "dict" ∧ ((∃ kvs, H p = some (.dK kvs)) ∨ ∃ kvs, H p = some (.dT kvs))) ∨ (T = "set" ∧ ∃ S n, H p = some (.set S n))
  | _ => False
theorem tyV_is {pins : List (Addr × Obj)} {σ : St} {H : Hp} {s : Shared} {T : String} {x : V} {v : Value} (I : Inv X pins σ H s) (r : RelV x v) (ty : tyV X.K T x H) :
    s.TypeIs v T ∧ ∀ a, v = .ref a → ∃ ob, s.heap.get? a = some ob ∧ ob.dict = none := by
  cases x with
  | str z =>
    obtain ⟨t, rfl⟩ := r
    cases (show T = "str" from ty)
    exact ⟨typeIs_str s z t, fun _ e => nomatch e⟩
  | int i =>
    obtain ⟨t, rfl⟩ := r
    cases (show T = "int" from ty)
    exact ⟨typeIs_int s i t, fun _ e => nomatch e⟩
  | ref p =>
    cases r
    rcases ty with ⟨rfl, xs, hq⟩ | ⟨rfl, o, hk, hc, hd⟩ | ⟨rfl, hk⟩ | ⟨rfl, S, n, hk⟩
    · obtain ⟨its, _, pl, _⟩ := I.list hq
      refine ⟨pl.isList.typeIs, fun a e => ?_⟩
      cases e
      obtain ⟨o, n, e, c, hd, _⟩ := pl
      exact ⟨o, e, hd⟩
    · refine ⟨⟨o, I.kIn p o hk, hc⟩, fun a e => ?_⟩
      cases e
      exact ⟨o, I.kIn _ o hk, hd⟩
    · have z : ∃ o, s.heap.get? p = some o ∧ o.ExactDict := by
        rcases hk with ⟨kvs, hk⟩ | ⟨kvs, hk⟩
        · obtain ⟨_, _, _, _, o, _, _, e, ex, _⟩ := I.hok p _ hk
          exact ⟨o, e, ex⟩
        · obtain ⟨_, _, _, _, o, _, _, e, ex, _⟩ := I.hok p _ hk
          exact ⟨o, e, ex⟩
      obtain ⟨o, e, ex⟩ := z
      refine ⟨⟨o, e, ex.1⟩, fun a e2 => ?_⟩
      cases e2
      exact ⟨o, e, ex.2.1⟩
    · obtain ⟨o, _, _, _, e, ex, _⟩ := I.hok p _ hk
      refine ⟨⟨o, e, ex.1⟩, fun a e2 => ?_⟩
      cases e2
      exact ⟨o, e, ex.2.1⟩
  | _ => exact False.elim ty
def tBM0 (K : PySem.W.Frag) (T : String) (r : V → List V → Hp → VK → Prop) (to : TE) : TE := fun σ H Q => to σ H fun x H1 => tyV K T x H1 ∧ r x [] H1 Q
def tBM (K : PySem.W.Frag) (T : String) (r : V → List V → Hp → VK → Prop) (to : TE) (t : TA) : TE := fun σ H Q => to σ H fun x H1 => tyV K T x H1 ∧ t σ H1 fun xs H2 => r x xs H2 Q
variable {o e : Expr} {es : List Expr} {to : TE} {t : TA} {name : Str} {apos cpos : Pos} {T id : String} {r : V → List V → Hp → VK → Prop}
theorem pe_bm (pa : PlainAttrs T) (slot : Slot T name id) (hty : typeOf (.builtin id) = pure (.type "method_descriptor")) (hm : MtR X id r) (ho : PE X o to) (ha : PA X (e :: es) t)
    (hbase : attributeBase o name X.env (eval o X.env) = eval o X.env := by rfl)
    (hfew : ((backTo cpos (starEach (e :: es) X.env)).all (fun x => !x.1) && (backToKw cpos (keywordEach [] X.env)).all (fun x => x.1.isSome)
      && decide ((e :: es).length + ([] : List Keyword).length + (if ([] : List Keyword).isEmpty then 0 else 1) < 30)) = true := by rfl)
    (hline : (apos.endLine == cpos.line) = true := by rfl) (hs : starEach (e :: es) X.env = (false, eval e X.env) :: starEach es X.env := by rfl) (hplain : (backTo cpos (starEach es X.env)).any (·.1) = false := by rfl) :
    PE X (.Call (.Attribute o name apos) (e :: es) [] cpos) (tBM X.K T r to t) := by
  intro pins s σ H Q I h
  refine wpAny_Call_method_late hbase hfew hline rfl (thn (ho pins s σ H _ I h) fun v s1 ⟨x, H1, I1, r1, ty, q1⟩ => ?_)
  obtain ⟨h1, h2⟩ := tyV_is I1 r1 ty
  refine ⟨T, id, pa, slot, hty, h1, h2, ?_⟩
  have hA := ha cpos pins s1 σ H1 _ I1 q1
  rw [hs] at hA ⊢
  refine Calls.callWith_builtin (by show (false || (backTo cpos (starEach es X.env)).any (·.1)) = false; rw [hplain] <;> rfl) (Calls.evalArgs_plain ?_)
  exact thn hA fun us s2 ⟨vs, H2, I2, r2, q2⟩ => hm pins s2 σ H2 x vs v us Q I2 r1 r2 q2
/- xs.append(e), list.index on a module's tuple .. are MtR facts of 06m -/
end
end L2

namespace L2
open PySem PySem.Spec PyProof.Rows

def MtM (X : Cx) (id : String) (r : V → List V → Hp → VK → Prop) : Prop :=
  ∀ (pins : List (Addr × Obj)) (s : Shared) (σ : St) (H : Hp) (x : V) (xs : List V) (v : Value) (us : List Value) (Q : VK), Inv X pins σ H s → RelV x v → Vals xs us → r x xs H Q →
    wpAny (model X.prog X.w) X.A (call (.builtin id) (v :: us)) (EP X pins σ Q) X.xe s

theorem Vals.one : ∀ {x : V} {us : List Value}, Vals [x] us → ∃ u, us = [u] ∧ RelV x u
  | _, _, .cons r .nil => ⟨_, rfl, r⟩
theorem Vals.two : ∀ {x y : V} {us : List Value}, Vals [x, y] us → ∃ u v, us = [u, v] ∧ RelV x u ∧ RelV y v
  | _, _, _, .cons r (.cons q .nil) => ⟨_, _, rfl, r, q⟩
theorem Vals.rep {xs : List V} {us : List Value} (h : Vals xs us) : ∀ k : Nat, Vals (List.replicate k xs).flatten (List.replicate k us).flatten
  | 0 => .nil
  | k + 1 => by
    rw [List.replicate_succ, List.replicate_succ, List.flatten_cons, List.flatten_cons]
    exact Vals.append h (Vals.rep h k)
theorem foldl_rep (its : List Value) : ∀ (k : Nat) (acc : List Value),
    List.foldl (fun x1 x2 => x1 ++ x2) acc.toArray (List.replicate k its.toArray) = (acc ++ (List.replicate k its).flatten).toArray
  | 0, acc => by simp
  | k + 1, acc => by
    have e : acc.toArray ++ its.toArray = (acc ++ its).toArray := by simp
    have e2 : (acc ++ its) ++ (List.replicate k its).flatten = acc ++ (List.replicate (k + 1) its).flatten := by
      rw [List.replicate_succ, List.flatten_cons, List.append_assoc]
    rw [← e2, ← foldl_rep its k (acc ++ its), ← e, List.replicate_succ, List.foldl_cons]

section
variable {X : Cx} {pins : List (Addr × Obj)} {σ : St} {H : Hp} {s : Shared} {l b : Addr} {xs ys zs : List V}

theorem Inv.lset {its its' : List Value} {n : Nat} {f : Array Value → Array Value} {t' : Nat} (I : Inv X pins σ H s) (hH : H l = some (.lst xs))
    (e : s.heap.get? l = some { cls := .type "list", data := .seq its.toArray n }) (hf : f its.toArray = its'.toArray) (hv : Vals ys its') (hz : ys.length ≤ sizeLine) :
    Inv X pins σ (upd H l (.lst ys)) { s with heap := s.heap.update l (Obj.mapSeq f), toks := t' } := by
  have q := PySem.IsL.update e f
  rw [hf] at q
  refine I.write (x := l) (e := l) (by rw [hH]; exact trivial) (.inl rfl) (fun b' u hb hu => (Heap.get?_update_other s.heap (Obj.mapSeq f) (Ne.symm hb)).trans hu) ⟨_, q⟩ ?_
  exact ⟨hz, its', _, hv, q⟩
theorem Inv.lnew {its : List Value} {t' : Nat} (I : Inv X pins σ H s) (hv : Vals ys its) (hz : ys.length ≤ sizeLine) :
    Inv X pins σ (upd H s.heap.objs.size (.lst ys)) { s with heap := s.heap.push { cls := .type "list", data := .seq its.toArray }, toks := t' } :=
  I.laid (fun _ _ q => Heap.get?_push_of_some _ q) (Nat.le_refl _) ⟨hz, its, 0, hv, Heap.get?_push_size _ rfl⟩
theorem Inv.fresh (I : Inv X pins σ H s) : H s.heap.objs.size = none := I.hok.fresh (Nat.le_refl _)
theorem Inv.lstM (I : Inv X pins σ H s) (hH : H l = some (.lst xs)) : xs.length ≤ sizeLine ∧ ∃ (its : List Value) (n : Nat), Vals xs its ∧ xs.length = its.length ∧ s.heap.get? l = some { cls := .type "list", data := .seq its.toArray n } := by
  obtain ⟨z, its, n, r, e⟩ := I.hok l _ hH
  exact ⟨z, its, n, r, r.length, e⟩

theorem notLongL {n : Nat} (h : n ≤ sizeLine) : Builtin.List.listTooLong n = false := by
  unfold Builtin.List.listTooLong
  exact decide_eq_false (by omega)
end

section
variable {X : Cx}

def rAppend : V → List V → Hp → VK → Prop := fun x vs H Q => ∃ l xs y, x = .ref l ∧ vs = [y] ∧ H l = some (.lst xs) ∧ xs.length < sizeLine ∧ Q .non (upd H l (.lst (xs ++ [y])))
theorem mt_append : MtM X "list.append" rAppend := by
  intro pins s σ H x vs v us Q I rx rv h
  obtain ⟨l, xs, y, rfl, rfl, hH, hz, q⟩ := h
  cases rx
  obtain ⟨u, rfl, ru⟩ := rv.one
  obtain ⟨z, its, n, r, hl, e⟩ := I.lstM hH
  refine call_meets F.slot_list_append ⟨_, e, rfl⟩ F.entry_list_append (F.args_list_append_2 _ _) (PySem.list_append l its.toArray n u (by rw [List.size_toArray]; omega)) ⟨e, ?_⟩
  refine ⟨.non, _, I.lset (its' := its ++ [u]) hH e (by simp) (r.append (.cons ru .nil)) ?_, rfl, q⟩
  rw [List.length_append, List.length_singleton]
  omega

def rExtend : V → List V → Hp → VK → Prop := fun x vs H Q => ∃ l b xs zs, x = .ref l ∧ vs = [.ref b] ∧ H l = some (.lst xs) ∧ H b = some (.lst zs) ∧ xs.length + zs.length ≤ sizeLine ∧ Q .non (upd H l (.lst (xs ++ zs)))
def rPop : V → List V → Hp → VK → Prop := fun x vs H Q => ∃ l xs y, x = .ref l ∧ vs = [] ∧ H l = some (.lst xs) ∧ xs[xs.length - 1]? = some y ∧ Q y (upd H l (.lst xs.dropLast))
def rPopAt : V → List V → Hp → VK → Prop := fun x vs H Q => ∃ l xs i k y, x = .ref l ∧ vs = [.int i] ∧ H l = some (.lst xs) ∧ -(2 ^ 63) ≤ i ∧ i < 2 ^ 63 ∧ seqIndex? i xs.length = some k ∧ xs[k]? = some y ∧ Q y (upd H l (.lst (xs.eraseIdx k)))
def rReverse : V → List V → Hp → VK → Prop := fun x vs H Q => ∃ l xs, x = .ref l ∧ vs = [] ∧ H l = some (.lst xs) ∧ Q .non (upd H l (.lst xs.reverse))
def rClear : V → List V → Hp → VK → Prop := fun x vs H Q => ∃ l xs, x = .ref l ∧ vs = [] ∧ H l = some (.lst xs) ∧ Q .non (upd H l (.lst []))
def rCat : R2 := fun x y H Q => ∃ l b xs zs, x = .ref l ∧ y = .ref b ∧ H l = some (.lst xs) ∧ H b = some (.lst zs) ∧ xs.length + zs.length ≤ sizeLine ∧ ∀ p, H p = none → Q (.ref p) (upd H p (.lst (xs ++ zs)))
theorem op_cat : OpR X (binaryOp .Add) rCat := by
  intro pins s σ H x y v u Q I rx ry h
  obtain ⟨l, b, xs, zs, rfl, rfl, hH, hB, hz, q⟩ := h
  cases rx
  cases ry
  obtain ⟨z, its, n, r, hl, e⟩ := I.lstM hH
  obtain ⟨z2, its2, n2, r2, hl2, e2⟩ := I.lstM hB
  refine PySem.P.add_list e e2 ?_ (by rw [List.size_toArray, List.size_toArray]; omega)
  have ea : its.toArray ++ its2.toArray = (its ++ its2).toArray := by simp
  rw [ea]
  exact ⟨.ref _, _, I.lnew (t' := s.toks) (r.append r2) (by rw [List.length_append]; omega), rfl, q _ I.fresh⟩
def rRep : R2 := fun x y H Q => ∃ l k xs, x = .ref l ∧ y = .int k ∧ H l = some (.lst xs) ∧ -(2 ^ 63) ≤ k ∧ k < 2 ^ 63 ∧ xs.length * k.toNat ≤ sizeLine ∧
  ∀ p, H p = none → Q (.ref p) (upd H p (.lst (List.replicate k.toNat xs).flatten))
theorem len_rep {α : Type} (xs : List α) (k : Nat) : (List.replicate k xs).flatten.length = k * xs.length := by
  induction k with
  | zero => simp
  | succ k ih => rw [List.replicate_succ, List.flatten_cons, List.length_append, ih, Nat.succ_mul, Nat.add_comm]
theorem op_rep : OpR X (binaryOp .Mult) rRep := by
  intro pins s σ H x y v u Q I rx ry h
  obtain ⟨l, k, xs, rfl, rfl, hH, h1, h2, hz, q⟩ := h
  cases rx
  obtain ⟨t, rfl⟩ := ry
  obtain ⟨z, its, n, r, hl, e⟩ := I.lstM hH
  have hlen : its.toArray.size * k.toNat ≤ sizeLine := by rw [List.size_toArray, ← hl]; exact hz
  have hcap : ¬ its.toArray.size * k.toNat > (2 ^ 63 - 1) / 8 := by
    have : (sizeLine : Nat) ≤ (2 ^ 63 - 1) / 8 := by decide
    omega
  have hfit : ¬ (!Builtin.List.listFitsIndex k) = true := by
    rw [fitsIndex_both h1 h2]
    exact Bool.false_ne_true
  have hlong : ¬ Builtin.List.listTooLong (its.toArray.size * k.toNat) = true := by
    rw [notLongL hlen]
    exact Bool.false_ne_true
  have hnew : List.foldl (fun x1 x2 => x1 ++ x2) #[] (List.replicate (if its.toArray.isEmpty = true then 0 else k.toNat) its.toArray) = (List.replicate k.toNat its).flatten.toArray := by
    have f0 : ∀ m : Nat, List.foldl (fun x1 x2 => x1 ++ x2) #[] (List.replicate m its.toArray) = (List.replicate m its).flatten.toArray := fun m => by
      have := foldl_rep its m []
      rw [List.nil_append] at this
      exact this
    rw [f0]
    cases its with
    | nil => simp
    | cons a r' => rw [if_neg (by simp)]
  refine wpAny_binaryOp_repeat_ref (T := "list") (U := "int") (by decide) ⟨_, e, rfl⟩ (fun s' => typeIs_int s' k t) noFill_list_mul F.fills_int_mul F.slot_int_rmul repeat_list F.slot_int_index.lookup
    (call_meets F.slot_int_rmul (typeIs_int s k t) F.entry_int_rmul (F.args_int_rmul_2 _ _) (int___rmul___int_list k t l its.toArray n)
      ⟨e, rfl, ⟨_, e, rfl⟩, call_meets F.slot_list_mul ⟨_, e, rfl⟩ F.entry_list_mul (F.args_list_mul_2 _ _) (AutoListH.list___mul___list_int_3 l its.toArray n k t hfit hcap hlong) ⟨e, ?_⟩⟩)
  rw [hnew]
  exact ⟨.ref _, _, I.lnew (t' := s.toks) (r.rep k.toNat) (by rw [len_rep, Nat.mul_comm]; exact hz), rfl, q _ I.fresh⟩

end

section
variable {prog : Program} {w : World} {A : Around} {E : Value → Shared → Prop} {s : Shared}
end

section
variable {X : Cx}
end
end L2

namespace Att
open PySem PySem.W PySem.Calls PyProof.Rows

theorem ints_of_wellAll {P : Params} {h : Heap} : ∀ (ns : List Int) (vs : List Value), WellAll P h vs (ns.map WData.int) → IntsAre vs ns := by
  intro ns
  induction ns with
  | nil =>
    intro vs w
    rw [List.map_nil] at w
    cases w
    exact .nil
  | cons n ns ih =>
    intro vs w
    rw [List.map_cons] at w
    cases w with
    | cons a b =>
      cases a
      exact .cons _ _ (ih _ b)

theorem script_of {l : OpenLaw} {n : Nat} (hn : l.most = some n) {P : Params} {h : Heap} {args : List WData} {vals : List Value}
    (hpre : l.row.toRowW.claim.pre args = true) (hwl : WellAll P h vals args) :
    ∃ a vs ns, vals = [Value.ref a] ∧ args = [WData.list (ns.map WData.int)] ∧ h.get? a = some { cls := .type "list", data := .seq vs.toArray } ∧ IntsAre vs ns ∧ ns.length ≤ n := by
  have hsh : WShape.hasAll [] args [.list .int] = true := (pre_splitW hpre).1
  have hc : l.pre.holds [] { args := args } = true := (pre_splitW hpre).2
  obtain ⟨d, r, rfl, h1, h2⟩ := hasAllW_cons hsh
  obtain rfl := hasAllW_nil h2
  obtain ⟨xs, rfl, h3⟩ := hasW_list h1
  obtain ⟨ns, rfl⟩ := items_int h3
  have hlen : ns.length ≤ n := by
    unfold OpenLaw.pre at hc
    have h4 : (WTm.not (.lt (.lit (.int (n : Int))) (.len (.arg 0)))).holds [] { args := [.list (ns.map .int)] } = true := by
      have h4 := (holds_andW hc).1
      rw [hn] at h4
      exact h4
    have h5 := condW_of h4 (w_not (w_lt w_lit (w_len_list (w_arg rfl))))
    rw [List.length_map] at h5
    refine Nat.le_of_not_lt fun q => ?_
    have q' : (n : Int) < ((ns.length : Nat) : Int) := by omega
    first
      | (rw [decide_eq_true q'] at h5; exact absurd h5 (by decide))
      | (simp at h5; omega)
  cases hwl with
  | cons w1 w2 =>
    cases w2
    cases w1 with
    | list ho hall => exact ⟨_, _, ns, rfl, rfl, ho, ints_of_wellAll ns _ hall, hlen⟩

theorem post_true (l : OpenLaw) (args : List WData) : l.row.toRowW.claim.post args (.bool true) args = true :=
  postW_of (r := l.row.toRowW) (X := (true == true))
    (show WShape.has [] (.bool true) .bool = true by first | rfl | decide | simp [WShape.has, WShape.arms, WShape.armsAll])
    (show (WTm.eq .res (.lit (.bool true))).value [] { args := args, res := some (.bool true), after := args } = some (.bool (true == true)) from w_eq_bool (w_res rfl) w_lit) rfl

section
variable {prog : Program} {w : World} {A : Around} {E : Value → Shared → Prop} {s : Shared} {K : Frag}

def noObjs (h : Heap) : Heap := { h with objs := #[] }
def ledger (h : Heap) (L d : Addr) : List (Addr × Obj) := (List.range h.objs.size).filterMap fun a => if a = L ∨ a = d then none else (h.get? a).map fun o => (a, o)
end
end Att

namespace L2
open PySem PySem.Spec PyProof.Rows

theorem vals_ints : ∀ {vs : List Value} {ns : List Int}, IntsAre vs ns → Vals (ns.map V.int) vs
  | _, _, .nil => .nil
  | _, _, .cons n t h => .cons ⟨t, rfl⟩ (vals_ints h)

def Only (H : Hp) : Prop := ∀ b, H b = none ∨ ∃ o xs, H b = some (.frz o (.lst xs))

theorem law_call {P : Program} {w : World} {K : PySem.W.Frag} {mg mb : Str → Option Value} {CX : CXT} {k : Nat} {fa a : Addr} {fd : FuncData} {x : Str} {sp : Sp} {s₁ : Shared} {vs : List Value} {ns : List Int}
    (KX : K.In s₁.heap) (hns : s₁.heap.Ns mainGlobals mg) (hb : s₁.heap.Ns builtinsNs mb) (hbb : ∀ x : Str, x ≠ "__name__" → mb x = bootBuiltins x) (hlim : s₁.heap.NoLimit) (hg : s₁.gens = #[])
    (ha : s₁.heap.get? a = some { cls := .type "list", data := .seq vs.toArray }) (hi : IntsAre vs ns) (hl : ns.length ≤ sizeLine) (hr : Room k callerA)
    (F : ∀ base : Heap, K.In base → base.Ns mainGlobals mg → FnOk P w K mg base CX k fa fd [x] sp) (hbind : ∀ (s : Shared) (u : Value), BindsTo s fd ⟨[u], []⟩ [(x, u)])
    (hsp : ∀ H : Hp, Only H → SqL K H a (ns.map V.int) → sp [.ref a] H (fun v _ => v = .bl true) fun _ _ _ => False)
    (hCX : ∀ H e s', CX [] H s₁ (fun _ _ _ => False) e s' → False) :
    codeAny (model P w) callerA (.call (.ref fa) ⟨[.ref a], []⟩) (fun r s' => r = .ok (.ret (.bool true)) ∧ OldK s₁.heap s'.heap ∧ s'.os = s₁.os ∧ AllBare s'.gens) s₁ := by
  have rv := vals_ints hi
  have lenV := hi.length
  -- from an abstract heap in which nothing but the script may be tracked
  have core : ∀ H : Hp, Only H → SqL K H a (ns.map V.int) → HOk P w H s₁.heap → (∀ b, H b ≠ none → b = a) → (H a ≠ none → K.lookup a = none) →
      codeAny (model P w) callerA (.call (.ref fa) ⟨[.ref a], []⟩) (fun r s' => r = .ok (.ret (.bool true)) ∧ OldK s₁.heap s'.heap ∧ s'.os = s₁.os ∧ AllBare s'.gens) s₁ := by
    intro H hO hS hok hA hK
    have base_of : ∀ {b : Addr} {o : Obj}, s₁.heap.get? b = some o → H b = none → (hidT s₁.heap H).get? b = some o := fun e n => hidT_get e n
    have noA : ∀ {b : Addr} {o : Obj} {es : Array DictEntry} {ep : Nat}, s₁.heap.get? b = some o → o.data = .dict es ep → H b = none := fun {b o es ep} e d => by
      cases q : H b with
      | none => rfl
      | some u =>
        have e' : b = a := hA b (by rw [q]; simp)
        subst e'
        rw [ha] at e; cases e
        have d' : Data.seq vs.toArray _ = Data.dict es ep := d
        cases d'
    have nsK : ∀ {b : Addr} {m : Str → Option Value}, s₁.heap.Ns b m → (hidT s₁.heap H).Ns b m := fun {b m} ⟨o, es, ep, e, d, r⟩ => ⟨o, es, ep, base_of e (noA e d), d, r⟩
    have hKb : K.In (hidT s₁.heap H) := fun b o e => base_of (KX b o e) (by
      cases q : H b with
      | none => rfl
      | some u =>
        have e' : b = a := hA b (by rw [q]; simp)
        subst e'
        rw [hK (by rw [q]; simp)] at e; cases e)
    have hM : Mod K mg (hidT s₁.heap H) := ⟨hKb, nsK hns, ⟨mb, nsK hb, hbb⟩, let ⟨mc, h1, h2⟩ := hlim; ⟨mc, nsK h1, h2⟩⟩
    have e0 : Env0 P w K mg (hidT s₁.heap H) callerA [] s₁ H := ⟨rfl, hM, fun b o e => of_hidT e, Nat.le_of_eq (hidT_size _ _), trivial, fun b hb => absurd (show b ∈ ([] : List Addr) from hb) (by simp), hok, .of_eq hg⟩
    refine codeAny_mono ((F _ hKb (nsK hns)).run callerA [] s₁ H ⟨[.ref a], []⟩ [.ref a] [.ref a] _ _ hr e0 (hbind s₁ (.ref a)) (.cons rfl .nil) (hsp H hO hS)) fun r s' h => ?_
    cases r with
    | error e => exact (hCX H e s' h).elim
    | ok fl =>
      cases fl with
      | next => exact False.elim h
      | brk => exact False.elim h
      | cont => exact False.elim h
      | ret u =>
        obtain ⟨v, H', os, bare, un, hok', r', q⟩ := h
        have q' : v = .bl true := q
        subst q'
        obtain rfl : u = Value.bool true := r'
        refine ⟨rfl, OldK.of_keep fun b o e => ?_, os, bare⟩
        cases q : H b with
        | none => exact un.keep b o e q (by intro z; exact absurd (show b ∈ ([] : List Addr) from z) (by simp)) (by simp)
        | some u =>
          rcases hO b with z | ⟨ob, xs, z⟩
          · rw [q] at z; cases z
          · have z2 := un.frzs b ob _ z
            obtain ⟨e1, _⟩ := hok b _ z
            obtain ⟨e2, _⟩ := hok' b _ z2
            rw [e] at e1; cases e1
            exact e2
  cases hk : K.lookup a with
  | some o =>
    -- the script is one of the module's own objects
    have e := KX a o hk
    rw [ha] at e
    cases e
    refine core (fun _ => none) (fun _ => .inl rfl) (.inr ⟨_, vs.toArray, _, hk, rfl, rfl, rfl, by rw [List.size_toArray, lenV]; exact hl, by simpa using rv⟩) (fun b u z => by have z' : (none : Option HO) = some u := z; cases z') (fun b z => absurd rfl z) fun z => absurd rfl z
  | none =>
    refine core (fun b => if b = a then some (.frz { cls := .type "list", data := .seq vs.toArray } (.lst (ns.map V.int))) else none) (fun b => ?_) (.inl (.inr ⟨{ cls := .type "list", data := .seq vs.toArray }, if_pos rfl⟩)) (fun b u z => ?_) (fun b z => ?_) fun _ => hk
    · by_cases hb : b = a
      · exact .inr ⟨_, _, if_pos hb⟩
      · exact .inl (if_neg hb)
    · by_cases hb : b = a
      · have z' := (if_pos hb).symm.trans z
        cases z'
        subst hb
        exact ⟨ha, by rw [List.length_map]; exact hl, vs, _, rv, ha⟩
      · have z' := (if_neg hb).symm.trans z
        cases z'
    · by_cases hb : b = a
      · exact hb
      · exact absurd (if_neg hb) z
end L2

namespace L2
open PySem PySem.Spec PyProof.Rows

abbrev KOf {K : PySem.W.Frag} {h : Heap} (_ : K.In h) : PySem.W.Frag := K

end L2

namespace L2
open PySem PySem.Spec PyProof.Rows

def inClass (s : Stmt) (j : Nat) : Stmt := match s with
  | .ClassDef _ _ _ body _ _ _ _ _ _ _ => body.getD j (.Pass ⟨0, 0, 0, 0⟩)
  | _ => .Pass ⟨0, 0, 0, 0⟩
def defArgs (s : Stmt) : Arguments := match s with
  | .FunctionDef _ a _ _ _ _ _ _ _ _ => a
  | _ => { posonlyargs := [], args := [], vararg := none, kwonlyargs := [], kw_defaults := [], kwarg := none, defaults := [] }
def defBody (s : Stmt) : List Stmt := match s with
  | .FunctionDef _ _ b _ _ _ _ _ _ _ => b
  | _ => []
def defScope (s : Stmt) : Scope := match s with
  | .FunctionDef _ _ _ _ _ _ sc _ _ _ => sc
  | _ => { kind := .function, names := [], isGenerator := false, isCoroutine := false }

abbrev CX0 : CXT := fun _ _ _ _ _ _ => False
abbrev E0 : XK := fun _ _ _ => False
theorem pass0 {X : Cx} : Passes CX0 X E0 := fun _ _ _ _ _ _ _ h => h.elim

structure Fun (K : PySem.W.Frag) (x qual : Str) (st : Stmt) (f : Addr) (fd : FuncData) : Prop where
  ex : ∃ (oc : Value) (od : Option Addr) (kV doc pm : Value) (an : Option Addr) (cdv ct : Value) (osl : Array (Option Value)),
    fd = PySem.W.fnOf x qual (defArgs st) (defBody st) (defScope st) .none kV doc pm an cdv ct ∧ K.lookup f = some ⟨oc, od, .func fd, osl⟩ ∧ PySem.W.codeIn K cdv qual = true
  kp : PySem.W.keepIn K (.ref f) = true
section
variable {P : Program} {w : World} {K : PySem.W.Frag} {mg : Str → Option Value} {base : Heap}
theorem Fun.ok {x qual : Str} {st : Stmt} {f : Addr} {fd : FuncData} {N ps : List Str} {k : Nat} {sp : Sp} (F : Fun K x qual st f fd) (S : FnScope N ps (defScope st)) (len : ∀ vs H Q E, sp vs H Q E → vs.length = ps.length)
    (hbody : ∀ (cdv : Value) (A : Around) (outer : List Env) (s : Shared) (H : Hp) (vs : List V) (Q : VK) (E : XK), Room k (A.deeper (envOfC qual (defScope st) s.heap.objs.size f cdv)) → sp vs H Q E →
      ∃ t, PSs (cxOf CX0 P w K mg base N qual (defScope st) f cdv A outer s H E).nox (defBody st) t ∧ t { nx := fun _ H' => Q .non H', rt := Q } (start N vs) H) : FnOk P w K mg base CX0 (k + 1) f fd ps sp := by
  obtain ⟨oc, od, kV, doc, pm, an, cdv, ct, osl, rfl, lk, hcd⟩ := F.ex
  refine fn_of lk hcd S len fun A outer s H vs Q E hr hsp => ?_
  obtain ⟨t, h, q⟩ := hbody cdv A outer s H vs Q E hr hsp
  exact ⟨t, h.nox, q⟩
theorem Fun.binds {x qual : Str} {st : Stmt} {f : Addr} {fd : FuncData} {ps : List Str} (F : Fun K x qual st f fd)
    (h : ∀ (kV doc pm : Value) (an : Option Addr) (cdv ct : Value) (us : List Value), us.length = ps.length → bindArgs (PySem.W.fnOf x qual (defArgs st) (defBody st) (defScope st) .none kV doc pm an cdv ct) ⟨us, []⟩ = pure (ps.zip us)) : Binds K fd ps [] := by
  obtain ⟨oc, od, kV, doc, pm, an, cdv, ct, osl, rfl, lk, hcd⟩ := F.ex
  exact .all (h kV doc pm an cdv ct)
theorem fun_mk {x qual : Str} {st : Stmt} {f : Addr} {oc : Value} {od an : Option Addr} {osl : Array (Option Value)} {kV doc pm cdv ct : Value} (l : K.lookup f = some ⟨oc, od, .func (PySem.W.fnOf x qual (defArgs st) (defBody st) (defScope st) .none kV doc pm an cdv ct), osl⟩)
    (c : PySem.W.codeIn K cdv qual = true) (k : PySem.W.keepIn K (.ref f) = true) : Fun K x qual st f (PySem.W.fnOf x qual (defArgs st) (defBody st) (defScope st) .none kV doc pm an cdv ct) := ⟨⟨oc, od, kV, doc, pm, an, cdv, ct, osl, rfl, l, c⟩, k⟩
end
section
variable {X : Cx}
theorem pv (i : Nat) {x : Str} {pos : Pos} (hN : X.N[i]? = some x := by rfl) (hv : Vis X.env.scope x := by first | exact Or.inl rfl | exact Or.inr (Or.inl rfl) | exact Or.inr (Or.inr rfl)) (hd : (x == ("__debug__" : Str)) = false := by decide)
    (hcd : (x == ("__classdict__" : Str)) = false := by decide) : PE X (.Name x pos) (tVar i) := pe_var hN hv hd hcd
end

theorem iteF {A B : Prop} (h : B) : if false = true then A else B := by
  rw [if_neg Bool.false_ne_true]
  exact h
theorem iteT {A B : Prop} (h : A) : if true = true then A else B := by
  rw [if_pos rfl]
  exact h
theorem ite2 {c A B : Prop} [Decidable c] (h1 : c → A) (h2 : ¬ c → B) : if c then A else B := by
  by_cases h : c
  · rw [if_pos h]
    exact h1 h
  · rw [if_neg h]
    exact h2 h
theorem iteNS {c A B : Prop} [Decidable c] (hc : c) (h : B) : if (!decide c) = true then A else B := by
  rw [decide_eq_true hc]
  exact iteF h

def Same (H H' : Hp) : Prop := ∀ b o, H b = some o → H' b = some o
theorem Same.refl (H : Hp) : Same H H := fun _ _ h => h
theorem Same.trans {H H1 H2 : Hp} (a : Same H H1) (b : Same H1 H2) : Same H H2 := fun c o h => b c o (a c o h)
theorem Same.seq {K : PySem.W.Frag} {H H' : Hp} {a : Addr} {xs : List V} (e : Same H H') (h : SqL K H a xs) : SqL K H' a xs := by
  rcases h with (h | ⟨o, h⟩) | h
  · exact .inl (.inl (e _ _ h))
  · exact .inl (.inr ⟨o, e _ _ h⟩)
  · exact .inr h

end L2

namespace L2
open PySem PySem.Spec PyProof.Rows

section
variable {X : Cx}
theorem op_mulG : OpR X (binaryOp .Mult) (rI IntMulOk fun i j => .int (i * j)) := opI fun _ _ _ _ _ _ _ hc q => mul_int q hc
def CDivL (_ j : Int) : Prop := j ≠ 0 ∧ j.natAbs.log2 < 9000
theorem op_fdivL : OpR X (binaryOp .FloorDiv) (rI CDivL fun i j => .int (i.fdiv j)) :=
  opI fun _ _ _ _ _ _ _ hc q => floordiv_int hc.1 q (.inl (PyProof.noPylong_of_log2 hc.2))
end

section
variable {P : Program} {w : World} {H H1 H2 : Hp} {h h1 h2 : Heap} {a : Addr} {o : HO}
theorem ObjOk.there (x : ObjOk P w H h a o) : ∃ ob, h.get? a = some ob := by
  cases o with
  | lst xs => obtain ⟨_, _, _, _, e⟩ := x; exact ⟨_, e⟩
  | tup xs => obtain ⟨_, _, _, ob, e, _⟩ := x; exact ⟨_, e⟩
  | dK kvs => obtain ⟨_, _, _, _, ob, _, _, e, _⟩ := x; exact ⟨_, e⟩
  | dT kvs => obtain ⟨_, _, _, _, ob, _, _, e, _⟩ := x; exact ⟨_, e⟩
  | set S n => obtain ⟨ob, _, _, _, e, _⟩ := x; exact ⟨_, e⟩
  | ins C dx fs => obtain ⟨_, _, _, e, _⟩ := x; exact ⟨_, e⟩
  | own y => exact x
  | xd fs => obtain ⟨_, ⟨ob, _, _, e, _⟩, _⟩ := x; exact ⟨_, e⟩
  | rng lo hi => obtain ⟨_, _, _, e⟩ := x; exact ⟨_, e⟩
  | frz ob u => obtain ⟨e, _⟩ := x; exact ⟨_, e⟩
  | tbl ps => exact ⟨_, (show h.get? a = some _ from x)⟩
  | met f y => exact ⟨_, (show h.get? a = some _ from x)⟩
  | ext φ => obtain ⟨_, ⟨ob, e⟩, _⟩ := x; exact ⟨_, e⟩
theorem HOk.onward (x : HOk P w H h1) (k : ∀ b ob, H b ≠ none → h1.get? b = some ob → h2.get? b = some ob) : HOk P w H h2 := fun c u e =>
  (x c u e).stay (fun b v hb q => k b v (by rcases hb with rfl | hb
                                            · rw [e]; simp
                                            · rw [hb]; simp) q) (fun _ q => q) fun _ _ q => q
theorem Un.onward {fs : List Addr} (u : Un fs [] H H1 h h1) (keep : ∀ b ob, h1.get? b = some ob → b ∉ fs → (∃ o', h.get? b = some o') → h2.get? b = some ob)
    (slot : ∀ b ob, h1.get? b = some ob → b ∈ fs → (∃ o', h.get? b = some o') → ∃ sl, h2.get? b = some { ob with slots := sl }) : Un fs [] H H1 h h2 where
  keep := fun b ob e n hb hx => keep b ob (u.keep b ob e n hb hx) hb ⟨ob, e⟩
  slot := fun b ob e n hb hx => by
    obtain ⟨sl, e1⟩ := u.slot b ob e n hb hx
    obtain ⟨sl2, e2⟩ := slot b _ e1 hb ⟨ob, e⟩
    exact ⟨sl2, e2⟩
  free := u.free
  there := fun b ob e hx => by
    obtain ⟨o1, e1⟩ := u.there b ob e hx
    by_cases hb : b ∈ fs
    · obtain ⟨sl, e2⟩ := slot b o1 e1 hb ⟨ob, e⟩
      exact ⟨_, e2⟩
    · exact ⟨_, keep b o1 e1 hb ⟨ob, e⟩⟩
  tups := u.tups
  frzs := u.frzs
  tbls := u.tbls
end

structure Fly (P : Program) (w : World) (outer : List Env) (H : Hp) (s : Shared) (cls a0 : Value) (ea : Addr) (B : Heap) (H' : Hp) (s' : Shared) : Prop where
  os : s'.os = s.os
  bare : AllBare s'.gens
  un : Un (frs outer) [] H H' s.heap s'.heap
  hok : HOk P w H' s'.heap
  fly : Heap.FlyingW B outer ea cls a0 s'.heap
  frf : ∀ b ∈ frs outer, H' b = none
  cov : ∀ b o, s'.heap.get? b = some o → b ∉ frs outer → (H' b ≠ none ∨ ∃ o', s.heap.get? b = some o') → B.get? b = some o
def XF (P : Program) (w : World) : CXT := fun outer H s E e s' => ∃ (ea : Addr) (cls a0 : Value) (B : Heap) (H' : Hp), e = .ref ea ∧ Fly P w outer H s cls a0 ea B H' s' ∧ E cls none H'

section
variable {P : Program} {w : World} {K : PySem.W.Frag} {mg : Str → Option Value} {base : Heap} {N : List Str} {qual : Str} {scope : Scope} {f : Addr} {cd : Value} {A : Around} {outer : List Env} {s0 s1 : Shared} {H0 H1 : Hp} {E : XK}
  {pins : List (Addr × Obj)} {σ : St}
theorem frs_tail {env : Env} {l : List Env} {b : Addr} (h : b ∈ frs l) : b ∈ frs (env :: l) := by
  unfold frs at h ⊢
  rw [List.filterMap_cons]
  split
  · exact h
  · exact List.mem_cons_of_mem _ h
theorem raise_xe {h' : Heap} {e : Addr} {cls : Value} {args : List Value} (I : Inv (cxOf (XF P w) P w K mg base N qual scope f cd A outer s0 H0 E) pins σ H1 s1) (hx : Heap.MadeExcOf s1.heap h' e cls args) (hE : E cls none H1) :
    (cxOf (XF P w) P w K mg base N qual scope f cd A outer s0 H0 E).xe (.ref e) { s1 with heap := h' } := by
  have st : s1.heap.FunFrames base (envOfC qual scope s0.heap.objs.size f cd :: outer) := I.stack
  have fz : ∀ b ∈ frs (envOfC qual scope s0.heap.objs.size f cd :: outer), H1 b = none := I.stkFree
  have sub : ∀ b ∈ frs (envOfC qual scope s0.heap.objs.size f cd :: outer), b = (envOfC qual scope s0.heap.objs.size f cd).locals ∨ b ∈ frs outer := fun b hb => List.mem_cons.mp (I.stkSub b hb)
  have above : s0.heap.objs.size ≤ (envOfC qual scope s0.heap.objs.size f cd).locals := I.ok.above
  have old : ∀ b o, s0.heap.get? b = some o → b ∉ frs outer → b ∉ frs (envOfC qual scope s0.heap.objs.size f cd :: outer) := fun b o q nb z => by
    rcases sub b z with z | z
    · subst z
      exact absurd (Nat.lt_of_lt_of_le (Heap.lt_size q) above) (Nat.lt_irrefl _)
    · exact nb z
  show wpAny (model P w) (A.deeper (envOfC qual scope s0.heap.objs.size f cd)) (leaving (envOfC qual scope s0.heap.objs.size f cd) (.ref e)) _ _ _
  refine wpAny_leaves_madeW (base := PySem.W.hideAll s1.heap (frs (envOfC qual scope s0.heap.objs.size f cd :: outer))) (h := s1.heap) I.ok.frames rfl (fun b o q => PySem.W.of_hideAll _ q)
    (PySem.W.funFrames_hide st fun env' he a ha => List.mem_filterMap.mpr ⟨env', he, ha⟩) hx fun h'' t fl tup bt ups => ?_
  have kept : ∀ b o, s1.heap.get? b = some o → b ∉ frs (envOfC qual scope s0.heap.objs.size f cd :: outer) → h''.get? b = some o := fun b o q nb => fl.1 b o (PySem.W.hideAll_get _ q nb)
  have u : Un (frs outer) [] H0 H1 s0.heap s1.heap := I.base
  refine ⟨e, cls, .ref t, _, H1, rfl, ⟨I.os, I.bare, u.onward (fun b o q nb old' => ?_) (fun b o q hb old' => ?_), I.hok.onward fun b o hb q => kept b o q fun z => hb (fz b z), fl, fun b hb => fz b (frs_tail hb), fun b o q nb hc => ?_⟩, hE⟩
  · obtain ⟨o', q'⟩ := old'
    exact kept b o q (old b o' q' nb)
  · obtain ⟨_, o', ho', nf⟩ := st.mem (frs_tail hb)
    rw [q] at ho'; cases ho'
    exact ups b o (hx.keeps b o q) nf
  · have key : ∃ o1, s1.heap.get? b = some o1 ∧ b ∉ frs (envOfC qual scope s0.heap.objs.size f cd :: outer) := by
      rcases hc with hc | ⟨o', q'⟩
      · cases e1 : H1 b with
        | none => exact absurd e1 hc
        | some u1 =>
          obtain ⟨o1, q1⟩ := (I.hok b u1 e1).there
          exact ⟨o1, q1, fun z => hc (fz b z)⟩
      · obtain ⟨o1, q1⟩ := u.there b o' q' (by simp)
        exact ⟨o1, q1, old b o' q' nb⟩
    obtain ⟨o1, q1, n1⟩ := key
    have z := kept b o1 q1 n1
    have q2 : h''.get? b = some o := q
    rw [q2] at z; cases z
    exact PySem.W.hideAll_get _ q1 n1

end
end L2

namespace L2
open PySem PySem.Spec PyProof.Rows PySem.W PySem.Calls Builtin Builtin.ObjectAttr Builtin.Getset_descriptor

def ExcAt (C e : Addr) (h : Heap) : Prop := ∃ o, h.get? e = some o ∧ o.cls = .ref C ∧ notCls o = true
theorem ExcAt.stays {C e : Addr} {h1 h2 : Heap} (x : ExcAt C e h1) (k : ∀ o, h1.get? e = some o → h2.get? e = some o) : ExcAt C e h2 :=
  let ⟨o, a, b⟩ := x
  ⟨o, k o a, b⟩
theorem ExcAt.type {C e : Addr} {h : Heap} {M : Model} (x : ExcAt C e h) : Looks M h (typeOf (.ref e)) (.ref C) := by
  obtain ⟨o, a, b, _⟩ := x
  exact b ▸ (Looks.ld a).andThen .now
structure ExcCls (K : Frag) (C : Addr) : Prop where
  cls : (clsIn K C).isSome = true
  ga : findIn K (.ref C) "__getattribute__" = some (some (.builtin "BaseException.__getattribute__"))
  gt : findIn K (.ref C) "__getattr__" = some none
  cl : findIn K (.ref C) "__class__" = some (some (.builtin "object.__class__"))
  get : specialIn K (.builtin "object.__class__") "__get__" = some (some (.builtin "getset_descriptor.__get__"))
  tk : takesIn K (.builtin "object.__class__") = some true
  ob : mroIn K C (.type "object") = some true
  be : mroIn K C (.type "BaseException") = some true
section
variable {prog : Program} {w : World} {A : Around} {E : Value → Shared → Prop} {s : Shared} {K : Frag} {e C : Addr}
theorem exc_find {M : Model} {h : Heap} (X : K.In h) (T : ExcCls K C) : Looks M h (Builtin.ObjectAttr.find (.ref e) (.ref C) "__class__") (.bind (.builtin "getset_descriptor.__get__") (.builtin "object.__class__")) := by
  have d : Looks M h (Builtin.ObjectAttr.dataDescriptor? (some (.builtin "object.__class__")) (some (.builtin "getset_descriptor.__get__"))) (some (.builtin "getset_descriptor.__get__", .builtin "object.__class__")) := (looks_takesIn X T.tk).andThen .now
  exact (looks_findIn X T.cl).andThen ((looks_specialIn X T.get).andThen (d.andThen (Looks.tag .now)))
theorem exc_class_get {R : Result → Shared → Prop} {tp : Value} (X : K.In s.heap) (I : ExcAt C e s.heap) (hm : mroIn K C (.type "object") = some true)
    (h : R (.ok (.ret (.ref C))) s) : codeAny (model prog w) A (.call (.builtin "getset_descriptor.__get__") ⟨[.builtin "object.__class__", .ref e, tp], []⟩) R s := by
  obtain ⟨hp, gs, dr, tk, os⟩ := s
  have l0 := I.type (M := model prog w)
  have l1 := looks_mroIn (M := model prog w) X hm
  refine codeAny_call_builtin KF.slot_gs.plain KF.entry_gs ?_
  refine KF.slot_gs.check _ _ _ _ _ _ _ _ KF.type_class (KF.args_gs _ _ _) ?_
  unfold Builtin.«getset_descriptor.__get__» descrGet
  rw [dga_obj]
  refine wpAny_bind (wpAny_pure ?_)
  unfold descrGetter descrCheckInstance descrNameAndClass isInstance
  simp only [KF.owner_class]
  repeat lk
  refine ⟨Code.quiet_builtin _ (by decide +kernel), codeAny_builtin KF.entry_class ?_⟩
  unfold Builtin.«object.__class__» shownTypeOf
  repeat lk
  exact h

theorem exc_entry {tk : Tok} {Q : PySem.Fin → Shared → Prop} (X : K.In s.heap) (T : ExcCls K C) (I : ExcAt C e s.heap) (h : Q (.done (.ret (.ref C))) s) :
    wpAny (model prog w) A (Builtin.«object.__getattribute__» ⟨[.ref e, .str "__class__" tk], []⟩) Q E s := by
  obtain ⟨hp, gs, dr, t, os⟩ := s
  have l0 := I.type (M := model prog w)
  have l1 := exc_find (e := e) (M := model prog w) X T
  unfold Builtin.«object.__getattribute__»
  repeat (first | with_reducible refine wpAny_call ?_ | lk)
  refine exc_class_get X I T.ob ?_
  repeat lk
  exact h
theorem exc_class {Q : Option Value → Shared → Prop} (X : K.In s.heap) (T : ExcCls K C) (I : ExcAt C e s.heap) (h : Q (some (.ref C)) { s with toks := s.toks + 1 }) : wpAny (model prog w) A (getAttr? (.ref e) "__class__") Q E s := by
  obtain ⟨hp, gs, dr, t, os⟩ := s
  have l0 := I.type (M := model prog w)
  have l1 := looks_findIn (M := model prog w) X T.ga
  have l2 := looks_findIn (M := model prog w) X T.gt
  have l3 := looks_mroIn (M := model prog w) X T.be
  unfold getAttr? getAttrBy? getAttrBy
  refine wpAny_bind (wpAny_mkText (wpAny_bind (wpAny_attempt (wpAny_holding (wpAny_bind (l0.at (wpAny_bind (l1.at ?_))))))))
  dsimp only
  have ne : (Value.builtin "BaseException.__getattribute__" == Value.builtin "object.__getattribute__") = false := by decide +kernel
  rw [if_neg (by rw [ne, Bool.and_false]; exact Bool.false_ne_true)]
  unfold getAttrByItsOwn hookBefore
  repeat (first | with_reducible refine wpAny_call ?_ | with_reducible refine wpAny_attempt ?_ | lk)
  have hk : builtinKind "BaseException.__getattribute__" = some .slot := by decide +kernel
  have hsplit : splitId "BaseException.__getattribute__" = some ("BaseException", "__getattribute__") := by decide +kernel
  refine codeAny_call_builtin (by decide +kernel) F.entry_bexc_ga ?_
  have ha := F.args_bexc_ga (.ref e) (.str (Str.ofString "__class__") t)
  show wpAny _ _ (checkBuiltinCall "BaseException.__getattribute__" ⟨[.ref e, .str (Str.ofString "__class__") t], []⟩) _ _ _
  simp only [checkBuiltinCall, hk, hsplit]
  unfold isInstance
  refine wpAny_bind (wpAny_bind (l0.at (l3.at ?_)))
  simp only [Bool.not_true, Bool.false_eq_true, if_false]
  refine wpAny_of_eq (show _ = pure () from ha) ?_
  refine wpAny_mono (exc_entry (E := fun _ _ => False) (Q := fun fin s' => fin = .done (.ret (.ref C)) ∧ s' = ⟨hp, gs, dr, t + 1, os⟩) X T I ⟨rfl, rfl⟩) (fun fin s' z => ?_) fun _ _ z => z.elim
  obtain ⟨rfl, rfl⟩ := z
  exact wpAny_pure (wpAny_pure h)
end
theorem kitx_exc {K : Frag} {e C : Addr} (T : ExcCls K C) : KitX K (.ref e) (.ref C) (ExcAt C e) where
  ty := fun _ _ _ I => I.type
  it := fun M h X _ => by
    obtain ⟨cd, hc⟩ := Option.isSome_iff_exists.mp T.cls
    unfold clsIn at hc
    split at hc
    · rename_i c' d' cd' sl' ho
      intro A' Q' E' s' k q
      unfold isType loadHead
      exact wpAny_bind (wpAny_loadPart (k _ _ (X _ _ ho)) (wpAny_pure q))
    · cases hc
  ne := fun h tp dd its n sl X htp => by
    obtain ⟨cd, hc⟩ := Option.isSome_iff_exists.mp T.cls
    refine Bool.eq_false_iff.mpr fun q => ?_
    have ee : C = tp := Value.ref.inj (beq_iff_eq.mp q)
    subst ee
    unfold clsIn at hc
    split at hc
    · rename_i c' d' cd' sl' ho
      have z := (X _ _ ho).symm.trans htp
      cases z
    · cases hc
  ca := fun X I k => exc_class X T I k
end L2

namespace L2
open PySem PySem.Spec PyProof.Rows

structure RoomQ (k : Nat) (A : Around) : Prop where
  dp : A.depth + 3 * k + 5 < recursionLimit
  un : A.units + 16 * k + 200 < cLine
structure FnOkQ (P : Program) (w : World) (K : PySem.W.Frag) (mg : Str → Option Value) (base : Heap) (k : Nat) (f : Addr) (fd : FuncData) (ps : List Str) (sp : Sp) : Prop where
  len : ∀ vs H Q E, sp vs H Q E → vs.length = ps.length
  run : ∀ (A : Around) (outer : List Env) (s : Shared) (H : Hp) (args : Args) (us : List Value) (vs : List V) (Q : VK) (E : XK), RoomQ k A → Env0 P w K mg base A outer s H → BindsTo s fd args (ps.zip us) → Vals vs us → sp vs H Q E →
    codeAny (model P w) A (.call (.ref f) args) (CR CX0 outer P w H s Q E) s
def cxQ (P : Program) (w : World) (K : PySem.W.Frag) (mg : Str → Option Value) (base : Heap) (N : List Str) (qual : Str) (scope : Scope) (f : Addr) (cd : Value) (A : Around) (outer : List Env) (s : Shared) (H : Hp) : Cx :=
  { cxOf CX0 P w K mg base N qual scope f cd A outer s H E0 with calm := false, xe := fun _ _ => False }
section
variable {P : Program} {w : World} {K : PySem.W.Frag} {mg : Str → Option Value} {base : Heap}
theorem Fun.okX {x qual : Str} {st : Stmt} {f : Addr} {fd : FuncData} {N ps : List Str} {k : Nat} {sp : Sp} (F : Fun K x qual st f fd) (S : FnScope N ps (defScope st)) (len : ∀ vs H Q E, sp vs H Q E → vs.length = ps.length)
    (hbody : ∀ (cdv : Value) (A : Around) (outer : List Env) (s : Shared) (H : Hp) (vs : List V) (Q : VK) (E : XK), Room k (A.deeper (envOfC qual (defScope st) s.heap.objs.size f cdv)) → sp vs H Q E →
      ∃ t, PSs (cxOf (XF P w) P w K mg base N qual (defScope st) f cdv A outer s H E) (defBody st) t ∧ t { nx := fun _ H' => Q .non H', rt := Q } (start N vs) H) : FnOk P w K mg base (XF P w) (k + 1) f fd ps sp := by
  obtain ⟨oc, od, kV, doc, pm, an, cdv, ct, osl, rfl, lk, hcd⟩ := F.ex
  exact fn_of lk hcd S len fun A outer s H vs Q E hr hsp => hbody cdv A outer s H vs Q E hr hsp
end
section
variable {X : Cx} {k : Nat} {f : Addr} {fd : FuncData} {ps : List Str} {sp : Sp} {dvs : List V} {ds : List Value} {x : Str} {p pos : Pos} {e : Expr} {es : List Expr} {t : TA}
end
theorem PS.nox {X : Cx} {st : Stmt} {t : TS} (h : PS X.nox st t) : PS X st t := fun pins s σ H D I hw =>
  wpAny_mono (h pins s σ H D (I.wish _) hw) (fun _ _ q => q.unwish) fun _ _ z => z.elim

theorem exc_obj {K : PySem.W.Frag} {h : Heap} {C : Addr} {bmB : List Value} {newId : String} (X : K.In h) (q : PySem.W.excIn K C bmB newId = true) :
    ∃ bm N nm qn bs hdct sn sub ab col dd k0 k1 k2 k3 k5 mN, h.get? C = some (excClassObj nm qn C N bs bm hdct sn sub ab col dd k0 k1 k2 k3 k5 newId) ∧ h.Ns N mN ∧ mN "__init__" = none ∧ OwnTail h bmB bm := by
  unfold PySem.W.excIn at q
  split at q
  · rename_i dd cd sl ho
    split at q
    · rename_i C' bm k0 k1 k2 k3 n k5 hm hs
      simp only [Bool.and_eq_true, beq_iff_eq, Bool.not_eq_true'] at q
      obtain ⟨⟨⟨⟨⟨c1, c2⟩, c3⟩, c4⟩, c5⟩, c6⟩ := q
      subst c1 c2
      obtain ⟨nm, bs, mro, ns, qn, hd, sn, sub, ab, col, del⟩ := cd
      dsimp only at hm c3 c5 c6
      subst hm c3
      obtain ⟨l⟩ := sl
      have hs' : l = [k0, k1, k2, k3, some (.builtin n), k5] := hs
      subst hs'
      exact ⟨bm, ns, nm, qn, bs, hd, sn, sub, ab, col, dd, k0, k1, k2, k3, k5, _, X _ _ ho, .of_isNs (PySem.W.isNs_of_in X c5), PySem.W.nsMap_none_of_in X c5 c6, PySem.W.tail_of_in X c4⟩
    · cases q
  · cases q
abbrev bmVE : List Value := [.type "ValueError", .type "Exception", .type "BaseException", .type "object"]
def tRaise (C : Addr) (E : XK) (ta : TA) : TS := fun _ σ H => ta σ H fun vs H1 => vs.length ≤ sizeLine ∧ E (.ref C) none H1
section
variable {P : Program} {w : World} {K : PySem.W.Frag} {mg : Str → Option Value} {base : Heap} {N : List Str} {qual : Str} {scope : Scope} {f : Addr} {cd : Value} {A : Around} {outer : List Env} {s0 : Shared} {H0 : Hp} {E : XK}
  {x : Str} {C : Addr} {np cpos pos : Pos} {e : Expr} {es : List Expr} {t : TA}
theorem ps_raise (hm : mg x = some (.ref C)) (hq : PySem.W.excIn K C bmVE "ValueError.__new__" = true) (hg : Gl (cxOf (XF P w) P w K mg base N qual scope f cd A outer s0 H0 E) x)
    (ha : PA (cxOf (XF P w) P w K mg base N qual scope f cd A outer s0 H0 E) (e :: es) t) (hdb : (x == ("__debug__" : Str)) = false := by decide)
    (he : starEach (e :: es) (cxOf (XF P w) P w K mg base N qual scope f cd A outer s0 H0 E).env = (false, eval e (cxOf (XF P w) P w K mg base N qual scope f cd A outer s0 H0 E).env) :: starEach es (cxOf (XF P w) P w K mg base N qual scope f cd A outer s0 H0 E).env := by rfl)
    (hpl : (backTo cpos (starEach es (cxOf (XF P w) P w K mg base N qual scope f cd A outer s0 H0 E).env)).any (·.1) = false := by rfl) :
    PS (cxOf (XF P w) P w K mg base N qual scope f cd A outer s0 H0 E) (.Raise (some (.Call (.Name x np) (e :: es) [] cpos)) none pos) (tRaise C E t) := by
  intro pins s σ H D I h
  obtain ⟨bm, Nn, nm, qn, bs, hdct, sn, sub, ab, col, dd, k0, k1, k2, k3, k5, mN, hC, hN, hni, TL⟩ := exc_obj I.mod.kin hq
  have hpl' : (backTo cpos (starEach (e :: es) (cxOf (XF P w) P w K mg base N qual scope f cd A outer s0 H0 E).env)).any (·.1) = false := by
    rw [he]
    show (false || (backTo cpos (starEach es _)).any (·.1)) = false
    rw [hpl]
    rfl
  refine wpAny_Raise_call_subT (C := C) (nm := nm) (q := qn) (N := Nn) (bs := bs) (bm := bm) (hdct := hdct) (sn := sn) (sub := sub) (ab := ab) (col := col) (dd := dd) (k0 := k0) (k1 := k1) (k2 := k2) (k3 := k3) (k5 := k5)
    PySem.F.excBase_ValueError (mN := mN) (TL.hasType PySem.F.excBase_ValueError.hasBase) (I.ok.hd rfl) hpl' hni (ld_glob I hg hm ⟨rfl, ?_⟩ hdb)
  have h2 := ha cpos pins s σ H _ I h
  rw [he] at h2 ⊢
  exact Calls.evalArgs_plain (wpAny_mono h2 (fun us s1 ⟨vs, H1, I1, r, z, q⟩ => ⟨rfl, by show us.length ≤ _; rw [← r.length]; exact z, I1.bk _ _ hC, hN.keeps I1.bk, TL.keeps I1.bk, fun h' ea hm' => raise_xe I1 hm' q⟩) fun _ _ y => y)
end
end L2

namespace L2
open PySem PySem.Spec PyProof.Rows

abbrev Cx.marked (X : Cx) (e : Addr) : Cx := { X with A := X.A.mark (some (.ref e)), calm := false, xe := fun _ _ => False }
theorem Cx.Ok.marked {X : Cx} (ok : X.Ok) (e : Addr) : (X.marked e).Ok :=
  ⟨ok.mod, ok.kind, ok.glob, ok.blt, ok.above, ok.inj, ok.has, ok.cab, (fun h => by cases h), ok.frames, ok.stk, ok.exf, ok.bs, ok.bsz, ok.noex, ok.exfs, ok.funs, ok.frf⟩
section
variable {X : Cx} {pins : List (Addr × Obj)} {σ : St} {H H' : Hp} {s s' : Shared} {e : Addr}
theorem Inv.marked (I : Inv X pins σ H s) (e : Addr) : Inv (X.marked e) pins σ H s := ⟨I.ok.marked e, I.os, I.bare, I.base, I.loc, I.cell, I.free, I.freeC, I.pin, I.hok, I.len⟩
theorem Inv.unmarked (ok : X.Ok) (I : Inv (X.marked e) pins σ H s) : Inv X pins σ H s := ⟨ok, I.os, I.bare, I.base, I.loc, I.cell, I.free, I.freeC, I.pin, I.hok, I.len⟩
theorem Un.more {fs : List Addr} {H H1 : Hp} {h h1 : Heap} {a : Addr} {o : HO} (u : Un fs [] H H1 h h1) (n : h.get? a = none) (n1 : H1 a = none) : Un fs [] H (upd H1 a o) h h1 where
  keep := u.keep
  slot := u.slot
  free := fun b ob q m hx => by
    have ne : b ≠ a := fun z => by subst z; rw [n] at q; cases q
    rw [upd_ne ne]
    exact u.free b ob q m hx
  there := u.there
  tups := fun b xs q => by
    have z := u.tups b xs q
    rw [upd_ne (ne_of_none z n1)]
    exact z
  frzs := fun b ob v q => by
    have z := u.frzs b ob v q
    rw [upd_ne (ne_of_none z n1)]
    exact z
  tbls := fun b ps q => by
    obtain ⟨m, z⟩ := u.tbls b ps q
    exact ⟨m, by rw [upd_ne (ne_of_none z n1)]; exact z⟩
theorem HOk.more {P : Program} {w : World} {H1 : Hp} {h1 : Heap} {a : Addr} {o : HO} (x : HOk P w H1 h1) (n1 : H1 a = none) (new : ObjOk P w (upd H1 a o) h1 a o) : HOk P w (upd H1 a o) h1 := fun b u e => by
  by_cases hb : b = a
  · subst hb; rw [upd_same] at e; cases e; exact new
  · rw [upd_ne hb] at e
    exact (x b u e).stay (fun _ _ _ q => q) (fun c q => by rw [upd_ne (ne_of_none q n1)]; exact q) fun c xs q => by rw [upd_ne (ne_of_none q n1)]; exact q
variable {cls a0 : Value} {ea C : Addr} {B h' : Heap} {t' : Nat}
theorem Fly.unF (x : Fly X.prog X.w X.stack H s cls a0 ea B H' s') (k : B.StaysIn h') (ups : s'.heap.UpToSlots h') : Un (frs X.stack) [] H H' s.heap h' :=
  x.un.onward (fun b o q nb old => k b o (x.cov b o q nb (.inr old))) fun b o q hb old => by
    obtain ⟨_, o', ho', nf⟩ := x.fly.2.2.1.mem hb
    rw [q] at ho'; cases ho'
    exact ups b o q nf
theorem Fly.hokF (x : Fly X.prog X.w X.stack H s cls a0 ea B H' s') (k : B.StaysIn h') : HOk X.prog X.w H' h' :=
  x.hok.onward fun b o hb q => k b o (x.cov b o q (fun z => hb (x.frf b z)) (.inl hb))
theorem Fly.notFrame (x : Fly X.prog X.w X.stack H s cls a0 ea B H' s') : ea ∉ frs X.stack := fun z => by
  obtain ⟨_, o', ho', nf⟩ := x.fly.2.2.1.mem z
  obtain ⟨oe, vs, he, _, hd, _⟩ := x.fly.first
  rw [he] at ho'; cases ho'
  exact nf vs hd
theorem Fly.new (x : Fly X.prog X.w X.stack H s cls a0 ea B H' s') : s.heap.get? ea = none ∧ H' ea = none := by
  obtain ⟨oe, vs, he, _, hd, _⟩ := x.fly.first
  constructor
  · cases q : s.heap.get? ea with
    | none => rfl
    | some o' =>
      have z := x.cov ea oe he x.notFrame (.inr ⟨o', q⟩)
      rw [x.fly.2.1] at z; cases z
  · cases q : H' ea with
    | none => rfl
    | some u =>
      have z := x.cov ea oe he x.notFrame (.inl (by rw [q]; simp))
      rw [x.fly.2.1] at z; cases z
theorem Inv.landed (I : Inv X pins σ H s) (x : Fly X.prog X.w X.stack H s cls a0 ea B H' s') (k : B.StaysIn h') (ups : s'.heap.UpToSlots h') : Inv X pins σ H' { s' with heap := h', toks := t' } :=
  I.call' (s' := { s' with heap := h', toks := t' }) (ch := []) x.os (x.unF k ups) (x.hokF k) x.bare fun b z => absurd z (by simp)
theorem Inv.landedE (I : Inv X pins σ H s) (x : Fly X.prog X.w X.stack H s (.ref C) a0 ea B H' s') {l : List Env} (fl : Heap.FlyingW B l ea (.ref C) a0 h') (ups : s'.heap.UpToSlots h') :
    Inv X pins σ (upd H' ea (.ext (ExcAt C ea))) { s' with heap := h', toks := t' } := by
  obtain ⟨oe, vs, he, hc, hd, _⟩ := fl.first
  have at_ : ExcAt C ea h' := ⟨oe, he, hc, by unfold PySem.W.notCls; rw [hd]⟩
  exact I.call' (s' := { s' with heap := h', toks := t' }) (ch := []) x.os ((x.unF fl.1 ups).more x.new.1 x.new.2) ((x.hokF fl.1).more x.new.2 ⟨at_, ⟨oe, he⟩, fun h1 h2 p q => p.stays q⟩) x.bare fun b z => absurd z (by simp)
theorem unbind_ok {M : Model} {A : Around} {E : Value → Shared → Prop} {i : Nat} {n : Str} {pos : Pos} {Q : Unit → Shared → Prop} (I : Inv X pins σ H s) (hN : X.N.Nodup) (hi : X.N[i]? = some n) (hk : X.env.scope.names.lookup n = some .local)
    (h : ∀ s', Inv X pins (σ.set i none) H s' → Q () s') : wpAny M A (do bindName X.env n .none; unbindBehindTheSuite X.env n pos) Q E s := by
  obtain ⟨m, hn, hl⟩ := id I.loc
  have hcls : (X.env.scope.kind == .class || (X.env.scope.kind == .module && X.env.locals != X.env.globals)) = false := by rw [I.ok.kind]; rfl
  have cne := I.cne
  obtain ⟨oL, _, _, hoL, _⟩ := id hn
  refine wpAny_nameGoes_keeps hk hn hcls fun h' v hn' hs => ?_
  have old : ∀ b o, X.s₀.heap.get? b = some o → h'.get? b = s.heap.get? b := fun b o e => hs.2 b (Nat.ne_of_lt (Nat.lt_of_lt_of_le (Heap.lt_size e) I.ok.above))
  refine h _ ⟨I.ok, I.os, I.bare, ⟨fun b o e k hb hx => (old b o e).trans (I.base.keep b o e k hb hx), fun b o e k hb hx => ?_, I.base.free, fun b o e hx => ?_, I.base.tups, I.base.frzs, I.base.tbls⟩, ⟨_, hn', fun j y v' e1 e2 e3 => ?_⟩, fun y c e => ?_, I.free, I.freeC, fun p hp => ?_, fun b ob e => ?_, by simpa using I.len⟩
  · obtain ⟨sl, e1⟩ := I.base.slot b o e k hb hx
    exact ⟨sl, (old b o e).trans e1⟩
  · obtain ⟨o', e1⟩ := I.base.there b o e hx
    exact ⟨o', (old b o e).trans e1⟩
  · by_cases hj : j = i
    · subst hj
      exfalso
      have hlt : j < σ.length := by rw [I.len]; exact (List.getElem?_eq_some_iff.mp hi).1
      rw [List.getElem?_set_self hlt] at e2
      cases e2
    · rw [List.getElem?_set_ne (Ne.symm hj)] at e2
      obtain ⟨u', r', q⟩ := hl j y v' e1 e2 e3
      refine ⟨u', r', ?_⟩
      rcases q with ⟨k, e⟩ | ⟨k, c, e, z⟩
      · refine .inl ⟨k, ?_⟩
        have ne : y ≠ n := fun z => hj (nodup_ix hN e1 (z ▸ hi))
        show (if y = n then v else m y) = some u'
        rw [if_neg ne]
        exact e
      · exact .inr ⟨k, c, e, z.sameBut hs (cne y c e)⟩
  · obtain ⟨w', z⟩ := I.cell y c e
    exact ⟨w', z.sameBut hs (cne y c e)⟩
  · obtain ⟨e, k, ne, nf, d⟩ := I.pin p hp
    exact ⟨(hs.2 p.1 ne).trans e, k, ne, nf, d⟩
  · refine (I.hok b ob e).stay (fun c w' hc q => (hs.2 c ?_).trans q) (fun _ q => q) fun _ _ q => q
    rintro rfl
    rcases hc with rfl | hc
    · rw [I.free] at e; cases e
    · rw [I.free] at hc; cases hc
def asEnds (D : Ends) (i : Nat) : Ends := { nx := fun σ H => D.nx (σ.set i none) H, rt := D.rt, bk := fun σ H => D.bk (σ.set i none) H, ct := fun σ H => D.ct (σ.set i none) H }
end
def tTryAs (sp : Sp) (C : Addr) (i : Nat) (ta : TA) (ts : TS) : TS := fun D σ H => ta σ H fun vs H1 => sp vs H1 (fun _ H2 => D.nx σ H2) fun cls _ H2 => cls = .ref C ∧ ∀ e, H2 e = none → ts (asEnds D i) (σ.set i (some (.ref e))) (upd H2 e (.ext (ExcAt C e)))
section
variable {X : Cx} {k : Nat} {f C : Addr} {fd : FuncData} {ps : List Str} {sp : Sp} {g x n : Str} {p pos pos2 pos3 np hpos : Pos} {e : Expr} {es : List Expr} {t : TA} {ts : TS} {b₀ : Stmt} {suite : List Stmt} {i : Nat}
end
end L2

namespace L2
open PySem PySem.Spec PyProof.Rows

theorem reads_bools (h : Heap) : ∀ {bs : List Bool} {us : List Value}, Vals (bs.map V.bl) us → ReadsAll h us (bs.map PyData.bool) []
  | [], _, .nil => .nil
  | b :: r, _, .cons q t => by
    have q' : _ = Value.bool b := q
    subst q'
    exact ReadsAll.cons (as := []) (bs := []) (.bool b) (reads_bools h t)
def rCount : V → List V → Hp → VK → Prop := fun x vs H Q => ∃ (l : Addr) (bs : List Bool) (k : Bool), x = .ref l ∧ vs = [.bl k] ∧ H l = some (.lst (bs.map V.bl)) ∧ Q (.int (countIn (.bool k) (bs.map PyData.bool))) H
inductive TyX (K : PySem.W.Frag) (H : Hp) : V → Value → Prop where
  | of {x : V} {t : Value} (h : TyOf K H x t) : TyX K H x t
  | exc {e C : Addr} (T : ExcCls K C) (h : H e = some (.ext (ExcAt C e))) : TyX K H (.ref e) (.ref C)
def valOf : V → Value
  | .ref a => .ref a
  | .ty n => .type n
  | _ => .none
def rIsi (K : PySem.W.Frag) : List V → Hp → VK → Prop := fun xs H Q => ∃ x c t b, xs = [x, c] ∧ ((∃ a, c = .ref a) ∨ ∃ n, c = .ty n) ∧ TyX K H x t ∧ PySem.W.kitOne K t (valOf c) = some b ∧ Q (.bl b) H
theorem call_isi {X : Cx} : CallR X (.builtin "isinstance") (rIsi X.K) := by
  intro pins s σ H xs us Q I rv h
  obtain ⟨x, c, t, b, rfl, hc, ty, e, q⟩ := h
  obtain ⟨u, uc, rfl, ru, rc⟩ := rv.two
  have huc : uc = valOf c := by
    rcases hc with ⟨a, rfl⟩ | ⟨n, rfl⟩
    · exact rc
    · exact rc
  subst huc
  have fin : ∀ tk, EP X pins σ Q (.bool b) { s with toks := tk } := fun tk => ⟨.bl b, H, I.tok tk, rfl, q⟩
  cases ty with
  | of ty => exact isinst_ok I ru ty e fin
  | @exc ea C T he =>
    have ru' : u = Value.ref ea := ru
    subst ru'
    obtain ⟨p, _, _⟩ := (show ObjOk X.prog X.w H s.heap ea (.ext (ExcAt C ea)) from I.hok ea _ he)
    exact PySem.W.kia_one (kitx_exc T) I.kIn p e (fun z => nomatch z) fin

theorem bits_of_lay {ns : List Int} (h : PySem.W.WData.layableAll [PySem.W.WData.list (ns.map PySem.W.WData.int)] = true) : ∀ n ∈ ns, Builtin.Int.intBits n ≤ 1048576 := fun n hn => by
  have h1 := (PySem.W.layW_cons h).1
  have h2 := PySem.W.layableW_item h1 (.int n) (List.mem_map.mpr ⟨n, hn, rfl⟩)
  have h3 : PyData.layable0 (.int n) = true := h2
  exact PyData.bits_of_layable h3
theorem walk_b {l : PySem.W.OpenLaw} {n k : Nat} {q : Program} {loose : List Str} {XP : (Str → Option Value) → Heap → Prop} {YP : World → Heap → Prop} {d : DefRec} {K : Params → PySem.W.Frag} {CX : World → CXT} {sp : World → Sp} {x : Str}
    (hn : l.most = some n) (hn2 : n ≤ sizeLine) (hdf : d.params.defaults = []) (hr : Room k callerA)
    (hY : ∀ (w : World) (h : Heap), YP w h → (K w.params).In h)
    (F : ∀ (w : World) (mg : Str → Option Value) (fa : Addr) (h : Heap), (K w.params).In h → h.Ns mainGlobals mg → mg d.name = some (.ref fa) →
      ∃ fd : FuncData, (∀ (s : Shared) (u : Value), BindsTo s fd ⟨[u], []⟩ [(x, u)]) ∧
        ∀ base : Heap, (K w.params).In base → base.Ns mainGlobals mg → FnOk l.prog w (K w.params) mg base (CX w) k fa fd [x] (sp w))
    (hsp : ∀ (w : World) (H : Hp) (a : Addr) (ns : List Int), ns.length ≤ n → (∀ m ∈ ns, Builtin.Int.intBits m ≤ 1048576) → SqL (K w.params) H a (ns.map V.int) → sp w [.ref a] H (fun v _ => v = .bl true) fun _ _ _ => False)
    (hCX : ∀ (w : World) (H : Hp) (s : Shared) (e : Value) (s' : Shared), CX w [] H s (fun _ _ _ => False) e s' → False) :
    PySem.W.WalkO q loose XP YP l.row.toRowW d [] (fun f vs => PySem.call f vs) := by
  intro w s₀ s₁ mg mb G Y fa o pm cd doc dV kV ho hd hcd hD hmg hg args vals as hpre hlay hrd hwl hlo
  obtain ⟨a, vs, ns, rfl, rfl, hobj, hints, hlen⟩ := Att.script_of hn hpre hwl
  have KX := hY w _ Y
  obtain ⟨fd, hb, hF⟩ := F w mg fa _ KX G.T.g hmg
  have call := law_call KX G.T.g G.T.b G.T.builtins G.T.nolimit hg hobj hints (Nat.le_trans hlen hn2) hr hF hb (fun H hO hS => hsp w H a ns hlen (bits_of_lay hlay) hS) fun H e s' => hCX w H s₁ e s'
  refine PySem.W.enter_call (codeAny_mono call fun r s' hq => ?_)
  obtain ⟨rfl, h2, h3, h4⟩ := hq
  exact ⟨.inl ⟨.bool true, .bool true, [], rfl, fun _ => rfl, .bool true, Att.post_true l _, fun _ => ⟨List.Pairwise.nil, fun _ hm => (nomatch hm)⟩⟩, h2, h3, h4⟩
theorem passF {X : Cx} {P : Program} {w : World} : Passes (XF P w) X E0 := by
  rintro pins σ H s e s' I ⟨_, _, _, _, _, _, _, h⟩
  exact h.elim
def spLaw (K : PySem.W.Frag) : Sp := fun vs H Q _ => ∃ (a : Addr) (ns : List Int), vs = [.ref a] ∧ SqL K H a (ns.map V.int) ∧ ns.length ≤ 63 ∧ (∀ m ∈ ns, Builtin.Int.intBits m ≤ 1048576) ∧ ∀ H', Q (.bl true) H'
end L2

namespace L2
open PySem PySem.Spec PyProof.Rows

def tCut (t u : TS) : TS := fun D σ H => ∃ R : St → Hp → Prop, t { D with nx := R } σ H ∧ ∀ σ' H', R σ' H' → u D σ' H'
theorem pss_cut {X : Cx} {st : Stmt} {rest : List Stmt} {t u : TS} (h1 : PS X st t) (h2 : PSs X rest u) : PSs X (st :: rest) (tCut t u) := by
  intro pins s σ H D I h
  obtain ⟨R, h, k⟩ := h
  refine wpAny_execs_cons (thn (h1 pins s σ H { D with nx := R } I h) fun f s1 q => ?_)
  cases f with
  | next =>
    obtain ⟨σ', H', I', q⟩ := q
    exact h2 pins s1 σ' H' D I' (k _ _ q)
  | ret v => exact q
  | brk => exact q
  | cont => exact q

theorem bits_lit {i : Int} {k : Nat} (h : i.natAbs < 2 ^ k) (hk : k ≤ 1048576) : Builtin.Int.intBits i ≤ 1048576 := Nat.le_trans (intBits_le h) hk
theorem mulOk {a b : Int} (ha : Builtin.Int.intBits a ≤ 1048576) (hb : Builtin.Int.intBits b ≤ 1048576) : IntMulOk a b := IntMulOk.of_bits ha hb
theorem log2_lt_of {i : Int} {k : Nat} (h : i.natAbs < 2 ^ k) (hk : 0 < k) : i.natAbs.log2 < k := by
  by_cases h0 : i.natAbs = 0
  · rw [h0]; exact hk
  · exact (Nat.log2_lt h0).mpr h

def spCell (K : PySem.W.Frag) : Sp := fun vs H Q _ => ∃ (a : Addr) (ns : List Int) (k : Int), vs = [.ref a, .int k] ∧ SqL K H a (ns.map V.int) ∧ 0 ≤ k ∧ Q (.int (ns.getD k.toNat 0)) H
theorem cell_in {ns : List Int} {k : Int} (h0 : 0 ≤ k) (h : k < ((ns.map V.int).length : Nat)) : atI (ns.map V.int) k = some (.int (ns.getD k.toNat 0)) := by
  rw [List.length_map] at h
  have hk : k.toNat < ns.length := by omega
  have ek : k = ((k.toNat : Nat) : Int) := by omega
  have q : atI (ns.map V.int) ((k.toNat : Nat) : Int) = some (.int (ns.getD k.toNat 0)) := atI_nat (by
    rw [List.getElem?_map, List.getElem?_eq_getElem hk, List.getD_eq_getElem?_getD, List.getElem?_eq_getElem hk]
    rfl)
  rw [← ek] at q
  exact q
theorem cell_out {ns : List Int} {k : Int} (h : ¬ k < ((ns.map V.int).length : Nat)) (h0 : 0 ≤ k) : ns.getD k.toNat 0 = 0 := by
  rw [List.length_map] at h
  rw [List.getD_eq_getElem?_getD, List.getElem?_eq_none (by omega)]
  rfl
def spWhole : Sp := fun vs H Q _ => ∃ n, vs = [.int n] ∧ Q (.bl true) H
def spAlone (C : Addr) : Sp := fun vs H Q _ => ∃ e, vs = [.ref e] ∧ H e = some (.ext (ExcAt C e)) ∧ ∀ H', Same H H' → Q (.bl true) H'
theorem same_new {H : Hp} {p : Addr} (h : H p = none) (o : HO) : Same H (upd H p o) := fun b u q => by rw [upd_ne (ne_of_none q h)]; exact q
end L2
namespace L2
open PySem PySem.Spec PyProof.Rows
def Has (P : Program) (w : World) (K : PySem.W.Frag) (mg : Str → Option Value) (base : Heap) (CX : CXT) (k : Nat) (x : Str) (ps : List Str) (sp : Sp) : Prop :=
  ∃ (f : Addr) (fd : FuncData), FnOk P w K mg base CX k f fd ps sp ∧ Binds K fd ps [] ∧ PySem.W.keepIn K (.ref f) = true ∧ mg x = some (.ref f)
def HasQ (P : Program) (w : World) (K : PySem.W.Frag) (mg : Str → Option Value) (base : Heap) (k : Nat) (x : Str) (ps : List Str) (sp : Sp) : Prop :=
  ∃ (f : Addr) (fd : FuncData), FnOkQ P w K mg base k f fd ps sp ∧ Binds K fd ps [] ∧ PySem.W.keepIn K (.ref f) = true ∧ mg x = some (.ref f)
theorem decT {p : Prop} [Decidable p] (h : decide p = true) : p := of_decide_eq_true h
theorem decF {p : Prop} [Decidable p] (h : ¬ decide p = true) : ¬ p := of_decide_eq_false (Bool.eq_false_iff.mpr h)
theorem int_inj {a b : Int} (h : V.int a = V.int b) : a = b := V.int.inj h
end L2
namespace L2
open PySem PySem.Spec PyProof.Rows
inductive IntsE : List Expr → List Int → Prop where
  | nil : IntsE [] []
  | cons {i : Int} {j : Nat} {pos : Pos} {es : List Expr} {ns : List Int} (h : IntsE es ns) : IntsE (.Constant (.int i) j pos :: es) (i :: ns)
theorem pa_ints {X : Cx} {es : List Expr} {ns : List Int} (h : IntsE es ns) : PA X es (fun _ H Q => Q (ns.map V.int) H) := by
  induction h with
  | nil => exact pa_nil
  | cons h ih => exact pa_cons pe_int ih
end L2
namespace L2
open PySem PySem.Spec PyProof.Rows
end L2

namespace Pr
theorem quot (x y : Int) : x = y * Int.fdiv x y + Int.fmod x y := by rw [Int.fmod_def]; omega
theorem mul_ge {a b c : Int} (h : 1 ≤ b) (ha : c ≤ a) (hc : 0 ≤ c) : c ≤ a * b := by
  have := Int.mul_le_mul ha h (by omega) (by omega)
  omega
theorem pow_pos' {p : Int} (hp : 1 ≤ p) : ∀ n : Nat, 1 ≤ p ^ n
  | 0 => by simp
  | n + 1 => by
    rw [Int.pow_succ]
    exact mul_ge hp (pow_pos' hp n) (by omega)
def NoDiv (x d : Int) : Prop := ∀ k, 2 ≤ k → k < d → ¬ k ∣ x
structure Prm (p : Int) : Prop where
  two : 2 ≤ p
  no : ∀ k, 2 ≤ k → k * k ≤ p → ¬ k ∣ p
theorem sq_lt_of {k d : Int} (hk : 0 ≤ k) (hd : 0 ≤ d) (h : k * k < d * d) : k < d := by
  rcases Int.lt_or_le k d with h1 | h1
  · exact h1
  · have := Int.mul_le_mul h1 h1 hd hk
    omega
theorem prm_of {d x : Int} (h2 : 2 ≤ d) (h : NoDiv x d) (hd : d ∣ x) : Prm d := by
  refine ⟨h2, fun k k2 kk hk => h k k2 ?_ (Int.dvd_trans hk hd)⟩
  have := Int.mul_le_mul_of_nonneg_right k2 (show 0 ≤ k by omega)
  omega
theorem prm_left {d x : Int} (h2 : 2 ≤ d) (h : NoDiv x d) (hx : x < d * d) (x1 : 1 < x) : Prm x := by
  refine ⟨by omega, fun k k2 kk hk => h k k2 ?_ hk⟩
  exact sq_lt_of (by omega) (by omega) (by omega)
theorem left_ge {d x : Int} (h : NoDiv x d) (x1 : 1 < x) : d ≤ x := by
  rcases Int.lt_or_le x d with h1 | h1
  · exact absurd (Int.dvd_refl x) (h x (by omega) h1)
  · exact h1
def prodP : List (Int × Int) → Int
  | [] => 1
  | x :: r => x.1 ^ x.2.toNat * prodP r
theorem prodP_app (xs ys : List (Int × Int)) : prodP (xs ++ ys) = prodP xs * prodP ys := by
  induction xs with
  | nil => simp [prodP]
  | cons x r ih => simp only [List.cons_append, prodP, ih, Int.mul_assoc]
theorem prodP_one (p e : Int) : prodP [(p, e)] = p ^ e.toNat := by simp [prodP]
structure Part (x : Int × Int) : Prop where
  prime : Prm x.1
  often : 1 ≤ x.2
structure Told (n : Int) (xs : List (Int × Int)) : Prop where
  all : ∀ x ∈ xs, Part x
  rise : xs.Pairwise fun x y => x.1 < y.1
  prod : prodP xs = n
theorem prodP_pos {xs : List (Int × Int)} (h : ∀ x ∈ xs, Part x) : 1 ≤ prodP xs := by
  induction xs with
  | nil => simp [prodP]
  | cons x r ih =>
    simp only [prodP]
    have h1 := ih fun y hy => h y (.tail _ hy)
    exact mul_ge h1 (pow_pos' (by have := (h x (.head _)).prime.two; omega) _) (by omega)
theorem pow_mono {a b : Nat} (h : a ≤ b) : (2 : Int) ^ a ≤ (2 : Int) ^ b := by
  obtain ⟨c, rfl⟩ := Nat.exists_eq_add_of_le h
  rw [Int.pow_add]
  exact mul_ge (pow_pos' (by omega) c) (Int.le_refl _) (by have := pow_pos' (show (1 : Int) ≤ 2 by omega) a; omega)
structure Out (n left d : Int) (xs : List (Int × Int)) : Prop where
  all : ∀ x ∈ xs, Part x
  rise : xs.Pairwise fun x y => x.1 < y.1
  below : ∀ x ∈ xs, x.1 < d
  prod : prodP xs * left = n
  no : NoDiv left d
  odd : d = 2 ∨ d % 2 = 1
theorem out_start (n : Int) : Out n n 2 [] := ⟨fun _ h => (nomatch h), .nil, fun _ h => (nomatch h), by simp [prodP], fun k h1 h2 => by omega, .inl rfl⟩
theorem out_left {n left d : Int} {xs : List (Int × Int)} (h : Out n left d xs) (l1 : 1 ≤ left) : left ≤ n := by
  have := h.prod
  have := mul_ge (prodP_pos h.all) (Int.le_refl left) (by omega)
  rw [Int.mul_comm] at this
  omega
structure Inn (left₀ d left often : Int) : Prop where
  eq : left₀ = d ^ often.toNat * left
theorem inn_start (left d : Int) : Inn left d left 0 := ⟨by simp⟩
theorem inn_turn {left₀ d left often : Int} (h : Inn left₀ d left often) (o : 0 ≤ often) (hz : Int.fmod left d = 0) : Inn left₀ d (Int.fdiv left d) (often + 1) := by
  have q := quot left d
  rw [hz] at q
  refine ⟨?_⟩
  have e : (often + 1).toNat = often.toNat + 1 := by omega
  rw [e, Int.pow_succ, h.eq, Int.mul_assoc]
  congr 1
  omega
theorem fmod_ne {x d : Int} (h : Int.fmod x d ≠ 0) : ¬ d ∣ x := fun hd => h (Int.fmod_eq_zero_of_dvd hd)
theorem nodiv_next {left₀ d left often : Int} (hi : Inn left₀ d left often) (h2 : 2 ≤ d) (ho : d = 2 ∨ d % 2 = 1) (hn : NoDiv left₀ d) (hz : Int.fmod left d ≠ 0) (d' : Int) (hd : d' = if d = 2 then 3 else d + 2) : NoDiv left d' ∧ (d' = 2 ∨ d' % 2 = 1) ∧ d < d' := by
  have hl : left ∣ left₀ := ⟨d ^ often.toNat, by rw [hi.eq, Int.mul_comm]⟩
  have up : NoDiv left (d + 1) := by
    intro k k2 kd hk
    rcases (show k < d ∨ k = d by omega) with h | h
    · exact hn k k2 h (Int.dvd_trans hk hl)
    · subst h; exact fmod_ne hz hk
  by_cases e : d = 2
  · rw [if_pos e] at hd
    subst hd
    subst e
    exact ⟨up, by omega, by omega⟩
  · rw [if_neg e] at hd
    subst hd
    refine ⟨?_, by omega, by omega⟩
    intro k k2 kd hk
    rcases (show k < d + 1 ∨ k = d + 1 by omega) with h | h
    · exact up k k2 h hk
    · subst h
      refine up 2 (by omega) (by omega) (Int.dvd_trans ?_ hk)
      omega
theorem out_none {n left₀ left d often : Int} {xs : List (Int × Int)} (h : Out n left₀ d xs) (hi : Inn left₀ d left often) (h2 : 2 ≤ d) (o : often = 0) (hz : Int.fmod left d ≠ 0) {d' : Int} (hd : d' = if d = 2 then 3 else d + 2) : Out n left d' xs := by
  obtain ⟨a, b, c⟩ := nodiv_next hi h2 h.odd h.no hz d' hd
  refine ⟨h.all, h.rise, fun x hx => by have := h.below x hx; omega, ?_, a, b⟩
  have e := hi.eq
  subst o
  simp at e
  rw [← e]
  exact h.prod
theorem out_some {n left₀ left d often : Int} {xs : List (Int × Int)} (h : Out n left₀ d xs) (hi : Inn left₀ d left often) (h2 : 2 ≤ d) (o : 0 < often) (hz : Int.fmod left d ≠ 0) {d' : Int} (hd : d' = if d = 2 then 3 else d + 2) : Out n left d' (xs ++ [(d, often)]) := by
  obtain ⟨a, b, c⟩ := nodiv_next hi h2 h.odd h.no hz d' hd
  have dv : d ∣ left₀ := by
    obtain ⟨k, hk⟩ : ∃ k, often.toNat = k + 1 := ⟨often.toNat - 1, by omega⟩
    refine ⟨d ^ k * left, ?_⟩
    rw [hi.eq, hk, Int.pow_succ, Int.mul_comm (d ^ k) d, Int.mul_assoc]
  refine ⟨?_, ?_, ?_, ?_, a, b⟩
  · intro x hx
    rcases List.mem_append.mp hx with hx | hx
    · exact h.all x hx
    · rw [List.mem_singleton.mp hx]
      exact ⟨prm_of h2 h.no dv, by omega⟩
  · refine List.pairwise_append.mpr ⟨h.rise, List.pairwise_singleton _ _, ?_⟩
    intro x hx y hy
    rw [List.mem_singleton.mp hy]
    exact h.below x hx
  · intro x hx
    rcases List.mem_append.mp hx with hx | hx
    · have := h.below x hx; omega
    · rw [List.mem_singleton.mp hx]; exact c
  · rw [prodP_app, prodP_one, Int.mul_assoc, ← hi.eq]
    exact h.prod
theorem told_last {n left d : Int} {xs : List (Int × Int)} (h : Out n left d xs) (h2 : 2 ≤ d) (hx : left < d * d) (l1 : 1 < left) : Told n (xs ++ [(left, 1)]) := by
  refine ⟨?_, ?_, ?_⟩
  · intro x hx'
    rcases List.mem_append.mp hx' with hx' | hx'
    · exact h.all x hx'
    · rw [List.mem_singleton.mp hx']
      exact ⟨prm_left h2 h.no hx l1, by omega⟩
  · refine List.pairwise_append.mpr ⟨h.rise, List.pairwise_singleton _ _, ?_⟩
    intro x hx' y hy
    rw [List.mem_singleton.mp hy]
    have := h.below x hx'
    have := left_ge h.no l1
    show x.1 < left
    omega
  · rw [prodP_app, prodP_one, show (1 : Int).toNat = 1 from rfl, Int.pow_one]
    exact h.prod
theorem told_none {n left d : Int} {xs : List (Int × Int)} (h : Out n left d xs) (l1 : left = 1) : Told n xs := by
  refine ⟨h.all, h.rise, ?_⟩
  have := h.prod
  subst l1
  omega
theorem len_le {xs : List (Int × Int)} (h : ∀ x ∈ xs, Part x) : (2 : Int) ^ xs.length ≤ prodP xs := by
  induction xs with
  | nil => simp [prodP]
  | cons x r ih =>
    have h1 := ih fun y hy => h y (.tail _ hy)
    have hp := (h x (.head _)).prime.two
    have ho := (h x (.head _)).often
    simp only [prodP, List.length_cons]
    rw [Int.pow_succ, Int.mul_comm]
    obtain ⟨k, hk⟩ : ∃ k, x.2.toNat = k + 1 := ⟨x.2.toNat - 1, by omega⟩
    have : 2 ≤ x.1 ^ x.2.toNat := by
      rw [hk, Int.pow_succ, Int.mul_comm]
      exact mul_ge (pow_pos' (by omega) k) hp (by omega)
    exact Int.mul_le_mul this h1 (by have := pow_pos' (show (1 : Int) ≤ 2 by omega) r.length; omega) (by omega)
theorem prm_one_or {p k : Int} (h : Prm p) (k1 : 1 ≤ k) (hk : k ∣ p) : k = 1 ∨ k = p := by
  have p2 := h.two
  obtain ⟨m, hm⟩ := hk
  rcases (show k = 1 ∨ 2 ≤ k by omega) with e | k2
  · exact .inl e
  · have m1 : 1 ≤ m := by
      rcases Int.lt_or_le m 1 with h1 | h1
      · have := Int.mul_le_mul_of_nonneg_left (show m ≤ 0 by omega) (show 0 ≤ k by omega)
        omega
      · exact h1
    rcases (show m = 1 ∨ 2 ≤ m by omega) with e | m2
    · subst e; exact .inr (by omega)
    · exfalso
      rcases Int.le_total k m with hle | hle
      · have := Int.mul_le_mul_of_nonneg_left hle (show 0 ≤ k by omega)
        exact h.no k k2 (by omega) ⟨m, hm⟩
      · have := Int.mul_le_mul_of_nonneg_right hle (show 0 ≤ m by omega)
        exact h.no m m2 (by omega) ⟨k, by rw [hm, Int.mul_comm]⟩
theorem prm_coprime {p x : Int} (h : Prm p) (hx : ¬ p ∣ x) : Nat.Coprime p.natAbs x.natAbs := by
  have p2 := h.two
  have g1 : (Nat.gcd p.natAbs x.natAbs) ∣ p.natAbs := Nat.gcd_dvd_left _ _
  have g2 : (Nat.gcd p.natAbs x.natAbs) ∣ x.natAbs := Nat.gcd_dvd_right _ _
  have g0 : 0 < Nat.gcd p.natAbs x.natAbs := Nat.gcd_pos_of_pos_left _ (by omega)
  show Nat.gcd p.natAbs x.natAbs = 1
  generalize Nat.gcd p.natAbs x.natAbs = g at g0 g1 g2
  have d1 : (g : Int) ∣ p := Int.ofNat_dvd_left.mpr g1
  rcases prm_one_or h (by omega) d1 with e | e
  · omega
  · exfalso
    apply hx
    rw [← e]
    exact Int.ofNat_dvd_left.mpr g2
theorem euclid {p x y : Int} (h : Prm p) (hd : p ∣ x * y) : p ∣ x ∨ p ∣ y := by
  by_cases hx : p ∣ x
  · exact .inl hx
  · right
    have c := prm_coprime h hx
    have d : p.natAbs ∣ x.natAbs * y.natAbs := by
      rw [← Int.natAbs_mul]
      exact Int.natAbs_dvd_natAbs.mpr hd
    exact Int.natAbs_dvd_natAbs.mp (c.dvd_of_dvd_mul_left d)
theorem prm_dvd_prm {p q : Int} (h : Prm p) (k : Prm q) (hd : p ∣ q) : p = q := by
  rcases prm_one_or k (by have := h.two; omega) hd with e | e
  · have := h.two; omega
  · exact e
theorem prm_not_one {p : Int} (h : Prm p) : ¬ p ∣ 1 := fun hd => by
  have := Int.le_of_dvd (by omega) hd
  have := h.two
  omega
theorem prm_dvd_pow {p q : Int} (h : Prm p) : ∀ n : Nat, p ∣ q ^ n → p ∣ q
  | 0, hd => absurd (by simpa using hd) (prm_not_one h)
  | n + 1, hd => by
    rw [Int.pow_succ] at hd
    rcases euclid h hd with e | e
    · exact prm_dvd_pow h n e
    · exact e
theorem prm_in {p : Int} (h : Prm p) {xs : List (Int × Int)} (hx : ∀ x ∈ xs, Part x) (hd : p ∣ prodP xs) : ∃ x ∈ xs, x.1 = p := by
  induction xs with
  | nil => exact absurd hd (prm_not_one h)
  | cons x r ih =>
    simp only [prodP] at hd
    rcases euclid h hd with e | e
    · exact ⟨x, .head _, (prm_dvd_prm h (hx x (.head _)).prime (prm_dvd_pow h _ e)).symm⟩
    · obtain ⟨y, hy, e⟩ := ih (fun y hy => hx y (.tail _ hy)) e
      exact ⟨y, .tail _ hy, e⟩
def coreP : List (Int × Int) → Int
  | [] => 1
  | x :: r => (if x.2 % 2 = 1 then x.1 else 1) * coreP r
def rootP : List (Int × Int) → Int
  | [] => 1
  | x :: r => x.1 ^ (x.2 / 2).toNat * rootP r
theorem not_in_tail {x : Int × Int} {r : List (Int × Int)} (hx : ∀ y ∈ x :: r, Part y) (hr : (x :: r).Pairwise fun x y => x.1 < y.1) : ¬ x.1 ∣ prodP r := by
  intro hd
  obtain ⟨y, hy, e⟩ := prm_in (hx x (.head _)).prime (fun y hy => hx y (.tail _ hy)) hd
  have := (List.pairwise_cons.mp hr).1 y hy
  omega
theorem pow_cancel {p A B : Int} (h : Prm p) (hA : ¬ p ∣ A) (hB : ¬ p ∣ B) : ∀ a b : Nat, p ^ a * A = p ^ b * B → a = b ∧ A = B
  | 0, 0, e => ⟨rfl, by simpa using e⟩
  | 0, b + 1, e => by
    exfalso
    apply hA
    refine ⟨p ^ b * B, ?_⟩
    rw [Int.pow_zero, Int.one_mul, Int.pow_succ, Int.mul_comm (p ^ b) p, Int.mul_assoc] at e
    exact e
  | a + 1, 0, e => by
    exfalso
    apply hB
    refine ⟨p ^ a * A, ?_⟩
    rw [Int.pow_zero, Int.one_mul, Int.pow_succ, Int.mul_comm (p ^ a) p, Int.mul_assoc] at e
    exact e.symm
  | a + 1, b + 1, e => by
    rw [Int.pow_succ, Int.pow_succ, Int.mul_comm (p ^ a) p, Int.mul_comm (p ^ b) p, Int.mul_assoc, Int.mul_assoc] at e
    have := Int.eq_of_mul_eq_mul_left (by have := h.two; omega) e
    obtain ⟨h1, h2⟩ := pow_cancel h hA hB a b this
    exact ⟨by omega, h2⟩
theorem told_cons_dvd {x : Int × Int} {r : List (Int × Int)} (hx : Part x) : x.1 ∣ prodP (x :: r) := by
  obtain ⟨k, hk⟩ : ∃ k, x.2.toNat = k + 1 := ⟨x.2.toNat - 1, by have := hx.often; omega⟩
  refine ⟨x.1 ^ k * prodP r, ?_⟩
  simp only [prodP]
  rw [hk, Int.pow_succ, Int.mul_comm (x.1 ^ k), Int.mul_assoc]
theorem told_unique : ∀ (xs ys : List (Int × Int)), (∀ x ∈ xs, Part x) → xs.Pairwise (fun x y => x.1 < y.1) → (∀ y ∈ ys, Part y) → ys.Pairwise (fun x y => x.1 < y.1) → prodP xs = prodP ys → xs = ys
  | [], [], _, _, _, _, _ => rfl
  | [], y :: s, _, _, hy, _, e => by
    exfalso
    exact prm_not_one (hy y (.head _)).prime (by have h := told_cons_dvd (r := s) (hy y (.head _)); rw [← e] at h; exact h)
  | x :: r, [], hx, _, _, _, e => by
    exfalso
    exact prm_not_one (hx x (.head _)).prime (by have h := told_cons_dvd (r := r) (hx x (.head _)); rw [e] at h; exact h)
  | x :: r, y :: s, hx, hr, hy, hs, e => by
    have h1 : x.1 = y.1 := by
      obtain ⟨y', hy', e1⟩ := prm_in (hx x (.head _)).prime hy (e ▸ told_cons_dvd (hx x (.head _)))
      obtain ⟨x', hx', e2⟩ := prm_in (hy y (.head _)).prime hx (e.symm ▸ told_cons_dvd (hy y (.head _)))
      have a : y.1 ≤ y'.1 := by
        rcases List.mem_cons.mp hy' with rfl | h
        · omega
        · have := (List.pairwise_cons.mp hs).1 y' h; omega
      have b : x.1 ≤ x'.1 := by
        rcases List.mem_cons.mp hx' with rfl | h
        · omega
        · have := (List.pairwise_cons.mp hr).1 x' h; omega
      omega
    have nx := not_in_tail hx hr
    have ny := not_in_tail hy hs
    simp only [prodP] at e
    rw [← h1] at e ny
    obtain ⟨h2, h3⟩ := pow_cancel (hx x (.head _)).prime nx ny _ _ e
    have o1 := (hx x (.head _)).often
    have o2 := (hy y (.head _)).often
    have h4 := told_unique r s (fun z hz => hx z (.tail _ hz)) (List.pairwise_cons.mp hr).2 (fun z hz => hy z (.tail _ hz)) (List.pairwise_cons.mp hs).2 h3
    have h5 : x = y := Prod.ext h1 (by omega)
    rw [h4, h5]
end Pr

namespace Jc
def S (f : Nat → Nat) : Nat → Nat
  | 0 => 0
  | m + 1 => S f m + f (m + 1)
theorem S_add (f g : Nat → Nat) : ∀ m, S (fun k => f k + g k) m = S f m + S g m
  | 0 => rfl
  | m + 1 => by simp only [S]; rw [S_add f g m]; omega
theorem S_congr {f g : Nat → Nat} : ∀ {m}, (∀ k, 1 ≤ k → k ≤ m → f k = g k) → S f m = S g m
  | 0, _ => rfl
  | m + 1, h => by
    simp only [S]
    rw [S_congr (m := m) fun k h1 h2 => h k h1 (by omega), h (m + 1) (by omega) (Nat.le_refl _)]
theorem S_const (c : Nat) : ∀ m, S (fun _ => c) m = m * c
  | 0 => by simp [S]
  | m + 1 => by simp only [S]; rw [S_const c m, Nat.succ_mul]
theorem S_mul (c : Nat) (f : Nat → Nat) : ∀ m, S (fun k => c * f k) m = c * S f m
  | 0 => by simp [S]
  | m + 1 => by simp only [S]; rw [S_mul c f m, Nat.mul_add]
theorem S_swap (f : Nat → Nat → Nat) (p : Nat) : ∀ m, S (fun k => S (fun j => f k j) p) m = S (fun j => S (fun k => f k j) m) p
  | 0 => by
    simp only [S]
    rw [S_const 0 p, Nat.mul_zero]
  | m + 1 => by
    simp only [S]
    rw [S_swap f p m, ← S_add]
theorem S_mod {f g : Nat → Nat} : ∀ {m}, (∀ k, 1 ≤ k → k ≤ m → f k % 2 = g k % 2) → S f m % 2 = S g m % 2
  | 0, _ => rfl
  | m + 1, h => by
    simp only [S]
    have h1 := S_mod (m := m) fun k h1 h2 => h k h1 (by omega)
    have h2 := h (m + 1) (by omega) (Nat.le_refl _)
    omega
theorem S_list (f : Nat → Nat) : ∀ m, S f m = ((List.range' 1 m).map f).sum
  | 0 => rfl
  | m + 1 => by
    simp only [S]
    rw [S_list f m, List.range'_concat, List.map_append, List.sum_append_nat]
    simp [Nat.add_comm]
theorem perm_of {l1 : List Nat} : ∀ {l2 : List Nat}, l1.Nodup → (∀ x ∈ l1, x ∈ l2) → l2.length ≤ l1.length → l1.Perm l2 := by
  induction l1 with
  | nil =>
    intro l2 _ _ h
    have : l2 = [] := List.eq_nil_of_length_eq_zero (by simpa using h)
    subst this
    exact .nil
  | cons x t ih =>
    intro l2 nd sub len
    have hx := sub x (List.mem_cons_self)
    have p := List.perm_cons_erase hx
    have nd' := List.nodup_cons.mp nd
    have q : t.Perm (l2.erase x) := ih nd'.2 (fun y hy => by
      have h1 := sub y (List.mem_cons_of_mem _ hy)
      have ne : y ≠ x := fun e => nd'.1 (e ▸ hy)
      exact (List.mem_erase_of_ne ne).mpr h1) (by
      have h1 := List.length_erase_of_mem hx
      have h2 : (x :: t).length = t.length + 1 := rfl
      omega)
    exact (List.Perm.cons x q).trans p.symm
theorem S_perm (f p : Nat → Nat) {m : Nat} (hin : ∀ k, 1 ≤ k → k ≤ m → 1 ≤ p k ∧ p k ≤ m) (inj : ∀ k l, 1 ≤ k → k ≤ m → 1 ≤ l → l ≤ m → p k = p l → k = l) : S (fun k => f (p k)) m = S f m := by
  rw [S_list, S_list]
  have e : (List.range' 1 m).map (fun k => f (p k)) = ((List.range' 1 m).map p).map f := by rw [List.map_map]; rfl
  rw [e]
  refine List.Perm.sum_nat (List.Perm.map f (perm_of ?_ ?_ ?_))
  · refine List.pairwise_map.mpr ?_
    have h0 : (List.range' 1 m).Nodup := List.nodup_range'
    refine List.Pairwise.imp_of_mem ?_ h0
    intro a b ha hb ne he
    have ha' := List.mem_range'_1.mp ha
    have hb' := List.mem_range'_1.mp hb
    exact ne (inj a b ha'.1 (by omega) hb'.1 (by omega) he)
  · intro x hx
    obtain ⟨k, hk, rfl⟩ := List.mem_map.mp hx
    have hk' := List.mem_range'_1.mp hk
    have := hin k hk'.1 (by omega)
    exact List.mem_range'_1.mpr ⟨this.1, by omega⟩
  · rw [List.length_map]
    exact Nat.le_refl _

def e (a n k : Nat) : Nat := if n < 2 * (a * k % n) then 1 else 0
def pi (a n k : Nat) : Nat := if n < 2 * (a * k % n) then n - a * k % n else a * k % n
def mu (a n : Nat) : Nat := S (e a n) (n / 2)
theorem e_mod (a n k : Nat) : e (a % n) n k = e a n k := by
  unfold e
  rw [← Nat.mod_mul_mod, Nat.mod_mod] <;> simp [Nat.mul_mod]
theorem mu_mod (a n : Nat) : mu (a % n) n = mu a n := by
  unfold mu
  exact S_congr fun k _ _ => e_mod a n k
structure Ok (a n : Nat) : Prop where
  odd : n % 2 = 1
  cop : Nat.gcd a n = 1
theorem dvd_of_mul {a n k : Nat} (c : Nat.gcd a n = 1) (h : n ∣ a * k) : n ∣ k := by
  have c' : Nat.Coprime n a := by rw [Nat.coprime_iff_gcd_eq_one, Nat.gcd_comm]; exact c
  exact c'.dvd_of_dvd_mul_left h
theorem rest_pos {a n k : Nat} (o : Ok a n) (k1 : 1 ≤ k) (k2 : k ≤ n / 2) : 0 < a * k % n := by
  rcases Nat.eq_zero_or_pos (a * k % n) with h | h
  · have := dvd_of_mul o.cop (Nat.dvd_of_mod_eq_zero h)
    have := Nat.le_of_dvd (by omega) this
    have := o.odd
    omega
  · exact h
theorem pi_in {a n k : Nat} (o : Ok a n) (k1 : 1 ≤ k) (k2 : k ≤ n / 2) : 1 ≤ pi a n k ∧ pi a n k ≤ n / 2 := by
  have h := rest_pos o k1 k2
  have h2 : a * k % n < n := Nat.mod_lt _ (by have := o.odd; omega)
  have := o.odd
  unfold pi
  split <;> omega
theorem mod_eq_sub {x y n : Nat} (h : x % n = y % n) : n ∣ x - y := by
  rcases Nat.le_total y x with l | l
  · exact (Nat.dvd_iff_mod_eq_zero).mpr (Nat.sub_mod_eq_zero_of_mod_eq h)
  · rw [Nat.sub_eq_zero_of_le l]; exact Nat.dvd_zero n
theorem pi_inj {a n k l : Nat} (o : Ok a n) (k1 : 1 ≤ k) (k2 : k ≤ n / 2) (l1 : 1 ≤ l) (l2 : l ≤ n / 2) (h : pi a n k = pi a n l) : k = l := by
  have n0 : 0 < n := by have := o.odd; omega
  have a1 : a * k % n < n := Nat.mod_lt _ n0
  have a2 : a * l % n < n := Nat.mod_lt _ n0
  have no := o.odd
  have same : a * k % n = a * l % n → k = l := fun q => by
    rcases Nat.le_total l k with z | z
    · have d := mod_eq_sub q
      rw [← Nat.mul_sub] at d
      have d2 := dvd_of_mul o.cop d
      rcases Nat.eq_zero_or_pos (k - l) with w | w
      · omega
      · have := Nat.le_of_dvd w d2
        omega
    · have d := mod_eq_sub q.symm
      rw [← Nat.mul_sub] at d
      have d2 := dvd_of_mul o.cop d
      rcases Nat.eq_zero_or_pos (l - k) with w | w
      · omega
      · have := Nat.le_of_dvd w d2
        omega
  have other : a * k % n + a * l % n = n → False := fun q => by
    have d : n ∣ a * (k + l) := by
      rw [Nat.mul_add]
      refine Nat.dvd_of_mod_eq_zero ?_
      rw [Nat.add_mod, q, Nat.mod_self]
    have := Nat.le_of_dvd (by omega) (dvd_of_mul o.cop d)
    omega
  unfold pi at h
  split at h <;> split at h
  · exact same (by omega)
  · exact (other (by omega)).elim
  · exact (other (by omega)).elim
  · exact same h
theorem e_le (a n k : Nat) : e a n k ≤ 1 := by unfold e; split <;> omega
theorem e_neg {a n k : Nat} (no : n % 2 = 1) (hr : 0 < a * k % n) (r : Nat) (hr2 : (r + a * k) % n = 0) : (if n < 2 * (r % n) then 1 else 0) = 1 - e a n k := by
  have n0 : 0 < n := by omega
  have h1 : a * k % n < n := Nat.mod_lt _ n0
  have h2 : r % n < n := Nat.mod_lt _ n0
  rw [Nat.add_mod] at hr2
  have h3 : r % n + a * k % n = n := by
    have d := Nat.dvd_of_mod_eq_zero hr2
    obtain ⟨q, hq⟩ := d
    have : q = 1 := by
      rcases q with _ | _ | q
      · omega
      · rfl
      · have : n * (q + 1 + 1) = n * q + 2 * n := by rw [Nat.mul_add, Nat.mul_add]; omega
        have := Nat.zero_le (n * q)
        omega
    subst this
    omega
  unfold e
  split <;> split <;> omega
theorem e_mul {a b n k : Nat} (o : Ok a n) (ob : Ok b n) (k1 : 1 ≤ k) (k2 : k ≤ n / 2) : e (a * b) n k % 2 = (e b n k + e a n (pi b n k)) % 2 := by
  have no := o.odd
  have n0 : 0 < n := by omega
  have pin := pi_in ob k1 k2
  have hb : b * k % n < n := Nat.mod_lt _ n0
  have key : a * b * k % n = a * (b * k % n) % n := by rw [Nat.mul_assoc, Nat.mul_mod, Nat.mul_mod a (b * k % n), Nat.mod_mod]
  by_cases c : n < 2 * (b * k % n)
  · have e1 : e b n k = 1 := by unfold e; rw [if_pos c]
    have e2 : pi b n k = n - b * k % n := by unfold pi; rw [if_pos c]
    have r := rest_pos o pin.1 pin.2
    have z : (a * (b * k % n) + a * pi b n k) % n = 0 := by
      rw [← Nat.mul_add, e2, Nat.add_sub_cancel' (Nat.le_of_lt hb), Nat.mul_mod_left]
    have := e_neg no r (a * (b * k % n)) z
    have e3 : e (a * b) n k = 1 - e a n (pi b n k) := by
      rw [← this]
      unfold e
      rw [key]
    have := e_le a n (pi b n k)
    omega
  · have e1 : e b n k = 0 := by unfold e; rw [if_neg c]
    have e2 : pi b n k = b * k % n := by unfold pi; rw [if_neg c]
    have e3 : e (a * b) n k = e a n (pi b n k) := by
      unfold e
      rw [key, e2]
    omega
theorem mu_mul {a b n : Nat} (o : Ok a n) (ob : Ok b n) : mu (a * b) n % 2 = (mu a n + mu b n) % 2 := by
  unfold mu
  rw [S_mod (g := fun k => e b n k + e a n (pi b n k)) fun k h1 h2 => e_mul o ob h1 h2, S_add, S_perm (e a n) (pi b n) (fun k h1 h2 => pi_in ob h1 h2) fun k l h1 h2 h3 h4 h => pi_inj ob h1 h2 h3 h4 h, Nat.add_comm]
theorem mu_one {n : Nat} (no : n % 2 = 1) : mu 1 n = 0 := by
  unfold mu
  rw [S_congr (g := fun _ => 0), S_const, Nat.mul_zero]
  intro k k1 k2
  unfold e
  rw [Nat.one_mul, Nat.mod_eq_of_lt (by omega), if_neg (by omega)]
theorem S_count (n x : Nat) (n0 : 0 < n) : ∀ m, S (fun j => if j * n ≤ x then 1 else 0) m = min m (x / n)
  | 0 => by simp [S]
  | m + 1 => by
    simp only [S]
    rw [S_count n x n0 m]
    have h : (m + 1) * n ≤ x ↔ m + 1 ≤ x / n := (Nat.le_div_iff_mul_le n0).symm
    split
    · next c =>
      have := h.mp c
      omega
    · next c =>
      have : ¬ m + 1 ≤ x / n := fun z => c (h.mpr z)
      omega
theorem mu_two {n : Nat} (no : n % 2 = 1) : mu 2 n = n / 2 - n / 4 := by
  unfold mu
  have h : S (fun k => (if k * 4 ≤ n then 1 else 0) + e 2 n k) (n / 2) = S (fun _ => 1) (n / 2) := S_congr fun k k1 k2 => by
    unfold e
    rw [Nat.mod_eq_of_lt (by omega)]
    split <;> split <;> omega
  rw [S_add, S_count 4 n (by decide), S_const] at h
  omega
theorem mu_floor {a n : Nat} (o : Ok a n) (ao : a % 2 = 1) : mu a n % 2 = S (fun k => a * k / n) (n / 2) % 2 := by
  have no := o.odd
  have n0 : 0 < n := by omega
  have h1 : S (fun k => a * k) (n / 2) = S (fun k => n * (a * k / n) + a * k % n) (n / 2) := S_congr fun k _ _ => (Nat.div_add_mod _ _).symm
  rw [S_add, S_mul, S_mul] at h1
  have h2 : S (fun k => a * k % n) (n / 2) % 2 = S (fun k => pi a n k + e a n k) (n / 2) % 2 := S_mod fun k k1 k2 => by
    have : a * k % n < n := Nat.mod_lt _ n0
    unfold pi e
    split <;> omega
  rw [S_add, S_perm (fun k => k) (pi a n) (fun k h1 h2 => pi_in o h1 h2) fun k l h1 h2 h3 h4 h => pi_inj o h1 h2 h3 h4 h] at h2
  have h3 : S (e a n) (n / 2) = mu a n := rfl
  rw [h3] at h2
  have m1 : a * S (fun k => k) (n / 2) % 2 = S (fun k => k) (n / 2) % 2 := by rw [Nat.mul_mod, ao, Nat.one_mul, Nat.mod_mod]
  have m2 : n * S (fun k => a * k / n) (n / 2) % 2 = S (fun k => a * k / n) (n / 2) % 2 := by rw [Nat.mul_mod, no, Nat.one_mul, Nat.mod_mod]
  omega
theorem lattice {a n : Nat} (ao : a % 2 = 1) (no : n % 2 = 1) (c : Nat.gcd a n = 1) : S (fun k => a * k / n) (n / 2) + S (fun j => n * j / a) (a / 2) = (n / 2) * (a / 2) := by
  have n0 : 0 < n := by omega
  have a0 : 0 < a := by omega
  have half : ∀ {a n k : Nat}, a % 2 = 1 → n % 2 = 1 → k ≤ n / 2 → a * k / n ≤ a / 2 := fun {a n k} ao no h => by
    have n0 : 0 < n := by omega
    have h1 : a * k ≤ a * (n / 2) := Nat.mul_le_mul_left a h
    have h2 : 2 * (a * (n / 2)) = a * (n - 1) := by
      rw [← Nat.mul_assoc, Nat.mul_comm 2 a, Nat.mul_assoc]
      congr 1
      omega
    have h3 : a * (n - 1) < a * n := Nat.mul_lt_mul_of_pos_left (by omega) (by omega)
    have h4 : a * k / n * n ≤ a * k := Nat.div_mul_le_self _ _
    rcases Nat.lt_or_ge (a / 2) (a * k / n) with z | z
    · have h5 : (a / 2 + 1) * n ≤ a * k / n * n := Nat.mul_le_mul_right n z
      have h6 : 2 * ((a / 2 + 1) * n) = (a + 1) * n := by
        rw [← Nat.mul_assoc]
        congr 1
        omega
      have h7 : (a + 1) * n = a * n + n := by rw [Nat.add_mul, Nat.one_mul]
      omega
    · exact z
  have e1 : S (fun k => a * k / n) (n / 2) = S (fun k => S (fun j => if j * n ≤ a * k then 1 else 0) (a / 2)) (n / 2) := S_congr fun k k1 k2 => by
    rw [S_count n (a * k) n0]
    have := half ao no k2
    omega
  have e2 : S (fun j => n * j / a) (a / 2) = S (fun j => S (fun k => if k * a ≤ n * j then 1 else 0) (n / 2)) (a / 2) := S_congr fun j j1 j2 => by
    rw [S_count a (n * j) a0]
    have := half no ao j2
    omega
  rw [e1, e2, S_swap (fun j k => if k * a ≤ n * j then 1 else 0), ← S_add]
  rw [S_congr (g := fun _ => a / 2), S_const]
  intro k k1 k2
  rw [← S_add, S_congr (g := fun _ => 1), S_const, Nat.mul_one]
  intro j j1 j2
  have ne : j * n ≠ a * k := fun z => by
    have d : n ∣ a * k := ⟨j, by rw [← z, Nat.mul_comm]⟩
    have := Nat.le_of_dvd (by omega) (dvd_of_mul c d)
    omega
  have c1 : k * a = a * k := Nat.mul_comm _ _
  have c2 : n * j = j * n := Nat.mul_comm _ _
  rw [c1, c2]
  split <;> split <;> omega
theorem mu_turn {a n : Nat} (ao : a % 2 = 1) (no : n % 2 = 1) (c : Nat.gcd a n = 1) : (mu a n + mu n a) % 2 = (n / 2) * (a / 2) % 2 := by
  have h1 := mu_floor ⟨no, c⟩ ao
  have h2 := mu_floor (a := n) (n := a) ⟨ao, by rw [Nat.gcd_comm]; exact c⟩ no
  have h3 := lattice ao no c
  omega

def sg (k : Nat) : Int := if k % 2 = 0 then 1 else -1
theorem sg_add (k l : Nat) : sg (k + l) = sg k * sg l := by
  unfold sg
  split <;> split <;> split <;> omega
theorem sg_mod {k l : Nat} (h : k % 2 = l % 2) : sg k = sg l := by unfold sg; rw [h]
theorem sg_sq (k : Nat) : sg k * sg k = 1 := by unfold sg; split <;> rfl
theorem sg_or (k : Nat) : sg k = 1 ∨ sg k = -1 := by unfold sg; split <;> simp
def jac (a n : Nat) : Int := if Nat.gcd a n = 1 then sg (mu a n) else 0
theorem jac_cop {a n : Nat} (h : Nat.gcd a n = 1) : jac a n = sg (mu a n) := if_pos h
theorem jac_not {a n : Nat} (h : Nat.gcd a n ≠ 1) : jac a n = 0 := if_neg h
theorem gcd_mod (a n : Nat) : Nat.gcd (a % n) n = Nat.gcd a n := by rw [← Nat.gcd_rec, Nat.gcd_comm]
theorem jac_mod (a n : Nat) : jac (a % n) n = jac a n := by
  by_cases c : Nat.gcd a n = 1
  · rw [jac_cop c, jac_cop ((gcd_mod a n).trans c), mu_mod]
  · rw [jac_not c, jac_not fun z => c ((gcd_mod a n).symm.trans z)]
theorem jac_mul {n : Nat} (no : n % 2 = 1) (a b : Nat) : jac (a * b) n = jac a n * jac b n := by
  by_cases c : Nat.gcd (a * b) n = 1
  · obtain ⟨c1, c2⟩ := Nat.coprime_mul_iff_left.mp (Nat.coprime_iff_gcd_eq_one.mpr c)
    have d1 := Nat.coprime_iff_gcd_eq_one.mp c1
    have d2 := Nat.coprime_iff_gcd_eq_one.mp c2
    rw [jac_cop c, jac_cop d1, jac_cop d2, ← sg_add]
    exact sg_mod (mu_mul ⟨no, d1⟩ ⟨no, d2⟩)
  · rw [jac_not c]
    by_cases d1 : Nat.gcd a n = 1
    · by_cases d2 : Nat.gcd b n = 1
      · exact absurd (Nat.coprime_iff_gcd_eq_one.mp (Nat.Coprime.mul_left (Nat.coprime_iff_gcd_eq_one.mpr d1) (Nat.coprime_iff_gcd_eq_one.mpr d2))) c
      · rw [jac_not d2, Int.mul_zero]
    · rw [jac_not d1, Int.zero_mul]
theorem jac_one {n : Nat} (no : n % 2 = 1) : jac 1 n = 1 := by
  rw [jac_cop (Nat.gcd_one_left n), mu_one no]
  rfl
theorem jac_by1 (a : Nat) : jac a 1 = 1 := by
  rw [jac_cop (Nat.gcd_one_right a)]
  rfl
theorem jac_zero {n : Nat} (h : n ≠ 1) : jac 0 n = 0 := jac_not (by rw [Nat.gcd_zero_left]; exact h)
theorem jac_or (a n : Nat) : jac a n = 1 ∨ jac a n = 0 ∨ jac a n = -1 := by
  by_cases c : Nat.gcd a n = 1
  · rw [jac_cop c]
    rcases sg_or (mu a n) with h | h <;> rw [h] <;> simp
  · rw [jac_not c]
    simp
def two (n : Nat) : Int := if n % 8 = 3 ∨ n % 8 = 5 then -1 else 1
theorem jac_two {n : Nat} (no : n % 2 = 1) : jac 2 n = two n := by
  have c : Nat.gcd 2 n = 1 := by
    rw [Nat.gcd_rec, no]; rfl
  rw [jac_cop c, mu_two no]
  unfold sg two
  split <;> split <;> omega
def turn (a n : Nat) : Int := if a % 4 = 3 ∧ n % 4 = 3 then -1 else 1
theorem half_mul (a n : Nat) (ao : a % 2 = 1) (no : n % 2 = 1) : sg ((n / 2) * (a / 2)) = turn a n := by
  have h : (n / 2) * (a / 2) % 2 = (n / 2 % 2) * (a / 2 % 2) % 2 := by rw [Nat.mul_mod]
  unfold sg turn
  rw [h]
  have h1 : n / 2 % 2 = 0 ∨ n / 2 % 2 = 1 := by omega
  have h2 : a / 2 % 2 = 0 ∨ a / 2 % 2 = 1 := by omega
  rcases h1 with h1 | h1 <;> rcases h2 with h2 | h2 <;> rw [h1, h2] <;> simp <;> omega
theorem jac_turn {a n : Nat} (ao : a % 2 = 1) (no : n % 2 = 1) : jac a n = turn a n * jac n a := by
  by_cases c : Nat.gcd a n = 1
  · have c' : Nat.gcd n a = 1 := by rw [Nat.gcd_comm]; exact c
    rw [jac_cop c, jac_cop c', ← half_mul a n ao no]
    have h := sg_mod (mu_turn ao no c)
    rw [sg_add] at h
    rw [← h, Int.mul_assoc, sg_sq, Int.mul_one]
  · rw [jac_not c, jac_not (by rw [Nat.gcd_comm]; exact c), Int.mul_zero]
theorem jac_step {b o k : Nat} (bo : b % 2 = 1) (oo : o % 2 = 1) : jac (2 ^ k * o) b = (if k % 2 = 1 then two b else 1) * turn o b * jac (b % o) o := by
  have pw : ∀ k, jac (2 ^ k) b = if k % 2 = 1 then two b else 1 := by
    intro k
    induction k with
    | zero => rw [Nat.pow_zero, jac_one bo]; rfl
    | succ k ih =>
      rw [Nat.pow_succ, jac_mul bo, ih, jac_two bo]
      have t : two b * two b = 1 := by unfold two; split <;> rfl
      by_cases h : k % 2 = 1
      · rw [if_pos h, if_neg (by omega), t]
      · rw [if_neg h, if_pos (by omega), Int.one_mul]
  rw [jac_mul bo, pw, jac_mod, Int.mul_assoc, ← jac_turn oo bo]
end Jc

namespace Jc
@[irreducible] def J (x n : Int) : Int := jac (x % n).toNat n.toNat
theorem J_eq (x n : Int) : J x n = jac (x % n).toNat n.toNat := by unfold J; rfl
theorem J_mod {x y n : Int} (h : x % n = y % n) : J x n = J y n := by rw [J_eq, J_eq, h]
theorem J_nat {n : Int} (n0 : 0 < n) {x : Int} (x0 : 0 ≤ x) : J x n = jac x.toNat n.toNat := by
  rw [J_eq, Int.toNat_emod x0 (Int.le_of_lt n0), jac_mod]
theorem J_mul {n : Int} (n0 : 0 < n) (no : n % 2 = 1) (x y : Int) : J (x * y) n = J x n * J y n := by
  have hx := Int.emod_nonneg x (show n ≠ 0 by omega)
  have hy := Int.emod_nonneg y (show n ≠ 0 by omega)
  have e : J (x * y) n = J ((x % n) * (y % n)) n := J_mod (by rw [Int.mul_emod])
  rw [e, J_nat n0 (Int.mul_nonneg hx hy), Int.toNat_mul hx hy, jac_mul (by omega), J_eq, J_eq]
theorem J_one {n : Int} (n0 : 0 < n) (no : n % 2 = 1) : J 1 n = 1 := by
  rw [J_nat n0 (by decide)]
  exact jac_one (by omega)
theorem J_by1 (x : Int) : J x 1 = 1 := by
  rw [J_eq]
  exact jac_by1 _
theorem J_zero {n : Int} (n0 : 0 < n) (h : n ≠ 1) : J 0 n = 0 := by
  rw [J_nat n0 (by decide)]
  exact jac_zero (by omega)
theorem J_or (x n : Int) : J x n = 1 ∨ J x n = 0 ∨ J x n = -1 := by
  rw [J_eq]
  exact jac_or _ _
def twoI (n : Int) : Int := if n % 8 = 3 ∨ n % 8 = 5 then -1 else 1
def turnI (a n : Int) : Int := if a % 4 = 3 ∧ n % 4 = 3 then -1 else 1
theorem turn_eq {a n : Int} (a0 : 0 < a) (n0 : 0 < n) : turn a.toNat n.toNat = turnI a n := by
  unfold turn turnI
  split <;> split <;> omega
theorem two_eq {n : Int} (n0 : 0 < n) : two n.toNat = twoI n := by
  unfold two twoI
  split <;> split <;> omega
def GG (a b : Int) : Nat := Nat.gcd (a % b).toNat b.toNat
theorem J_cop {x n : Int} (h : GG x n = 1) : J x n * J x n = 1 := by
  have h' : Nat.gcd (x % n).toNat n.toNat = 1 := h
  rw [J_eq, jac_cop h', sg_sq]
theorem J_step {b l o : Int} (b0 : 0 < b) (bo : b % 2 = 1) (l0 : 0 < l) (lo : l % 2 = 1) (o0 : 0 ≤ o) : J (2 ^ o.toNat * l) b = (if o % 2 = 1 then twoI b else 1) * turnI l b * J (b % l) l := by
  have p : 0 < (2 : Int) ^ o.toNat * l := Int.mul_pos (Int.pow_pos (by decide)) l0
  have e : ((2 : Int) ^ o.toNat * l).toNat = 2 ^ o.toNat * l.toNat := by
    rw [Int.toNat_mul (Int.le_of_lt (Int.pow_pos (by decide))) (Int.le_of_lt l0)]
    congr 1
  rw [J_nat b0 (Int.le_of_lt p), e, jac_step (by omega) (by omega), J_nat l0 (Int.emod_nonneg _ (by omega)), Int.toNat_emod (Int.le_of_lt b0) (Int.le_of_lt l0), turn_eq l0 b0, two_eq b0]
  have : (o.toNat % 2 = 1) = (o % 2 = 1) := by
    apply propext
    omega
  simp only [this]
end Jc

namespace Jc
structure Dec (x p l o : Int) : Prop where
  eq : x = p ^ o.toNat * l
  o0 : 0 ≤ o
  nd : ¬ p ∣ l
theorem dec_aux {p l l' : Int} (p0 : p ≠ 0) (h : ¬ p ∣ l) (h' : ¬ p ∣ l') : ∀ k m : Nat, p ^ k * l = p ^ m * l' → k = m ∧ l = l'
  | 0, 0, e => by
    rw [Int.pow_zero, Int.one_mul, Int.one_mul] at e
    exact ⟨rfl, e⟩
  | 0, m + 1, e => by
    rw [Int.pow_zero, Int.one_mul, Int.pow_succ, Int.mul_comm (p ^ m) p, Int.mul_assoc] at e
    exact absurd ⟨_, e⟩ h
  | k + 1, 0, e => by
    rw [Int.pow_zero, Int.one_mul, Int.pow_succ, Int.mul_comm (p ^ k) p, Int.mul_assoc] at e
    exact absurd ⟨_, e.symm⟩ h'
  | k + 1, m + 1, e => by
    rw [Int.pow_succ, Int.pow_succ, Int.mul_comm (p ^ k) p, Int.mul_comm (p ^ m) p, Int.mul_assoc, Int.mul_assoc] at e
    obtain ⟨a, b⟩ := dec_aux p0 h h' k m (Int.eq_of_mul_eq_mul_left p0 e)
    exact ⟨by omega, b⟩
theorem Dec.unique {x p l o l' o' : Int} (p0 : p ≠ 0) (h : Dec x p l o) (h' : Dec x p l' o') : o = o' ∧ l = l' := by
  have e := h.eq.symm.trans h'.eq
  obtain ⟨a, b⟩ := dec_aux p0 h.nd h'.nd _ _ e
  have := h.o0
  have := h'.o0
  exact ⟨by omega, b⟩
theorem Dec.of_inn {x p l o : Int} (h : Pr.Inn x p l o) (o0 : 0 ≤ o) (z : l.fmod p ≠ 0) : Dec x p l o := ⟨h.eq, o0, fun d => z (Int.fmod_eq_zero_of_dvd d)⟩
def odd4 (p o1 l1 o2 l2 : Int) : Int := if o1 % 2 = 1 then (if o2 % 2 = 1 then J (-l1 * l2) p else J l2 p) else (if o2 % 2 = 1 then J l1 p else 1)
def two4 (o1 l1 o2 l2 : Int) : Int := turnI l1 l2 * (if o1 % 2 = 1 then twoI l2 else 1) * (if o2 % 2 = 1 then twoI l1 else 1)
def hs (p o1 l1 o2 l2 : Int) : Int := if p = 2 then two4 o1 l1 o2 l2 else odd4 p o1 l1 o2 l2
end Jc

namespace Jc
open Pr (Prm)
theorem dec_ex {p : Int} (p2 : 2 ≤ p) : ∀ (m : Nat) (x : Int), x ≠ 0 → x.natAbs ≤ m → ∃ l o, Dec x p l o
  | 0, x, x0, h => absurd (Int.natAbs_eq_zero.mp (by omega)) x0
  | m + 1, x, x0, h => by
    by_cases d : p ∣ x
    · obtain ⟨k, hk⟩ := d
      have k0 : k ≠ 0 := fun z => x0 (by rw [hk, z, Int.mul_zero])
      have e : x.natAbs = p.natAbs * k.natAbs := by rw [hk, Int.natAbs_mul]
      have : 2 * k.natAbs ≤ p.natAbs * k.natAbs := Nat.mul_le_mul_right _ (by omega)
      obtain ⟨l, o, D⟩ := dec_ex p2 m k k0 (by omega)
      refine ⟨l, o + 1, ⟨?_, by have := D.o0; omega, D.nd⟩⟩
      rw [show (o + 1).toNat = o.toNat + 1 by have := D.o0; omega, Int.pow_succ, hk, D.eq]
      grind
    · exact ⟨x, 0, ⟨by rw [show (0 : Int).toNat = 0 from rfl, Int.pow_zero, Int.one_mul], by decide, d⟩⟩
theorem Dec.mul {p x y l o l' o' : Int} (hp : Prm p) (h : Dec x p l o) (h' : Dec y p l' o') : Dec (x * y) p (l * l') (o + o') := by
  refine ⟨?_, by have := h.o0; have := h'.o0; omega, fun d => ?_⟩
  · rw [show (o + o').toNat = o.toNat + o'.toNat by have := h.o0; have := h'.o0; omega, Int.pow_add]
    have e1 := h.eq
    have e2 := h'.eq
    generalize p ^ o.toNat = A at e1 ⊢
    generalize p ^ o'.toNat = B at e2 ⊢
    subst e1
    subst e2
    grind
  · rcases Pr.euclid hp d with z | z
    · exact h.nd z
    · exact h'.nd z
theorem J_unit {p l : Int} (hp : Prm p) (h : ¬ p ∣ l) : J l p * J l p = 1 := by
  refine J_cop ?_
  have p2 := hp.two
  have c := Pr.prm_coprime hp (x := l % p) (fun d => h (by have e := Int.emod_add_mul_ediv l p; rw [← e]; exact Int.dvd_add d (Int.dvd_mul_right _ _)))
  have r0 := Int.emod_nonneg l (show p ≠ 0 by omega)
  unfold GG
  have c' := Nat.coprime_iff_gcd_eq_one.mp c
  rw [Nat.gcd_comm]
  rw [show p.toNat = p.natAbs by omega, show (l % p).toNat = (l % p).natAbs by omega]
  exact c'
theorem odd4_or {p o1 l1 o2 l2 : Int} (hp : Prm p) (po : p % 2 = 1) (n1 : ¬ p ∣ l1) (n2 : ¬ p ∣ l2) : odd4 p o1 l1 o2 l2 = 1 ∨ odd4 p o1 l1 o2 l2 = -1 := by
  have sq : ∀ l, ¬ p ∣ l → J l p = 1 ∨ J l p = -1 := fun l h => by
    have := J_unit hp h
    rcases J_or l p with z | z | z
    · exact .inl z
    · rw [z] at this; cases this
    · exact .inr z
  unfold odd4
  split <;> split
  · refine sq _ fun d => ?_
    rcases Pr.euclid hp d with z | z
    · exact n1 (Int.dvd_neg.mp z)
    · exact n2 z
  · exact sq _ n2
  · exact sq _ n1
  · exact .inl rfl
theorem odd4_sym (p o1 l1 o2 l2 : Int) : odd4 p o1 l1 o2 l2 = odd4 p o2 l2 o1 l1 := by
  unfold odd4
  have e : -l1 * l2 = -l2 * l1 := by grind
  split <;> split <;> simp_all
theorem odd4_mul {p o1 l1 o2 l2 o3 l3 : Int} (hp : Prm p) (po : p % 2 = 1) (n1 : ¬ p ∣ l1) : odd4 p o1 l1 (o2 + o3) (l2 * l3) = odd4 p o1 l1 o2 l2 * odd4 p o1 l1 o3 l3 := by
  have p0 : 0 < p := by have := hp.two; omega
  have u1 := J_unit hp n1
  have u2 := J_unit hp (l := -l1) (fun d => n1 (Int.dvd_neg.mp d))
  have m1 : ∀ x, J (-l1 * x) p = J (-l1) p * J x p := fun x => J_mul p0 po _ _
  have m2 := J_mul p0 po l2 l3
  unfold odd4
  rcases (show o2 % 2 = 0 ∨ o2 % 2 = 1 by omega) with h2 | h2 <;> rcases (show o3 % 2 = 0 ∨ o3 % 2 = 1 by omega) with h3 | h3
  · rw [if_neg (show ¬ (o2 + o3) % 2 = 1 by omega), if_neg (show ¬ (o2 + o3) % 2 = 1 by omega), if_neg (show ¬ o2 % 2 = 1 by omega), if_neg (show ¬ o2 % 2 = 1 by omega), if_neg (show ¬ o3 % 2 = 1 by omega), if_neg (show ¬ o3 % 2 = 1 by omega)]
    split
    · exact m2
    · rfl
  · rw [if_pos (show (o2 + o3) % 2 = 1 by omega), if_pos (show (o2 + o3) % 2 = 1 by omega), if_neg (show ¬ o2 % 2 = 1 by omega), if_neg (show ¬ o2 % 2 = 1 by omega), if_pos h3, if_pos h3]
    split
    · rw [m1, m1, m2]
      grind
    · rw [Int.one_mul]
  · rw [if_pos (show (o2 + o3) % 2 = 1 by omega), if_pos (show (o2 + o3) % 2 = 1 by omega), if_pos h2, if_pos h2, if_neg (show ¬ o3 % 2 = 1 by omega), if_neg (show ¬ o3 % 2 = 1 by omega)]
    split
    · rw [m1, m1, m2]
      grind
    · rw [Int.mul_one]
  · rw [if_neg (show ¬ (o2 + o3) % 2 = 1 by omega), if_neg (show ¬ (o2 + o3) % 2 = 1 by omega), if_pos h2, if_pos h2, if_pos h3, if_pos h3]
    split
    · rw [m1, m1, m2]
      grind
    · exact u1.symm
theorem tw (l : Int) : twoI l = 1 ∨ twoI l = -1 := by unfold twoI; split <;> simp
theorem tn (a b : Int) : turnI a b = 1 ∨ turnI a b = -1 := by unfold turnI; split <;> simp
theorem tw_sq (l : Int) : twoI l * twoI l = 1 := by rcases tw l with h | h <;> rw [h] <;> rfl
theorem tw_mul {a b : Int} (ha : a % 2 = 1) (hb : b % 2 = 1) : twoI (a * b) = twoI a * twoI b := by
  have e : a * b % 8 = (a % 8) * (b % 8) % 8 := Int.mul_emod a b 8
  unfold twoI
  rw [e]
  rcases (show a % 8 = 1 ∨ a % 8 = 3 ∨ a % 8 = 5 ∨ a % 8 = 7 by omega) with h | h | h | h <;> rcases (show b % 8 = 1 ∨ b % 8 = 3 ∨ b % 8 = 5 ∨ b % 8 = 7 by omega) with k | k | k | k <;> rw [h, k] <;> rfl
theorem tn_mul {c a b : Int} (hc : c % 2 = 1) (ha : a % 2 = 1) (hb : b % 2 = 1) : turnI c (a * b) = turnI c a * turnI c b := by
  have e : a * b % 4 = (a % 4) * (b % 4) % 4 := Int.mul_emod a b 4
  unfold turnI
  rw [e]
  rcases (show a % 4 = 1 ∨ a % 4 = 3 by omega) with h | h <;> rcases (show b % 4 = 1 ∨ b % 4 = 3 by omega) with k | k <;> rcases (show c % 4 = 1 ∨ c % 4 = 3 by omega) with j | j <;> rw [h, k, j] <;> rfl
theorem tn_sym (a b : Int) : turnI a b = turnI b a := by
  unfold turnI
  by_cases h : a % 4 = 3 <;> by_cases k : b % 4 = 3 <;> simp [h, k]
theorem two4_or (o1 l1 o2 l2 : Int) : two4 o1 l1 o2 l2 = 1 ∨ two4 o1 l1 o2 l2 = -1 := by
  unfold two4
  rcases tn l1 l2 with h | h <;> rcases tw l1 with h2 | h2 <;> rcases tw l2 with h3 | h3 <;> rw [h, h2, h3] <;> split <;> split <;> decide
theorem two4_sym (o1 l1 o2 l2 : Int) : two4 o1 l1 o2 l2 = two4 o2 l2 o1 l1 := by
  unfold two4
  rw [tn_sym l1 l2]
  grind
theorem two4_mul {o1 l1 o2 l2 o3 l3 : Int} (h1 : l1 % 2 = 1) (h2 : l2 % 2 = 1) (h3 : l3 % 2 = 1) : two4 o1 l1 (o2 + o3) (l2 * l3) = two4 o1 l1 o2 l2 * two4 o1 l1 o3 l3 := by
  have s1 := tw_sq l1
  unfold two4
  rw [tn_mul h1 h2 h3, tw_mul h2 h3]
  have e : (if (o2 + o3) % 2 = 1 then twoI l1 else 1) = (if o2 % 2 = 1 then twoI l1 else 1) * (if o3 % 2 = 1 then twoI l1 else 1) := by
    rcases (show o2 % 2 = 0 ∨ o2 % 2 = 1 by omega) with k | k <;> rcases (show o3 % 2 = 0 ∨ o3 % 2 = 1 by omega) with j | j
    · rw [if_neg (show ¬ (o2 + o3) % 2 = 1 by omega), if_neg (show ¬ o2 % 2 = 1 by omega), if_neg (show ¬ o3 % 2 = 1 by omega)]; rfl
    · rw [if_pos (show (o2 + o3) % 2 = 1 by omega), if_neg (show ¬ o2 % 2 = 1 by omega), if_pos j, Int.one_mul]
    · rw [if_pos (show (o2 + o3) % 2 = 1 by omega), if_pos k, if_neg (show ¬ o3 % 2 = 1 by omega), Int.mul_one]
    · rw [if_neg (show ¬ (o2 + o3) % 2 = 1 by omega), if_pos k, if_pos j, s1]
  rw [e]
  by_cases c : o1 % 2 = 1
  · rw [if_pos c, if_pos c, if_pos c]
    grind
  · rw [if_neg c, if_neg c, if_neg c]
    grind
theorem prm_odd {p : Int} (h : Prm p) (n2 : p ≠ 2) : p % 2 = 1 := by
  rcases (show p % 2 = 0 ∨ p % 2 = 1 by omega) with z | z
  · have := h.two
    exact absurd (Int.dvd_of_emod_eq_zero z) (h.no 2 (by omega) (by omega))
  · exact z
theorem odd_of {l : Int} (h : ¬ (2 : Int) ∣ l) : l % 2 = 1 := by omega
theorem hs_or {p a b l1 o1 l2 o2 : Int} (hp : Prm p) (d1 : Dec a p l1 o1) (d2 : Dec b p l2 o2) : hs p o1 l1 o2 l2 = 1 ∨ hs p o1 l1 o2 l2 = -1 := by
  unfold hs
  split
  · exact two4_or _ _ _ _
  · next c => exact odd4_or hp (prm_odd hp c) d1.nd d2.nd
theorem hs_sym (p o1 l1 o2 l2 : Int) : hs p o1 l1 o2 l2 = hs p o2 l2 o1 l1 := by
  unfold hs
  rw [two4_sym, odd4_sym]
theorem hs_mul {p a b c l1 o1 l2 o2 l3 o3 : Int} (hp : Prm p) (d1 : Dec a p l1 o1) (d2 : Dec b p l2 o2) (d3 : Dec c p l3 o3) : hs p o1 l1 (o2 + o3) (l2 * l3) = hs p o1 l1 o2 l2 * hs p o1 l1 o3 l3 := by
  unfold hs
  split
  · next c =>
    subst c
    exact two4_mul (odd_of d1.nd) (odd_of d2.nd) (odd_of d3.nd)
  · next c => exact odd4_mul hp (prm_odd hp c) d1.nd
end Jc

namespace Pw
@[irreducible] def PM (x : Int) (k : Nat) (n : Int) : Int := x ^ k % n
end Pw

namespace Jc
open Pr (Prm)
def PN (f : Nat → Nat) : Nat → Nat
  | 0 => 1
  | m + 1 => PN f m * f (m + 1)
end Jc

namespace Jc
open Pr (Prm)
structure Ton (p n root over turner : Int) (h : Nat) : Prop where
  ro : root * root % p = n * over % p
  ov : over ^ (if h = 0 then 1 else 2 * h) % p = 1 % p
  tu : h ≠ 0 → turner ^ (2 * h) % p = (-1) % p
  two : h = 0 ∨ ∃ j, h = 2 ^ j
end Jc

namespace Jc
open Pr (Prm)
theorem Dec.neg {a p l o : Int} (h : Dec a p l o) : Dec (-a) p (-l) o := ⟨by rw [Int.mul_neg, ← h.eq], h.o0, fun d => h.nd (Int.dvd_neg.mp d)⟩
theorem hs_neg {p a l o : Int} (hp : Prm p) (d : Dec a p l o) : hs p o l o (-l) = 1 := by
  unfold hs
  split
  · next c =>
    subst c
    have ho := odd_of d.nd
    unfold two4
    have t1 : turnI l (-l) = 1 := by unfold turnI; rw [if_neg (by omega)]
    have t2 : twoI (-l) = twoI l := by
      unfold twoI
      rcases (show l % 8 = 1 ∨ l % 8 = 3 ∨ l % 8 = 5 ∨ l % 8 = 7 by omega) with h | h | h | h
      · rw [show (-l) % 8 = 7 by omega, h]; rfl
      · rw [show (-l) % 8 = 5 by omega, h]; rfl
      · rw [show (-l) % 8 = 3 by omega, h]; rfl
      · rw [show (-l) % 8 = 1 by omega, h]; rfl
    rw [t1, t2, Int.one_mul]
    split
    · exact tw_sq l
    · rfl
  · next c =>
    have po := prm_odd hp c
    unfold odd4
    split
    · rw [Int.neg_mul_neg, J_mul (by have := hp.two; omega) po]
      exact J_unit hp d.nd
    · rfl
theorem dec_zero {a p l o : Int} (hp : Prm p) (d : Dec a p l o) : (p ∣ a ∧ 1 ≤ o) ∨ (¬ p ∣ a ∧ o = 0 ∧ a = l) := by
  have o0 := d.o0
  rcases (show o = 0 ∨ 1 ≤ o by omega) with z | z
  · have e := d.eq
    rw [z, show (0 : Int).toNat = 0 from rfl, Int.pow_zero, Int.one_mul] at e
    exact .inr ⟨by rw [e]; exact d.nd, z, e⟩
  · refine .inl ⟨?_, z⟩
    obtain ⟨k, hk⟩ : ∃ k, o.toNat = k + 1 := ⟨o.toNat - 1, by omega⟩
    rw [d.eq, hk, Int.pow_succ]
    exact ⟨p ^ k * l, by grind⟩
theorem pow2 {o : Int} (h : 3 ≤ o) (l : Int) : (8 : Int) ∣ 2 ^ o.toNat * l := by
  obtain ⟨k, hk⟩ : ∃ k, o.toNat = k + 3 := ⟨o.toNat - 3, by omega⟩
  rw [hk, Int.pow_add]
  exact ⟨2 ^ k * l, by grind⟩
theorem hs_less1 {p a l1 o1 l2 o2 : Int} (hp : Prm p) (d1 : Dec a p l1 o1) (d2 : Dec (1 - a) p l2 o2) (h : p ∣ a) (ho : 1 ≤ o1) : hs p o1 l1 o2 l2 = 1 := by
  have nd : ¬ p ∣ 1 - a := fun d => Pr.prm_not_one hp (by have := Int.dvd_add d h; rw [show 1 - a + a = 1 by omega] at this; exact this)
  rcases dec_zero hp d2 with ⟨z, _⟩ | ⟨_, z, e⟩
  · exact absurd z nd
  subst z
  unfold hs
  split
  · next c =>
    subst c
    have q1 := odd_of d1.nd
    have q2 := odd_of d2.nd
    have ea := d1.eq
    unfold two4 turnI twoI
    rcases (show o1 = 1 ∨ o1 = 2 ∨ 3 ≤ o1 by omega) with z | z | z
    · subst z
      rw [show (1 : Int).toNat = 1 from rfl, Int.pow_succ, Int.pow_zero, Int.one_mul] at ea
      rcases (show l1 % 4 = 1 ∨ l1 % 4 = 3 by omega) with k | k
      · rw [show l2 % 8 = 7 by omega, show l2 % 4 = 3 by omega, k]; rfl
      · rw [show l2 % 8 = 3 by omega, show l2 % 4 = 3 by omega, k]; rfl
    · subst z
      have e4 : (2 : Int) ^ (2 : Int).toNat = 4 := by decide
      rw [e4] at ea
      rw [show l2 % 8 = 5 by omega, show l2 % 4 = 1 by omega]
      rcases (show l1 % 4 = 1 ∨ l1 % 4 = 3 by omega) with k | k <;> rw [k] <;> rfl
    · have h8 := pow2 z l1
      rw [← ea] at h8
      rw [show l2 % 8 = 1 by omega, show l2 % 4 = 1 by omega]
      rcases (show l1 % 4 = 1 ∨ l1 % 4 = 3 by omega) with k | k <;> rw [k] <;> (by_cases c : o1 % 2 = 1 <;> simp [c])
  · next c =>
    have po := prm_odd hp c
    have j1 : J l2 p = 1 := by
      rw [J_mod (x := l2) (y := 1), J_one (by have := hp.two; omega) po]
      obtain ⟨k, hk⟩ := h
      rw [← e, hk, show 1 - p * k = 1 + p * (-k) by grind, Int.add_mul_emod_self_left]
    unfold odd4
    split
    · exact j1
    · rfl
theorem hs_less {p a l1 o1 l2 o2 : Int} (hp : Prm p) (d1 : Dec a p l1 o1) (d2 : Dec (1 - a) p l2 o2) : hs p o1 l1 o2 l2 = 1 := by
  rcases dec_zero hp d1 with ⟨h, ho⟩ | ⟨h, z, e⟩
  · exact hs_less1 hp d1 d2 h ho
  · rcases dec_zero hp d2 with ⟨h', ho'⟩ | ⟨h', z', e'⟩
    · rw [hs_sym]
      exact hs_less1 hp d2 (by rw [show 1 - (1 - a) = a by omega]; exact d1) h' ho'
    · subst z z'
      unfold hs
      split
      · next c =>
        subst c
        have := odd_of h
        have := odd_of h'
        omega
      · rfl
def noDivs (p : Nat) (m : Nat) : Bool := (List.range m).all fun k => Nat.ble k 1 || !(p % k == 0)
theorem prm_prod {x y : Int} (hx : 2 ≤ x) (hy : 2 ≤ y) : ¬ Prm (x * y) := fun h => by
  rcases Pr.prm_one_or h (by omega) (Int.dvd_mul_right x y) with z | z
  · omega
  · have : x * 1 = x * y := by rw [Int.mul_one]; exact z
    have := Int.eq_of_mul_eq_mul_left (by omega) this
    omega
end Jc

namespace Jc
open Pr (Prm)
abbrev Q24 : List Int := [2, 3, 5, 7, 11, 13, 17, 19, 23, 29, 31, 37, 41, 43, 47, 53, 59, 97, 193, 257, 10007, 99991, 483289, 999983]
def noDiv2 (p m : Nat) : Bool := (List.range m).all fun k => Nat.ble k 1 || (Nat.blt p (k * k) || !(p % k == 0))
theorem prm_by2 {p m : Nat} (p2 : 2 ≤ p) (hm : p < m * m) (h : noDiv2 p m = true) : Prm (p : Int) := by
  refine ⟨by omega, fun k k2 kk hd => ?_⟩
  obtain ⟨j, rfl⟩ : ∃ j : Nat, k = (j : Int) := ⟨k.toNat, by omega⟩
  have jj : j * j ≤ p := by
    have : ((j * j : Nat) : Int) ≤ (p : Int) := by rw [Int.natCast_mul]; exact kk
    omega
  have jm : j < m := by
    rcases Nat.lt_or_ge j m with z | z
    · exact z
    · have := Nat.mul_le_mul z z
      omega
  have c := List.all_eq_true.mp h j (List.mem_range.mpr jm)
  have d : p % j = 0 := Nat.mod_eq_zero_of_dvd (Int.natCast_dvd_natCast.mp hd)
  have b2 : Nat.blt p (j * j) = false := by
    rcases hb : Nat.blt p (j * j) with _ | _
    · rfl
    · have := Nat.le_of_ble_eq_true hb
      omega
  rw [d, b2] at c
  have c' : Nat.ble j 1 = true := by simpa using c
  have := Nat.le_of_ble_eq_true c'
  omega
def nrOf (p : Nat) : Nat := if p = 17 then 3 else if p = 41 then 3 else if p = 97 then 5 else if p = 193 then 5 else if p = 257 then 3 else 31
structure Lst (n : Int) : Prop where
  pos : 1 ≤ n
  sq : ∀ q, Prm q → ¬ q * q ∣ n
  ins : ∀ q, Prm q → q ∣ n → q ∈ Q24
end Jc

namespace L2
open PySem PySem.Spec PyProof.Rows

def cxC (X : Cx) (N : List Str) (scope : Scope) (cl : List (Str × Addr)) (C : Addr) (s0 : Shared) (H0 : Hp) (fp : List Addr) (pins : List (Addr × Obj)) : Cx :=
  { X with N := N, s₀ := s0, H₀ := H0, env := compEnvC scope cl C X.env, outer := X.stack, ex := fp, fn := fun _ => false, pn := X.pn ++ pins, xe := fun _ _ => False }
structure CompScope (X : Cx) (N : List Str) (fr : List Nat) (x : Str) (scope : Scope) (cl : List (Str × Addr)) : Prop where
  kind : scope.kind = .function
  nocell : ∀ y ∈ scope.names, y.2 ≠ .cell
  loc : ∀ y ∈ scope.names, y.2 = .local → scope.names.lookup y.1 = some .local
  own : scope.names.lookup x = some .local
  clos : closureFor scope X.env = pure cl
  sub : ∀ y c, cl.lookup y = some c → X.env.cells.lookup y = some c
  has : ∀ y, ((relabel scope X.env).names.lookup y = some .cell ∨ (relabel scope X.env).names.lookup y = some .free) → ∃ c, cl.lookup y = some c
  nd : N.Nodup
  hN : N[0]? = some x
  len : N.length = fr.length + 1
  ownOnly : ∀ (j : Nat) (y : Str), N[j + 1]? = some y → (relabel scope X.env).names.lookup y ≠ some .local
  out : ∀ (j k : Nat), fr[j]? = some k → ∃ y, N[j + 1]? = some y ∧ X.N[k]? = some y ∧ X.env.kindOf y = some .cell
def compSt (σ : St) (fr : List Nat) (v : Option V) : St := v :: fr.map fun k => (σ[k]?).join
def tComp (wi : TI) (fr : List Nat) (te : TE) : TE := fun σ H Q => wi σ H fun J H1 => ∀ acc, H1 acc = none → ∃ W : Nat → Nat → Hp → List V → Prop, (∃ m, W 0 m (upd H1 acc (.lst [])) []) ∧
  ∀ i m H' vs, W i m H' vs → H' acc = some (.lst vs) ∧ ((J.stop i H' ∧ Q (.ref acc) H') ∨ (J.go i H' ∧ vs.length < sizeLine ∧ ∀ x H2, J.yld i H' x H2 → te (compSt σ fr (some x)) H2 fun y H3 => H3 acc = some (.lst vs) ∧ ∃ m', m' < m ∧ W (i + 1) m' (upd H3 acc (.lst (vs ++ [y]))) (vs ++ [y])))
def tCompIf (wi : TI) (fr : List Nat) (tc : TT) (te : TE) : TE := fun σ H Q => wi σ H fun J H1 => ∀ acc, H1 acc = none → ∃ W : Nat → Nat → Hp → List V → Prop, (∃ m, W 0 m (upd H1 acc (.lst [])) []) ∧
  ∀ i m H' vs, W i m H' vs → H' acc = some (.lst vs) ∧ ((J.stop i H' ∧ Q (.ref acc) H') ∨ (J.go i H' ∧ vs.length < sizeLine ∧ ∀ x H2, J.yld i H' x H2 → tc (compSt σ fr (some x)) H2 fun b H3 =>
    if b = true then te (compSt σ fr (some x)) H3 fun y H4 => H4 acc = some (.lst vs) ∧ ∃ m', m' < m ∧ W (i + 1) m' (upd H4 acc (.lst (vs ++ [y]))) (vs ++ [y]) else ∃ m', m' < m ∧ W (i + 1) m' H3 vs))
section
variable {X : Cx} {N : List Str} {fr : List Nat} {x : Str} {scope : Scope} {cl : List (Str × Addr)} {elt iter : Expr} {px pos : Pos} {wi : TI} {te : TE}
theorem cxC_ok {pins : List (Addr × Obj)} {σ : St} {H : Hp} {s : Shared} {fp : List Addr} {C : Addr} (S : CompScope X N fr x scope cl) (I : Inv X pins σ H s) (hf : ∀ b ∈ fp, FpOk X pins H b) (hC : s.heap.objs.size ≤ C) (hfl : ∀ b ∈ fp, b < s.heap.objs.size) : (cxC X N scope cl C s H fp pins).Ok where
  mod := I.ok.mod
  kind := S.kind
  glob := I.ok.glob
  blt := I.ok.blt
  above := hC
  inj := fun y z c h1 h2 => I.ok.inj y z c (S.sub _ _ h1) (S.sub _ _ h2)
  has := fun y h => S.has y h
  cab := fun y c h => by cases h
  hd := I.ok.hd
  frames := I.ok.frames
  stk := .inl rfl
  exf := fun b hb => ⟨Nat.ne_of_lt (Nat.lt_of_lt_of_le (hfl b hb) hC), fun y c h => (hf b hb).2.2.2.2.1 y c (S.sub _ _ h)⟩
  bs := fun b o e => I.bs b o e
  bsz := Nat.le_trans I.ok.bsz I.sz
  noex := fun b o e hb => by
    rcases (hf b hb).2.2.2.1 with z | z
    · exact I.ok.noex b o e z
    · exact absurd (Nat.lt_of_lt_of_le (Heap.lt_size e) (Nat.le_trans I.ok.bsz z)) (Nat.lt_irrefl _)
  exfs := fun b hb z => by
    rcases List.mem_cons.mp (I.stkSub b z) with e | e
    · exact (hf b hb).2.1 e
    · exact (hf b hb).2.2.1 e
  funs := I.stack
  frf := I.stkFree
theorem cxC_start {pins : List (Addr × Obj)} {σ : St} {H : Hp} {s s4 : Shared} {fp : List Addr} {C : Addr} {m : Str → Option Value} (S : CompScope X N fr x scope cl) (I : Inv X pins σ H s) (hf : ∀ b ∈ fp, FpOk X pins H b) (hC : s.heap.objs.size ≤ C) (hfl : ∀ b ∈ fp, b < s.heap.objs.size)
    (hn : s4.heap.Ns C m) (hk : ∀ b o, s.heap.get? b = some o → s4.heap.get? b = some o) (ho : s4.os = s.os) (hg : s4.gens = s.gens) : Inv (cxC X N scope cl C s H fp pins) [] (compSt σ fr none) H s4 := by
  obtain ⟨m0, hn0, hl⟩ := id I.loc
  refine ⟨cxC_ok S I hf hC hfl, ho, by rw [hg]; exact I.bare, Un.kept hk, ⟨m, hn, fun i y v e1 e2 e3 => ?_⟩, fun y c h => ?_, I.hok.fresh hC, fun y c h => I.freeC y c (S.sub _ _ h), fun p hp => ?_, I.hok.kept hk, ?_⟩
  · cases i with
    | zero => cases e2
    | succ j =>
      have e2' : (fr.map fun k => (σ[k]?).join)[j]? = some (some v) := e2
      rw [List.getElem?_map] at e2'
      cases ek : fr[j]? with
      | none => rw [ek] at e2'; cases e2'
      | some k =>
        rw [ek] at e2'
        have e4 : (σ[k]?).join = some v := Option.some.inj e2'
        obtain ⟨y', h1, h2, h3⟩ := S.out j k ek
        have e1' : N[j + 1]? = some y := e1
        obtain rfl : y' = y := Option.some.inj (h1.symm.trans e1')
        have e5 : σ[k]? = some (some v) := by
          cases q : σ[k]? with
          | none => rw [q] at e4; cases e4
          | some w => rw [q] at e4; exact congrArg some e4
        obtain ⟨u, r, lk⟩ := hl k y' v h2 e5 (.inr (.inl h3))
        refine ⟨u, r, .inr ?_⟩
        rcases lk with ⟨z, _⟩ | ⟨_, c, hc, hcell⟩
        · rw [h3] at z; cases z
        · have e6 : Vis (relabel scope X.env) y' := e3
          have hk2 : (relabel scope X.env).names.lookup y' = some .cell ∨ (relabel scope X.env).names.lookup y' = some .free := by
            rcases e6 with e6 | e6 | e6
            · exfalso
              have nd := S.nd
              -- a name of the block's own is the first one
              exact S.ownOnly _ _ h1 e6
            · exact .inl e6
            · exact .inr e6
          obtain ⟨c2, hc2⟩ := S.has y' hk2
          have := S.sub _ _ hc2
          rw [hc] at this; cases this
          obtain ⟨o, z1, z2⟩ := hcell
          exact ⟨hk2, c, hc2, o, hk _ _ z1, z2⟩
  · obtain ⟨v, o, z1, z2⟩ := I.cell y c (S.sub _ _ h)
    exact ⟨v, o, hk _ _ z1, z2⟩
  · rw [List.append_nil] at hp
    obtain ⟨e, k, ne, nf, d⟩ := I.pin p hp
    refine ⟨hk _ _ e, k, Nat.ne_of_lt (Nat.lt_of_lt_of_le (Heap.lt_size e) hC), fun z => ?_, d⟩
    rcases List.mem_cons.mp (I.stkSub _ z) with q | q
    · exact ne q
    · exact nf q
  · show (compSt σ fr none).length = N.length
    rw [S.len]
    simp [compSt]
theorem cxC_end {pins : List (Addr × Obj)} {σ σ' : St} {H H' : Hp} {s s' : Shared} {fp : List Addr} {C : Addr} {h' : Heap} (I : Inv X pins σ H s) (hf : ∀ b ∈ fp, FpOk X pins H b) (hC : s.heap.objs.size ≤ C) (J : Inv (cxC X N scope cl C s H fp pins) [] σ' H' s') (hs : Heap.SameBut C s'.heap h') :
    Inv X pins σ H' { s' with heap := h' } := by
  have ne : ∀ b o, s.heap.get? b = some o → b ≠ C := fun b o e => Nat.ne_of_lt (Nat.lt_of_lt_of_le (Heap.lt_size e) hC)
  have u : Un (frs X.stack) fp H H' s.heap s'.heap := J.base
  have u2 : Un (frs X.stack) fp H H' s.heap h' := ⟨fun b o e n hb hx => (hs.2 b (ne b o e)).trans (u.keep b o e n hb hx), fun b o e n hb hx => (by
      obtain ⟨sl, q⟩ := u.slot b o e n hb hx
      exact ⟨sl, (hs.2 b (ne b o e)).trans q⟩), u.free, fun b o e hx => (by
      obtain ⟨o', q⟩ := u.there b o e hx
      exact ⟨o', (hs.2 b (ne b o e)).trans q⟩), u.tups, u.frzs, u.tbls⟩
  have nC : H' C = none := J.free
  refine I.call' (s' := { s' with heap := h' }) (ch := fp) J.os u2 (J.hok.onward fun b o hb q => (hs.2 b fun z => hb (z ▸ nC)).trans q) J.bare fun b hb => ?_
  obtain ⟨_, f2, _, f4, f5, f6⟩ := hf b hb
  exact ⟨f4, f2, f5, f6⟩
def PTs (X : Cx) (ifs : List Expr) (t : TT) : Prop :=
  ∀ (pins : List (Addr × Obj)) (s : Shared) (σ : St) (H : Hp) (Q : Bool → Hp → Prop), Inv X pins σ H s → t σ H Q → wpAny (model X.prog X.w) X.A (forIn ifs true fun c r => if r = true then do let ok ← PySem.isTrue c X.env (eval c X.env); pure (ForInStep.yield ok) else pure (ForInStep.yield r)) (TP X pins σ Q) X.xe s
theorem pts_one {X : Cx} {c : Expr} {t : TT} (h : PT X c t) : PTs X [c] t := fun pins s σ H Q I q => wpAny_tests_one (h pins s σ H Q I q)
theorem pts_nil {X : Cx} : PTs X [] (fun _ H Q => Q true H) := fun pins s σ H Q I q => by
  show wpAny _ _ (pure true) _ _ _
  exact wpAny_pure ⟨H, I, q⟩
theorem comp_core {ifs : List Expr} {tc : TT} {use : Option (Value → Sem Unit)} {R : Value → Shared → Prop} {Q : VK} {pins : List (Addr × Obj)} {s : Shared} {σ : St} {H : Hp} {ep : Pos} (hc : X.calm = true) (S : CompScope X N fr x scope cl) (hi : PI X (.Name x px) iter wi)
    (ht : ∀ (C : Addr) (s0 : Shared) (H0 : Hp) (fp : List Addr) (pins : List (Addr × Obj)), PTs (cxC X N scope cl C s0 H0 fp pins) ifs tc) (he : ∀ (C : Addr) (s0 : Shared) (H0 : Hp) (fp : List Addr) (pins : List (Addr × Obj)), PE (cxC X N scope cl C s0 H0 fp pins) elt te)
    (hs : ∀ y, foldedSetIterable iter X.env y = pure y) (I : Inv X pins σ H s) (h : tCompIf wi fr tc te σ H Q)
    (fin : ∀ (acc C : Addr) (m : Str → Option Value) (H6 : Hp) (s7 : Shared), Q (.ref acc) H6 → s7.heap.Ns C m → (∀ h' : Heap, Heap.SameBut C s7.heap h' → Inv X pins σ H6 { s7 with heap := h' }) → H6 C = none → X.env.locals ≠ C → (∀ z c, X.env.cells.lookup z = some c → c ≠ C) → (∀ p ∈ X.pn ++ pins, p.1 ≠ C) → X.s₀.heap.objs.size ≤ C → compPost (model X.prog X.w) X.A X.xe use R (.ref acc) C (.ok .next) s7) :
    wpAny (model X.prog X.w) X.A (comprehension (.ListComp elt [⟨.Name x px, iter, ifs, 0⟩] scope pos) scope X.env ep (newList []) false (eval iter X.env) use) R X.xe s := by
  refine wpAny_comprehension_free (use := use) rfl hs S.clos S.kind S.loc (thn (hi pins s σ H _ I h) fun v s1 h1 => thn h1 fun itv s2 h2 => ?_)
  obtain ⟨it, fp, tn, J, H2, e, I2, T, st2, f2, hW⟩ := h2
  subst e
  have hfl : ∀ b ∈ fp, b < s2.heap.objs.size := fun b hb => by
    obtain ⟨o, q, _⟩ := T.obj _ _ st2 b hb
    exact Heap.lt_size q
  have hfr : H2 s2.heap.objs.size = none := I2.hok.fresh (Nat.le_refl _)
  refine wpAny_newObj_type ?_
  have keep3 : ∀ b o, s2.heap.get? b = some o → (s2.heap.push { cls := .type "list", dict := none, data := .seq ([] : List Value).toArray }).get? b = some o := fun b o q => Heap.get?_push_of_some _ q
  have I3 : Inv X pins σ (upd H2 s2.heap.objs.size (.lst [])) { s2 with heap := s2.heap.push { cls := .type "list", dict := none, data := .seq ([] : List Value).toArray } } :=
    I2.laid (t' := s2.toks) keep3 (Nat.le_refl _) ⟨Nat.zero_le _, [], 0, .nil, Heap.get?_push_size _ rfl⟩
  obtain ⟨W, ⟨m0, w0⟩, turn⟩ := hW s2.heap.objs.size hfr
  have f3 : ∀ b ∈ fp, FpOk X pins (upd H2 s2.heap.objs.size (.lst [])) b := fun b hb => ⟨by rw [upd_ne (Nat.ne_of_lt (hfl b hb))]; exact (f2 b hb).1, (f2 b hb).2⟩
  refine wpAny_newFunctionEnv S.nocell (by intro y hy; simp at hy) (fun h4 hns hsb => ?_) S.kind
  have hfl3 : ∀ b ∈ fp, b < (s2.heap.push { cls := .type "list", dict := none, data := .seq ([] : List Value).toArray }).objs.size := fun b hb => by
    rw [Heap.size_push]
    exact Nat.lt_succ_of_lt (hfl b hb)
  have keep4 : ∀ b o, (s2.heap.push { cls := .type "list", dict := none, data := .seq ([] : List Value).toArray }).get? b = some o → h4.get? b = some o := fun b o q =>
    (hsb.2 b (Nat.ne_of_lt (Heap.lt_size q))).trans (Heap.get?_push_of_some _ q)
  have I4 : Inv (cxC X N scope cl (s2.heap.push { cls := .type "list", dict := none, data := .seq ([] : List Value).toArray }).objs.size { s2 with heap := s2.heap.push { cls := .type "list", dict := none, data := .seq ([] : List Value).toArray } } (upd H2 s2.heap.objs.size (.lst [])) fp pins) [] (compSt σ fr none) (upd H2 s2.heap.objs.size (.lst []))
      { s2 with heap := h4, toks := s2.toks + ([] : List (Str × Value)).length } := cxC_start S I3 f3 (Nat.le_refl _) hfl3 hns keep4 rfl rfl
  have st4 : tn 0 h4 := T.keep _ _ _ st2 fun b hb o q => keep4 b o (keep3 b o q)
  generalize hY : cxC X N scope cl (s2.heap.push { cls := .type "list", dict := none, data := .seq ([] : List Value).toArray }).objs.size { s2 with heap := s2.heap.push { cls := .type "list", dict := none, data := .seq ([] : List Value).toArray } } (upd H2 s2.heap.objs.size (.lst [])) fp pins = Y at I4
  have hel : PE Y elt te := hY ▸ he _ _ _ _ _
  have htl : PTs Y ifs tc := hY ▸ ht _ _ _ _ _
  have eA : Y.A = X.A := by rw [← hY]; rfl
  have eP : Y.prog = X.prog := by rw [← hY]; rfl
  have ew : Y.w = X.w := by rw [← hY]; rfl
  have eK : Y.K = X.K := by rw [← hY]; rfl
  have eC : Y.calm = true := by rw [← hY]; exact hc
  have eE : Y.env = compEnvC scope cl (s2.heap.push { cls := .type "list", dict := none, data := .seq ([] : List Value).toArray }).objs.size X.env := by rw [← hY]; rfl
  have eX : Y.xe = fun _ _ => False := by rw [← hY]; rfl
  have hg : PG Y (.Name x px) (gName 0) := by
    subst hY
    exact pg_name (i := 0) S.nd S.hN (.inl (lookup_relabel_local S.own)) (.inr (lookup_relabel_local S.own))
  have fY : ∀ {H' : Hp}, (∀ b ∈ fp, H' b = none) → ∀ b ∈ fp, FpOk Y [] H' b := fun {H'} hn b hb => by
    subst hY
    obtain ⟨_, g2, g3, g4, g5, g6⟩ := f3 b hb
    refine ⟨hn b hb, Nat.ne_of_lt (hfl3 b hb), fun z => ?_, .inl hb, fun y c q => g5 y c (S.sub _ _ q), fun p hp => ?_⟩
    · rcases List.mem_cons.mp (I3.stkSub b z) with q | q
      · exact g2 q
      · exact g3 q
    · rw [List.append_nil] at hp
      exact g6 p hp
  have loop : ∀ s5 : Shared, s5 = { s2 with heap := h4, toks := s2.toks + ([] : List (Str × Value)).length } →
      codeAny (model X.prog X.w) X.A (.compLoop (.ListComp elt [⟨.Name x px, iter, ifs, 0⟩] scope pos) 0 (.ref it) (.ref s2.heap.objs.size) (compEnvC scope cl (s2.heap.push { cls := .type "list", dict := none, data := .seq ([] : List Value).toArray }).objs.size X.env))
        (compPost (model X.prog X.w) X.A X.xe use R (.ref s2.heap.objs.size) (s2.heap.push { cls := .type "list", dict := none, data := .seq ([] : List Value).toArray }).objs.size) s5 := by
    rintro s5 rfl
    refine codeAny_compLoop_tests (fun n s' => ∃ i v H' vs, Inv Y [] (compSt σ fr v) H' s' ∧ tn i s'.heap ∧ (∀ b ∈ fp, H' b = none) ∧ W i n H' vs) ?_ m0 ⟨0, none, _, [], I4, st4, fun b hb => (f3 b hb).1, w0⟩
    rintro n s6 ⟨i, v6, H6, vs, I6, st6, fr6, w6⟩
    obtain ⟨hacc, hgo⟩ := turn i n H6 vs w6
    rcases hgo with ⟨stop, qn⟩ | ⟨go, hz, step⟩
    · have hd := T.done Y eP ew eK eC i [] s6 _ H6 (fun _ _ => False) I6 (fY fr6) st6 stop
      rw [eA] at hd
      refine wpAny_mono hd (fun r s7 ⟨hr, I7⟩ => ?_) fun _ _ z => z.elim
      subst hr
      obtain ⟨m, hn, _⟩ := id I7.loc
      rw [eE] at hn
      have hend : ∀ h' : Heap, Heap.SameBut (s2.heap.push { cls := .type "list", dict := none, data := .seq ([] : List Value).toArray }).objs.size s7.heap h' → Inv X pins σ H6 { s7 with heap := h' } := fun h' hs' => by
        subst hY
        exact cxC_end I3 f3 (Nat.le_refl _) I7 hs'
      have cf : H6 (s2.heap.push { cls := .type "list", dict := none, data := .seq ([] : List Value).toArray }).objs.size = none := by
        subst hY
        exact I7.free
      have big : ∀ b o, s2.heap.get? b = some o → b ≠ (s2.heap.push { cls := .type "list", dict := none, data := .seq ([] : List Value).toArray }).objs.size := fun b o q => Nat.ne_of_lt (by rw [Heap.size_push]; exact Nat.lt_succ_of_lt (Heap.lt_size q))
      obtain ⟨m2, hn2, _⟩ := id I2.loc
      obtain ⟨oL, _, _, hoL, _⟩ := id hn2
      exact fin _ _ m H6 s7 qn hn hend cf (big _ _ hoL) (fun z c q => by
        obtain ⟨_, o, w1, _⟩ := I2.cell z c q
        exact big _ _ w1) (fun p hp => by
        obtain ⟨e, _⟩ := I2.pin p hp
        exact big _ _ e) (by
        rw [Heap.size_push]
        exact Nat.le_succ_of_le (Nat.le_trans (Nat.le_refl _) I2.sz))
    · have hd := T.item Y eP ew eK eC i [] s6 _ H6 (fun _ _ => False) I6 (fY fr6) st6 go
      rw [eA] at hd
      refine wpAny_mono hd (fun r s7 ⟨u, hr, h7⟩ => ?_) fun _ _ z => z.elim
      subst hr
      show wpAny _ _ ((pure () : Sem Unit) >>= fun _ => assign (.Name x px) _ u) _ _ s7
      refine wpAny_bind (wpAny_mono h7 (fun _ s8 ⟨y, H8, I8, r8, y8, st8, fr8⟩ => ?_) fun _ _ z => z.elim)
      have I8' := I8.pinned (fY fr8) (T.obj _ _ st8)
      have h9 := hg _ s8 _ H8 y u (fun σ9 H9 => σ9 = compSt σ fr (some y) ∧ H9 = H8) I8' r8 ⟨rfl, rfl⟩
      rw [eA, eP, ew, eE, eX] at h9
      refine wpAny_mono h9 (fun _ s9 ⟨σ9, H9, I9, e9, e9'⟩ => ?_) fun _ _ z => z.elim
      subst e9 e9'
      have ht10 := htl _ s9 _ _ _ I9 (step y _ y8)
      rw [eA, eP, ew, eE, eX] at ht10
      refine wpAny_mono ht10 (fun ok s9t ⟨H9t, I9t, q9t⟩ => ?_) fun _ _ z => z.elim
      cases ok with
      | false =>
        rw [if_neg Bool.false_ne_true] at q9t
        rw [if_neg Bool.false_ne_true]
        obtain ⟨m', hm, w10⟩ := q9t
        refine ⟨m', hm, i + 1, some y, _, vs, I9t.unpinned, T.keep _ _ _ st8 fun b hb o q => (I9t.pin (b, o) (List.mem_append_right _ (List.mem_append_right _ (mem_pinsAt hb q)))).1, fun b hb => ?_, w10⟩
        obtain ⟨o, q, _⟩ := T.obj _ _ st8 b hb
        exact (I9t.pin (b, o) (List.mem_append_right _ (List.mem_append_right _ (mem_pinsAt hb q)))).2.1
      | true =>
      rw [if_pos rfl] at q9t
      rw [if_pos rfl]
      have h10 := hel _ s9t _ _ _ I9t q9t
      rw [eA, eP, ew, eE, eX] at h10
      refine wpAny_mono h10 (fun u10 s10 ⟨z10, H10, I10, r10, a10, m', hm, w10⟩ => ?_) fun _ _ z => z.elim
      have h11 := mt_append _ s10 _ H10 (.ref s2.heap.objs.size) [z10] (.ref s2.heap.objs.size) [u10] (fun _ H11 => H11 = upd H10 s2.heap.objs.size (.lst (vs ++ [z10]))) I10 rfl (.cons r10 .nil) ⟨_, vs, z10, rfl, rfl, a10, hz, rfl⟩
      rw [eA, eP, ew, eX] at h11
      refine wpAny_mono h11 (fun _ s11 ⟨_, H11, I11, _, e11⟩ => ?_) fun _ _ z => z.elim
      subst e11
      refine ⟨m', hm, i + 1, some y, _, vs ++ [z10], I11.unpinned, T.keep _ _ _ st8 fun b hb o q => (I11.pin (b, o) (List.mem_append_right _ (List.mem_append_right _ (mem_pinsAt hb q)))).1, fun b hb => ?_, w10⟩
      obtain ⟨o, q, _⟩ := T.obj _ _ st8 b hb
      exact (I11.pin (b, o) (List.mem_append_right _ (List.mem_append_right _ (mem_pinsAt hb q)))).2.1
  exact codeAny_compStart_list (loop _ rfl) (T.self _ 0 _ _ _ st4 (loop _ rfl))
theorem pe_comp (hc : X.calm = true) (S : CompScope X N fr x scope cl) (hi : PI X (.Name x px) iter wi) (he : ∀ (C : Addr) (s0 : Shared) (H0 : Hp) (fp : List Addr) (pins : List (Addr × Obj)), PE (cxC X N scope cl C s0 H0 fp pins) elt te)
    (hs : ∀ y, foldedSetIterable iter X.env y = pure y := by intro _; rfl) : PE X (.ListComp elt [⟨.Name x px, iter, [], 0⟩] scope pos) (tComp wi fr te) := by
  intro pins s σ H Q I h
  rw [eval_ListComp]
  exact comp_core (tc := fun _ H Q => Q true H) (use := none) hc S hi (fun _ _ _ _ _ => pts_nil) he hs I h fun acc C m H6 s7 qn hn hend _ _ _ _ _ => ⟨m, hn, fun h' hs' => ⟨.ref acc, H6, hend h' hs', rfl, qn⟩⟩
end
end L2

namespace L2
open PySem PySem.Spec PyProof.Rows
end L2

namespace L2
open PySem PySem.Spec PyProof.Rows

section
variable {κ : Type} [DecidableEq κ]
def valV (kvs : List (κ × V)) (k : κ) : Option V := (kvs.find? fun kv => decide (kv.1 = k)).map (·.2)
def putK (kvs : List (κ × V)) (k : κ) (v : V) : List (κ × V) :=
  if (kvs.any fun kv => decide (kv.1 = k)) = true then kvs.map (fun kv => if kv.1 = k then (kv.1, v) else kv) else kvs ++ [(k, v)]
def dropK (kvs : List (κ × V)) (k : κ) : List (κ × V) := kvs.filter fun kv => decide (kv.1 ≠ k)

end

abbrev KT (H : Hp) : List (List Key × V) → List (List Key × Addr × Value) → Prop := Paired fun p q => p.1 = q.1 ∧ H q.2.1 = some (.tup (p.1.map kV)) ∧ RelV p.2 q.2.2
section
variable {P : Program} {w : World} {H : Hp} {h : Heap} {a : Addr}
end

def DGet (H : Hp) (a : Addr) (y : V) (r : Option V) : Prop :=
  (∃ kvs k, Rd H a (.dK kvs) ∧ y = kV k ∧ r = valV kvs k) ∨ ∃ kvs k b, Rd H a (.dT kvs) ∧ y = .ref b ∧ H b = some (.tup (k.map kV)) ∧ r = valV kvs k
def DPut (H : Hp) (a : Addr) (y v : V) (H' : Hp) : Prop :=
  (∃ kvs k, H a = some (.dK kvs) ∧ y = kV k ∧ kvs.length < sizeLine ∧ H' = upd H a (.dK (putK kvs k v))) ∨
  ∃ kvs k b, H a = some (.dT kvs) ∧ y = .ref b ∧ H b = some (.tup (k.map kV)) ∧ kvs.length < sizeLine ∧ H' = upd H a (.dT (putK kvs k v))
section
variable {X : Cx} {pins : List (Addr × Obj)} {σ : St} {H : Hp} {s : Shared} {a : Addr} {y v : V} {u r : Value} {o : Option V} {A : Around} {E : Value → Shared → Prop}

end

section
variable {X : Cx} {pins : List (Addr × Obj)} {σ : St} {H : Hp} {s : Shared} {a : Addr} {kvs : List (Key × V)} {k : Key} {u : Value} {A : Around} {E : Value → Shared → Prop}
end

def NoSl (i : Expr) : Prop := ∀ ov iv, subscripted i false ov iv = operate [ov, iv] (getItem ov iv)
def tDGet (td ty : TE) : TE := fun σ H Q => td σ H fun x H1 => ty σ H1 fun y H2 => ∃ a v, x = .ref a ∧ DGet H2 a y (some v) ∧ Q v H2
def tDIn (ty td : TE) : TE := fun σ H Q => ty σ H fun y H1 => td σ H1 fun x H2 => ∃ a o, x = .ref a ∧ DGet H2 a y o ∧ Q (.bl o.isSome) H2
def tDNotIn (ty td : TE) : TE := fun σ H Q => ty σ H fun y H1 => td σ H1 fun x H2 => ∃ a o, x = .ref a ∧ DGet H2 a y o ∧ Q (.bl (!o.isSome)) H2
def sDPut (td ty tv : TE) : TS := fun D σ H => tv σ H fun v H1 => td σ H1 fun x H2 => ty σ H2 fun y H3 => ∃ a H4, x = .ref a ∧ DPut H3 a y v H4 ∧ D.nx σ H4
def sDAug (td ty tv : TE) (rd : V → V → Hp → VK → Prop) : TS := fun D σ H => td σ H fun x H1 => ty σ H1 fun y H2 => ∃ a v, x = .ref a ∧ DGet H2 a y (some v) ∧
  tv σ H2 fun y2 H3 => rd v y2 H3 fun z H4 => ∃ H5, DPut H4 a y z H5 ∧ D.nx σ H5
def sDDel (td ty : TE) : TS := fun D σ H => td σ H fun x H1 => ty σ H1 fun y H2 => ∃ a kvs k, x = .ref a ∧ H2 a = some (.dK kvs) ∧ y = kV k ∧ (valV kvs k).isSome = true ∧ D.nx σ (upd H2 a (.dK (dropK kvs k)))

section
variable {X : Cx} {o i e value : Expr} {pos pos' tpos : Pos} {td ty tv : TE}
end

def tDNewK : TE := fun _ H Q => ∀ p, H p = none → Q (.ref p) (upd H p (.dK []))
def tDNewT : TE := fun _ H Q => ∀ p, H p = none → Q (.ref p) (upd H p (.dT []))
section
variable {X : Cx} {pos : Pos}
end

def tPairs : List (TE × TE) → St → Hp → (List (V × V) → Hp → Prop) → Prop
  | [], _, H, Q => Q [] H
  | (tk, tv) :: r, σ, H, Q => tk σ H fun x H1 => tv σ H1 fun y H2 => tPairs r σ H2 fun ps H3 => Q ((x, y) :: ps) H3
abbrev VV : List (V × V) → List (Value × Value) → Prop := Paired fun p q => RelV p.1 q.1 ∧ RelV p.2 q.2
def PPs (X : Cx) (pos : Pos) (keys : List (Option Expr)) (values : List Expr) (trs : List (TE × TE)) : Prop :=
  ∀ (pins : List (Addr × Obj)) (s : Shared) (σ : St) (H : Hp) (Q : List (V × V) → Hp → Prop), Inv X pins σ H s → tPairs trs σ H Q →
    wpAny (model X.prog X.w) X.A (evalPairs (pairTrees keys values X.env pos)) (fun vs s' => ∃ ps H', Inv X pins σ H' s' ∧ VV ps vs ∧ Q ps H') X.xe s
def mergeK (kvs more : List (Key × V)) : List (Key × V) := more.foldl (fun acc kv => putK acc kv.1 kv.2) kvs
def tDisp (trs : List (TE × TE)) : TE := fun σ H Q => ∀ p, H p = none → tPairs trs σ (upd H p (.dK [])) fun ps H2 => H2 p = some (.dK []) ∧ ∃ kvs : List (Key × V), ps = kvs.map (fun kv => (kV kv.1, kv.2)) ∧ kvs.length ≤ 15 ∧ Q (.ref p) (upd H2 p (.dK (mergeK [] kvs)))
structure M1 (X : Cx) (o : Expr) (m : Str) (apos : Pos) (e : Expr) (cpos : Pos) : Prop where
  base : attributeBase o m X.env (eval o X.env) = eval o X.env
  few : ((backTo cpos (starEach [e] X.env)).all (fun x => !x.1) && (backToKw cpos (keywordEach [] X.env)).all (fun x => x.1.isSome)
    && decide (([e] : List Expr).length + ([] : List Keyword).length + (if ([] : List Keyword).isEmpty then 0 else 1) < 30)) = true
  line : (apos.endLine == cpos.line) = true
  trees : backTo cpos (starEach [e] X.env) = [(false, eval e X.env)]
structure M2 (X : Cx) (o : Expr) (m : Str) (apos : Pos) (e f : Expr) (cpos : Pos) : Prop where
  base : attributeBase o m X.env (eval o X.env) = eval o X.env
  few : ((backTo cpos (starEach [e, f] X.env)).all (fun x => !x.1) && (backToKw cpos (keywordEach [] X.env)).all (fun x => x.1.isSome)
    && decide (([e, f] : List Expr).length + ([] : List Keyword).length + (if ([] : List Keyword).isEmpty then 0 else 1) < 30)) = true
  line : (apos.endLine == cpos.line) = true
  trees : backTo cpos (starEach [e, f] X.env) = [(false, eval e X.env), (false, eval f X.env)]

def IsD (H : Hp) (a : Addr) : Prop := (∃ kvs, Rd H a (.dK kvs)) ∨ ∃ kvs, Rd H a (.dT kvs)
section
variable {X : Cx} {pins : List (Addr × Obj)} {σ : St} {H : Hp} {s : Shared} {a : Addr} {y d : V} {u r : Value} {o : Option V} {A : Around} {E : Value → Shared → Prop}
end

def tDGet1 (td ty : TE) : TE := fun σ H Q => td σ H fun x H1 => ∃ a, x = .ref a ∧ IsD H1 a ∧ ty σ H1 fun y H2 => ∃ o, DGet H2 a y o ∧ Q (o.getD .non) H2
def tDGet2 (td ty tx : TE) : TE := fun σ H Q => td σ H fun x H1 => ∃ a, x = .ref a ∧ IsD H1 a ∧ ty σ H1 fun y H2 => tx σ H2 fun z H3 => ∃ o, DGet H3 a y o ∧ Q (o.getD z) H3
def tDPop1 (td ty : TE) : TE := fun σ H Q => td σ H fun x H1 => ∃ a, x = .ref a ∧ IsD H1 a ∧ ty σ H1 fun y H2 => ∃ kvs k v, H2 a = some (.dK kvs) ∧ y = kV k ∧ valV kvs k = some v ∧ Q v (upd H2 a (.dK (dropK kvs k)))
def tDPop2 (td ty tx : TE) : TE := fun σ H Q => td σ H fun x H1 => ∃ a, x = .ref a ∧ IsD H1 a ∧ ty σ H1 fun y H2 => tx σ H2 fun z H3 => ∃ kvs k, H3 a = some (.dK kvs) ∧ y = kV k ∧
  (∀ v, valV kvs k = some v → Q v (upd H3 a (.dK (dropK kvs k)))) ∧ (valV kvs k = none → Q z H3)
section
variable {X : Cx} {o e f : Expr} {apos cpos : Pos} {td ty tx : TE}
end

section
variable {X : Cx} {pins : List (Addr × Obj)} {σ : St} {H : Hp} {s : Shared} {a : Addr} {y : V} {u : Value} {A : Around} {E : Value → Shared → Prop}
end
end L2

namespace L2
open PySem PySem.Spec PyProof.Rows

section
variable {P : Program} {w : World} {K : PySem.W.Frag} {mg : Str → Option Value} {base : Heap}
end
section
variable {X : Cx}
end

section
variable {κ : Type} [DecidableEq κ]
end
end L2

namespace L2
open PySem PySem.Spec PyProof.Rows
abbrev pairD (x : Int × Int) : PyData := .tuple [.int x.1, .int x.2]
theorem reads_tup2 {X : Cx} {pins : List (Addr × Obj)} {σ : St} {H : Hp} {s : Shared} {r : Addr} {x : Int × Int} (I : Inv X pins σ H s) (h : H r = some (.tup [.int x.1, .int x.2])) : Reads s.heap (.ref r) (pairD x) [] := by
  obtain ⟨its, rv, ⟨o, e1, e2, n, e3⟩, _⟩ := I.tuple (SqT.of h)
  cases rv with
  | cons r1 rv =>
    cases rv with
    | cons r2 rv =>
      cases rv
      obtain ⟨t1, rfl⟩ := r1
      obtain ⟨t2, rfl⟩ := r2
      exact .tuple e1 e2 e3 (.cons (.int _ _) (.cons (.int _ _) .nil))
theorem reads_all2 {X : Cx} {pins : List (Addr × Obj)} {σ : St} {H : Hp} {s : Shared} (I : Inv X pins σ H s) : ∀ {rs : List Addr} {xs : List (Int × Int)} {us : List Value}, Paired (fun (r : Addr) (x : Int × Int) => H r = some (.tup [.int x.1, .int x.2])) rs xs → Vals (rs.map V.ref) us → ReadsAll s.heap us (xs.map pairD) []
  | _, _, _, .nil, r => by cases r; exact .nil
  | _, _, _, .cons h t, r => by
    cases r with
    | cons r1 r2 =>
      cases r1
      exact .cons (reads_tup2 I h) (reads_all2 I t r2)
theorem lay_pairs : ∀ xs : List (Int × Int), PyData.canLayAll0 (xs.map pairD) = true
  | [] => rfl
  | x :: xs => by
    show (PyData.canLay0 (pairD x) && PyData.canLayAll0 (xs.map pairD)) = true
    rw [lay_pairs xs]
    rfl
theorem depth_pairs : ∀ xs : List (Int × Int), PyData.depthAll (xs.map pairD) ≤ 1
  | [] => Nat.zero_le _
  | x :: xs => by
    show max (PyData.depth (pairD x)) (PyData.depthAll (xs.map pairD)) ≤ 1
    exact Nat.max_le.mpr ⟨Nat.le_refl 1, depth_pairs xs⟩
theorem CompScope.one {X : Cx} {x y : Str} {k : Nat} {c : Addr} {scope : Scope} (ns' : List (Str × NameKind)) (kind : scope.kind = .function) (nocell : ∀ z ∈ scope.names, z.2 ≠ .cell) (loc : ∀ z ∈ scope.names, z.2 = .local → scope.names.lookup z.1 = some .local) (own : scope.names.lookup x = some .local)
    (clos : closureFor scope X.env = pure [(y, c)]) (hc : X.env.cells.lookup y = some c) (rl : (relabel scope X.env).names = ns') (only : ∀ p ∈ ns', p.2 = .cell ∨ p.2 = .free → p.1 = y) (ne : x ≠ y) (ny : ns'.lookup y ≠ some .local)
    (hk : X.N[k]? = some y) (kd : X.env.kindOf y = some .cell) : CompScope X [x, y] [k] x scope [(y, c)] := by
  subst rl
  refine ⟨kind, nocell, loc, own, clos, fun z b h => ?_, fun z h => ?_, by simp [ne], rfl, rfl, fun j z h => ?_, fun j k' h => ?_⟩
  · rw [List.lookup_cons] at h
    by_cases e : z = y
    · subst e
      simp at h
      subst h
      exact hc
    · have : (z == y) = false := by simpa using e
      rw [this] at h
      simp at h
  · have e : z = y := by
      rcases h with h | h
      · exact only _ (PySem.mem_of_lookup h) (.inl rfl)
      · exact only _ (PySem.mem_of_lookup h) (.inr rfl)
    subst e
    exact ⟨c, by simp⟩
  · cases j with
    | zero =>
      have e : y = z := by simpa using h
      subst e
      exact ny
    | succ j => simp at h
  · cases j with
    | zero =>
      have e : k = k' := by simpa using h
      subst e
      exact ⟨y, rfl, hk, kd⟩
    | succ j => simp at h
end L2

namespace L2
open PySem PySem.Spec PyProof.Rows
section
variable {X : Cx} {N : List Str} {fr : List Nat} {x : Str} {scope : Scope} {cl : List (Str × Addr)} {elt iter : Expr} {px pos : Pos} {wi : TI} {te : TE}
end
end L2

namespace L2
open PySem PySem.Spec PyProof.Rows
theorem exc_obj2 {v : Value} {K : PySem.W.Frag} {h : Heap} {C : Addr} {bmB : List Value} {newId : String} (X : K.In h) (q : PySem.W.excIn K C bmB newId = true) (em : PySem.W.mroIn K C v = some true) :
    ∃ bm N nm qn bs hdct sn sub ab col dd k0 k1 k2 k3 k5 mN, h.get? C = some (excClassObj nm qn C N bs bm hdct sn sub ab col dd k0 k1 k2 k3 k5 newId) ∧ h.Ns N mN ∧ mN "__init__" = none ∧ OwnTail h bmB bm ∧ (Value.ref C :: bm).contains v = true := by
  unfold PySem.W.excIn at q
  split at q
  · rename_i dd cd sl ho
    split at q
    · rename_i C' bm k0 k1 k2 k3 n k5 hm hs
      have hin : cd.mro.contains v = true := by
        unfold PySem.W.mroIn PySem.W.clsIn at em
        rw [ho] at em
        obtain ⟨cd', a, b⟩ := Option.bind_eq_some_iff.mp em
        cases a
        split at b
        · cases b
        · exact Option.some.inj b
      rw [hm] at hin
      simp only [Bool.and_eq_true, beq_iff_eq, Bool.not_eq_true'] at q
      obtain ⟨⟨⟨⟨⟨c1, c2⟩, c3⟩, c4⟩, c5⟩, c6⟩ := q
      subst c1 c2
      obtain ⟨nm, bs, mro, ns, qn, hd, sn, sub, ab, col, del⟩ := cd
      dsimp only at hm c3 c5 c6
      subst hm c3
      obtain ⟨l⟩ := sl
      have hs' : l = [k0, k1, k2, k3, some (.builtin n), k5] := hs
      subst hs'
      exact ⟨bm, ns, nm, qn, bs, hd, sn, sub, ab, col, dd, k0, k1, k2, k3, k5, _, X _ _ ho, .of_isNs (PySem.W.isNs_of_in X c5), PySem.W.nsMap_none_of_in X c5 c6, PySem.W.tail_of_in X c4, hin⟩
    · cases q
  · cases q

section
variable {M : Model} {A : Around} {E : Value → Shared → Prop}
variable {nm q nm' q' : Str} {C N D N' : Addr} {bs bm bs' bm' : List Value} {hdct hdct' : Bool} {sn sn' : List Str} {sub sub' : List Value} {ab ab' : Bool} {col col' : Option Bool} {dd dd' : Option Addr} {k0 k1 k2 k3 k5 j0 j1 j2 j3 j5 : Option Value} {newId newId' : String}
theorem excMatches_up {h : Heap} {g : Array GenState} {d : Drawn} {t : Nat} {os : OsState} {e : Addr} {oe : Obj} {Q : Bool → Shared → Prop}
    (hC : h.get? C = some (excClassObj nm q C N bs bm hdct sn sub ab col dd k0 k1 k2 k3 k5 newId)) (hD : h.get? D = some (excClassObj nm' q' D N' bs' bm' hdct' sn' sub' ab' col' dd' j0 j1 j2 j3 j5 newId')) (he : h.get? e = some oe) (hcls : oe.cls = .ref C)
    (hbase : bm'.contains (.type "BaseException") = true) (hcC : (Value.ref C :: bm).contains (.ref D) = true)
    (hq : Q true ⟨h, g, d, t, os⟩) : wpAny M A (excMatches (.ref e) (.ref D)) Q E ⟨h, g, d, t, os⟩ := by
  have hcB : (Value.ref D :: bm').contains (.type "BaseException") = true := by rw [List.contains_cons, hbase, Bool.or_true]
  have f := tc_notTuple
  unfold excMatches
  repeat (first | (with_reducible refine wpAny_loadPart_at he ?_; rw [hcls]) | with_reducible refine wpAny_loadPart_at hD ?_ | with_reducible refine wpAny_loadPart_at hC ?_ | (with_reducible refine wpAny_isSubtype_exc hD ?_; rw [hcB]) | (with_reducible refine wpAny_isSubtype_exc hC ?_; rw [hcC]) | wp_step)
  exact hq
end
section
variable {X : Cx} {pins : List (Addr × Obj)} {σ : St} {H H' : Hp} {s s' : Shared} {e : Addr} {cls a0 : Value} {ea C : Addr} {B h' : Heap} {t' : Nat}
theorem handle_as2 {Dc : Addr} {D : Ends} {ts : TS} {x n : Str} {np hpos : Pos} {b₀ : Stmt} {suite : List Stmt} {i : Nat} (I : Inv X pins σ H s) (fly : Fly X.prog X.w X.stack H s (.ref C) a0 ea B H' s') (hst : X.stack = X.env :: X.outer) (hf : X.env.frame = some X.env.locals)
    (hm : X.mg x = some (.ref Dc)) (hg : Gl X x) (hq : PySem.W.excIn X.K C bmVE "ValueError.__new__" = true) (hqD : PySem.W.excIn X.K Dc bmVE "ValueError.__new__" = true) (hcd : PySem.W.mroIn X.K C (.ref Dc) = some true) (hN : X.N.Nodup) (hi : X.N[i]? = some n) (hk : X.env.scope.names.lookup n = some .local)
    (hsu : PSs (X.marked ea) (b₀ :: suite) ts) (h : ts (asEnds D i) (σ.set i (some (.ref ea))) (upd H' ea (.ext (ExcAt C ea)))) (hdb : (x == ("__debug__" : Str)) = false) :
    wpAny (model X.prog X.w) X.A (noteFrame (.ref ea) X.env) (fun _ s₂ => wpAny (model X.prog X.w) X.A (setFlight (.ref ea) none) (fun _ s₃ =>
      wpAny (model X.prog X.w) X.A (handleBy (.ref ea) X.env [.ExceptHandler (some (.Name x np)) (some n) (b₀ :: suite) hpos]) (SP X pins D) X.xe s₃) X.xe s₂) X.xe s' := by
  obtain ⟨hp, gs, dr, tk, os⟩ := s'
  have fr : X.A.frames = some (X.env :: X.outer) := by rw [← hst]; exact I.ok.frames
  have fl : Heap.FlyingW B (X.env :: X.outer) ea (.ref C) a0 hp := by rw [← hst]; exact fly.fly
  refine wpAny_looks_onW fr hf fl fun h4 held4 u4 => ?_
  refine wpAny_landsW held4 fun h5 fl5 u5 => ?_
  have I5 : Inv X pins σ H' ⟨h5, gs, dr, tk, os⟩ := I.landed (t' := tk) fly fl5.1 (u4.trans u5)
  obtain ⟨ob, hob, hobc⟩ := fl5.there
  refine wpAny_handleBy_cons (codeAny_handlers_test (ld_glob (I5.marked ea) hg hm ?_ hdb)) (by intro q; cases q)
  obtain ⟨bm, Nn, nm, qn, bs, hdct, sn, sub, ab, col, dd, k0, k1, k2, k3, k5, mN, hC, hNs, hni, TL, hin⟩ := exc_obj2 I5.kIn hq hcd
  obtain ⟨bm', Nn', nm', qn', bs', hdct', sn', sub', ab', col', dd', j0, j1, j2, j3, j5, mN', hD, hNs', hni', TL'⟩ := exc_obj I5.kIn hqD
  refine excMatches_up hC hD hob hobc (TL'.hasType PySem.F.excBase_ValueError.hasBase) hin ?_
  refine codeAny_handlers_suite_as ?_
  refine lands_againW fl5 fun h6 fl6 u6 => ?_
  have I6 : Inv X pins σ (upd H' ea (.ext (ExcAt C ea))) ⟨h6, gs, dr, tk, os⟩ := I.landedE (t' := tk) fly fl6 ((u4.trans u5).trans u6)
  refine store_ok (X := X.marked ea) (i := i) (v := .ref ea) (I6.marked ea) hN hi (.inl hk) rfl (fun s7 I7 => ?_) (.inr hk)
  refine wpAny_mono (hsu pins s7 _ _ _ I7 h) (fun fw s8 q => ?_) fun _ _ z => False.elim z
  cases fw with
  | next =>
    obtain ⟨σ2, H2, J, q⟩ := q
    exact unbind_ok (J.unmarked I.ok) hN hi hk fun s9 J9 => ⟨_, _, J9, q⟩
  | ret v =>
    obtain ⟨v', σ2, H2, J, r, q⟩ := q
    exact unbind_ok (J.unmarked I.ok) hN hi hk fun s9 J9 => ⟨v', _, _, J9, r, q⟩
  | brk =>
    obtain ⟨σ2, H2, J, q⟩ := q
    exact unbind_ok (J.unmarked I.ok) hN hi hk fun s9 J9 => ⟨_, _, J9, q⟩
  | cont =>
    obtain ⟨σ2, H2, J, q⟩ := q
    exact unbind_ok (J.unmarked I.ok) hN hi hk fun s9 J9 => ⟨_, _, J9, q⟩
end
section
variable {X : Cx} {k : Nat} {f C : Addr} {fd : FuncData} {ps : List Str} {sp : Sp} {g x n : Str} {p pos pos2 pos3 np hpos : Pos} {e : Expr} {es : List Expr} {t : TA} {ts : TS} {b₀ : Stmt} {suite : List Stmt} {i : Nat}
end
end L2

namespace L2
open PySem PySem.Spec PyProof.Rows
def bls (c : Int) (i : Nat) : List Bool := (List.range i).map fun (j : Nat) => decide (V.int (0 + (j : Int)) = V.int c)
theorem bls_len (c : Int) (i : Nat) : (bls c i).length = i := by unfold bls; rw [List.length_map, List.length_range]
theorem bls_more (c : Int) (i : Nat) : bls c (i + 1) = bls c i ++ [decide (V.int (0 + (i : Int)) = V.int c)] := by
  unfold bls
  rw [List.range_succ, List.map_append]
  rfl
def spAloneS (C : Addr) (k : Int) : Sp := fun vs H Q _ => ∃ e, vs = [.ref e, .int k] ∧ H e = some (.ext (ExcAt C e)) ∧ ∀ H', Same H H' → Q (.bl true) H'
end L2

namespace L2
open PySem PySem.Spec PyProof.Rows
theorem eqv_pairs : ∀ xs ys : List (Int × Int), PyData.eqvAll (xs.map pairD) (ys.map pairD) = decide (xs = ys)
  | [], [] => by simp [PyData.eqvAll]
  | [], _ :: _ => by simp [PyData.eqvAll]
  | _ :: _, [] => by simp [PyData.eqvAll]
  | (a, b) :: xs, (c, d) :: ys => by
    have h : PyData.eqv (pairD (a, b)) (pairD (c, d)) = decide ((a, b) = (c, d)) := by
      show ((a == c) && ((b == d) && true)) = _
      by_cases h1 : a = c <;> by_cases h2 : b = d <;> simp [h1, h2]
    rw [List.map_cons, List.map_cons, PyData.eqvAll, h, eqv_pairs xs ys]
    by_cases h1 : (a, b) = (c, d) <;> by_cases h2 : xs = ys <;> simp [h1, h2]
theorem op_eqPairs {X : Cx} (hu : X.A.units + 64 < cLine) : OpR X (compareOp .Eq) (fun x y H Q => ∃ (p p' : Addr) (rs rs' : List Addr) (xs ys : List (Int × Int)), x = .ref p ∧ y = .ref p' ∧ H p = some (.lst (rs.map V.ref)) ∧ Paired (fun (r : Addr) (x : Int × Int) => H r = some (.tup [.int x.1, .int x.2])) rs xs ∧
    H p' = some (.lst (rs'.map V.ref)) ∧ Paired (fun (r : Addr) (x : Int × Int) => H r = some (.tup [.int x.1, .int x.2])) rs' ys ∧ Q (.bl (decide (xs = ys))) H) := by
  intro pins s σ H x y v u Q I rx ry h
  obtain ⟨p, p', rs, rs', xs, ys, rfl, rfl, hp, tp, hp', tp', q⟩ := h
  cases rx
  cases ry
  obtain ⟨its, rv, ⟨o, n, e1, e2, _, e3⟩, _⟩ := I.list (SqL.of hp)
  obtain ⟨its', rv', ⟨o', n', e1', e2', _, e3'⟩, _⟩ := I.list (SqL.of hp')
  have ra : Reads s.heap (.ref p) (.list (xs.map pairD)) [p] := .list e1 e2 e3 (reads_all2 I tp rv)
  have rb : Reads s.heap (.ref p') (.list (ys.map pairD)) [p'] := .list e1' e2' e3' (reads_all2 I tp' rv')
  have sh : ∀ zs : List (Int × Int), SeqAt.shaped (.list (zs.map pairD)) = true := fun zs => by
    have cl : PyData.canLay0 (.list (zs.map pairD)) = true := lay_pairs zs
    unfold SeqAt.shaped
    rw [cl, Bool.true_and]
    exact decide_eq_true (by have := depth_pairs zs; show PyData.depthAll (zs.map pairD) + 1 ≤ 64; omega)
  refine eq_dataH ra rb (sh xs) (sh ys) hu ?_
  have e : PyData.eqv (.list (xs.map pairD)) (.list (ys.map pairD)) = decide (xs = ys) := by
    rw [PyData.eqv]
    exact eqv_pairs xs ys
  rw [e]
  exact ⟨.bl (decide (xs = ys)), H, I, rfl, q⟩
end L2

namespace L2
open PySem PySem.Spec PyProof.Rows
theorem eqv_bools : ∀ xs ys : List Bool, PyData.eqvAll (xs.map PyData.bool) (ys.map PyData.bool) = decide (xs = ys)
  | [], [] => by simp [PyData.eqvAll]
  | [], _ :: _ => by simp [PyData.eqvAll]
  | _ :: _, [] => by simp [PyData.eqvAll]
  | a :: xs, b :: ys => by
    rw [List.map_cons, List.map_cons, PyData.eqvAll, eqv_bools xs ys, PyData.eqv]
    by_cases h1 : a = b <;> by_cases h2 : xs = ys <;> simp [h1, h2]
theorem op_eqBlG {X : Cx} (hu : X.A.units + 64 < cLine) : OpR X (compareOp .Eq) (fun x y H Q => ∃ (p p' : Addr) (bs bs' : List Bool), x = .ref p ∧ y = .ref p' ∧ H p = some (.lst (bs.map V.bl)) ∧ H p' = some (.lst (bs'.map V.bl)) ∧ SeqAt.shaped (.list (bs.map PyData.bool)) = true ∧ SeqAt.shaped (.list (bs'.map PyData.bool)) = true ∧ Q (.bl (decide (bs = bs'))) H) := by
  intro pins s σ H x y v u Q I rx ry h
  obtain ⟨p, p', bs, bs', rfl, rfl, hp, hp', sh, sh', q⟩ := h
  cases rx
  cases ry
  obtain ⟨its, rv, ⟨o, n, e1, e2, _, e3⟩, _⟩ := I.list (SqL.of hp)
  obtain ⟨its', rv', ⟨o', n', e1', e2', _, e3'⟩, _⟩ := I.list (SqL.of hp')
  have ra : Reads s.heap (.ref p) (.list (bs.map PyData.bool)) [p] := .list e1 e2 e3 (reads_bools _ rv)
  have rb : Reads s.heap (.ref p') (.list (bs'.map PyData.bool)) [p'] := .list e1' e2' e3' (reads_bools _ rv')
  refine eq_dataH ra rb sh sh' hu ?_
  have e : PyData.eqv (.list (bs.map PyData.bool)) (.list (bs'.map PyData.bool)) = decide (bs = bs') := by
    rw [PyData.eqv]
    exact eqv_bools bs bs'
  rw [e]
  exact ⟨.bl (decide (bs = bs')), H, I, rfl, q⟩
theorem reads_ints (h : Heap) : ∀ {ns : List Int} {us : List Value}, Vals (ns.map V.int) us → ReadsAll h us (ns.map PyData.int) []
  | [], _, .nil => .nil
  | n :: r, _, .cons q t => by
    obtain ⟨k, rfl⟩ := q
    exact ReadsAll.cons (as := []) (bs := []) (.int n k) (reads_ints h t)
theorem lay_ints : ∀ ns : List Int, PyData.canLay0 (.list (ns.map PyData.int)) = true ∧ PyData.depthAll (ns.map PyData.int) ≤ 1
  | [] => ⟨rfl, by simp [PyData.depthAll]⟩
  | n :: r => by
    obtain ⟨a, b⟩ := lay_ints r
    constructor
    · simp only [PyData.canLay0, List.map_cons] at a ⊢
      simp_all [PyData.canLay0, PyData.canLayAll0]
    · simp only [List.map_cons, PyData.depthAll, PyData.depth]
      omega
theorem op_neNil {X : Cx} (hu : X.A.units + 64 < cLine) : OpR X (compareOp .NotEq) (fun x y H Q => ∃ (p p' : Addr) (ns : List Int), x = .ref p ∧ y = .ref p' ∧ H p = some (.lst (ns.map V.int)) ∧ H p' = some (.lst []) ∧ Q (.bl (!ns.isEmpty)) H) := by
  intro pins s σ H x y v u Q I rx ry h
  obtain ⟨p, p', ns, rfl, rfl, hp, hp', q⟩ := h
  cases rx
  cases ry
  obtain ⟨its, rv, ⟨o, n, e1, e2, _, e3⟩, _⟩ := I.list (SqL.of hp)
  obtain ⟨its', rv', ⟨o', n', e1', e2', _, e3'⟩, _⟩ := I.list (SqL.of hp')
  have ra : Reads s.heap (.ref p) (.list (ns.map PyData.int)) [p] := .list e1 e2 e3 (reads_ints _ rv)
  have rb : Reads s.heap (.ref p') (.list (([] : List Int).map PyData.int)) [p'] := .list e1' e2' e3' (reads_ints _ (ns := []) rv')
  have sh : ∀ zs : List Int, SeqAt.shaped (.list (zs.map PyData.int)) = true := fun zs => by
    unfold SeqAt.shaped
    rw [(lay_ints zs).1, Bool.true_and]
    exact decide_eq_true (by have := (lay_ints zs).2; show PyData.depthAll (zs.map PyData.int) + 1 ≤ 64; omega)
  refine ne_dataH ra rb (sh ns) (sh []) hu ?_
  have e : (!PyData.eqv (.list (ns.map PyData.int)) (.list (([] : List Int).map PyData.int))) = !ns.isEmpty := by
    rw [PyData.eqv]
    cases ns <;> rfl
  rw [e]
  exact ⟨.bl (!ns.isEmpty), H, I, rfl, q⟩
def tTryAs3 (sp : Sp) (C C2 : Addr) (i : Nat) (ta : TA) (ts : TS) : TS := fun D σ H => ta σ H fun vs H1 => sp vs H1 (fun _ H2 => D.nx σ H2) fun cls _ H2 =>
  (cls = .ref C ∧ ∀ e, H2 e = none → ts (asEnds D i) (σ.set i (some (.ref e))) (upd H2 e (.ext (ExcAt C e)))) ∨ (cls = .ref C2 ∧ ∀ e, H2 e = none → ts (asEnds D i) (σ.set i (some (.ref e))) (upd H2 e (.ext (ExcAt C2 e))))
section
variable {X : Cx} {k : Nat} {f C : Addr} {fd : FuncData} {ps : List Str} {sp : Sp} {g x n : Str} {p pos pos2 pos3 np hpos : Pos} {e : Expr} {es : List Expr} {t : TA} {ts : TS} {b₀ : Stmt} {suite : List Stmt} {i : Nat}
theorem ps_tryAs3 {Dc C2 : Addr} (F : FnOk X.prog X.w X.K X.mg X.base (XF X.prog X.w) k f fd ps sp) (hr : Room k X.A) (hgf : Gl X g) (hmf : X.mg g = some (.ref f)) (hkf : PySem.W.keepIn X.K (.ref f) = true) (hb : Binds X.K fd ps []) (ha : PA X.nox (e :: es) t)
    (hm : X.mg x = some (.ref Dc)) (hg : Gl X x) (hq : PySem.W.excIn X.K C bmVE "ValueError.__new__" = true) (hqD : PySem.W.excIn X.K Dc bmVE "ValueError.__new__" = true) (hcd : PySem.W.mroIn X.K C (.ref Dc) = some true) (hq2 : PySem.W.excIn X.K C2 bmVE "ValueError.__new__" = true) (hcd2 : PySem.W.mroIn X.K C2 (.ref Dc) = some true) (hN : X.N.Nodup) (hi : X.N[i]? = some n) (hk : X.env.scope.names.lookup n = some .local) (hsu : ∀ ea, PSs (X.marked ea) (b₀ :: suite) ts)
    (hst : X.stack = X.env :: X.outer := by rfl) (hf : X.env.frame = some X.env.locals := by rfl)
    (hdf : (g == ("__debug__" : Str)) = false := by decide) (hdb : (x == ("__debug__" : Str)) = false := by decide)
    (he : starEach (e :: es) X.env = (false, eval e X.env) :: starEach es X.env := by rfl) (hpl : (backTo pos (starEach es X.env)).any (·.1) = false := by rfl)
    (hsw : swapsWith (.Call (.Name g p) (e :: es) [] pos) none pos2.line X.env = pure false := by rfl) :
    PS X (.Try [.Expr (.Call (.Name g p) (e :: es) [] pos) pos2] [.ExceptHandler (some (.Name x np)) (some n) (b₀ :: suite) hpos] [] [] pos3) (tTryAs3 sp C C2 i t ts) := by
  intro pins s σ H D I h
  refine wpAny_Try_except (wpAny_execs_cons (wpAny_Expr_any (Q := fun f s₁ => match f with | .next => wpAny (model X.prog X.w) X.A (execs [] X.env) _ _ s₁ | f => _) ?_ I.quiet hsw))
  refine wpAny_Call_Name_kw (ld_glob I hgf hmf ?_ hdf)
  refine PySem.W.callWith_K (h₀ := X.base) I.ok.mod.kin hkf (wpAny_mono (ha pos pins s σ H _ (I.wish _) h) (fun us s1 ⟨vs, H1, I1, r, q⟩ => ⟨I1.unwish.kIn, ?_⟩) fun _ _ z => z.elim) he hpl
  have J := I1.unwish
  have hl : us.length = ps.length := by rw [← r.length]; exact F.len _ _ _ _ q
  have hb' := hb s1 us J.kIn (by rw [List.append_nil]; exact hl)
  rw [List.append_nil] at hb'
  refine wpAny_call (codeAny_mono (F.run X.A X.stack s1 H1 ⟨us, []⟩ us vs _ _ hr J.env0 hb' r q) fun rr s' hq' => ?_)
  cases rr with
  | error ex =>
    obtain ⟨ea, cls, a0, B, H', rfl, fly, hcl⟩ := hq'
    rcases hcl with ⟨hcl, hh⟩ | ⟨hcl, hh⟩
    · subst hcl
      exact handle_as2 J fly hst hf hm hg hq hqD hcd hN hi hk (hsu ea) (hh ea fly.new.2) hdb
    · subst hcl
      exact handle_as2 J fly hst hf hm hg hq2 hqD hcd2 hN hi hk (hsu ea) (hh ea fly.new.2) hdb
  | ok fl =>
    cases fl with
    | ret u =>
      obtain ⟨v, H2, I2, r2, q2⟩ := J.after hq'
      exact wpAny_execs_nil (wpAny_execs_nil ⟨σ, H2, I2, q2⟩)
    | next => exact False.elim hq'
    | brk => exact False.elim hq'
    | cont => exact False.elim hq'
end
end L2

namespace L2
open PySem PySem.Spec PyProof.Rows
inductive IsiE (X : Cx) (C0 : Addr) : List Expr → List Bool → Prop where
  | nil : IsiE X C0 [] []
  | cons {x : Str} {C : Addr} {b : Bool} {p p2 p3 p4 : Pos} {es : List Expr} {bs : List Bool} (h5 : Gl X x) (h6 : X.mg x = some (.ref C)) (h7 : (x == ("__debug__" : Str)) = false) (k : PySem.W.kitOne X.K (.ref C0) (.ref C) = some b) (h : IsiE X C0 es bs) :
      IsiE X C0 (.Call (.Name "isinstance" p) [.Name "_law_e" p2, .Name x p3] [] p4 :: es) (b :: bs)
def tIsis (C0 : Addr) (bs : List Bool) : TA := fun σ H Q => ∃ a, σ[0]? = some (some (V.ref a)) ∧ H a = some (.ext (ExcAt C0 a)) ∧ Q (bs.map V.bl) H
theorem pa_isis {X : Cx} {C0 : Addr} (T : ExcCls X.K C0) (h1 : X.N[0]? = some ("_law_e" : Str)) (h2 : Vis X.env.scope "_law_e") (h3 : Gl X "isinstance") (h4 : X.mg "isinstance" = none) (hb : bootBuiltins "isinstance" = some (.builtin "isinstance")) {es : List Expr} {bs : List Bool} (h : IsiE X C0 es bs) : PA X es (tIsis C0 bs) := by
  induction h with
  | nil =>
    intro pos pins s σ H Q I q
    obtain ⟨a, e1, e2, q⟩ := q
    exact pa_nil pos pins s σ H Q I q
  | @cons x C b p p2 p3 p4 es bs h5 h6 h7 k h ih =>
    intro pos pins s σ H Q I q
    obtain ⟨a, e1, e2, q⟩ := q
    have z := pa_cons (e := .Call (.Name "isinstance" p) [.Name "_law_e" p2, .Name x p3] [] p4) (pe_callB call_isi h3 h4 hb (pa_cons (pv 0 h1 h2) (pa_cons (pe_glob (v := V.ref C) h5 h6 rfl h7) pa_nil))) ih
    exact z pos pins s σ H Q I ⟨_, e1, _, _, _, _, rfl, .inl ⟨_, rfl⟩, .exc T e2, k, a, e1, e2, q⟩
end L2

namespace L2
open PySem PySem.Spec PyProof.Rows
def tSetC (wi : TI) (fr : List Nat) (tc : TT) (te : TE) (k : Nat) : TS := fun D σ H => tCompIf wi fr tc te σ H fun v H' => D.nx (σ.set k (some v)) H'
theorem Inv.off {X : Cx} {pins : List (Addr × Obj)} {σ : St} {H : Hp} {s : Shared} {C : Addr} {h' : Heap} (I : Inv X pins σ H s) (hs : Heap.SameBut C s.heap h') (hC0 : X.s₀.heap.objs.size ≤ C) (hH : H C = none) (hL : C ≠ X.env.locals) (hc : ∀ y c, X.env.cells.lookup y = some c → c ≠ C) (hp : ∀ p ∈ X.pn ++ pins, p.1 ≠ C) : Inv X pins σ H { s with heap := h' } := by
  obtain ⟨m, hn, hl⟩ := id I.loc
  have old : ∀ b o, X.s₀.heap.get? b = some o → h'.get? b = s.heap.get? b := fun b o e => hs.2 b (Nat.ne_of_lt (Nat.lt_of_lt_of_le (Heap.lt_size e) hC0))
  refine ⟨I.ok, I.os, I.bare, ⟨fun b o e k hb hx => (old b o e).trans (I.base.keep b o e k hb hx), fun b o e k hb hx => ?_, I.base.free, fun b o e hx => ?_, I.base.tups, I.base.frzs, I.base.tbls⟩, ⟨m, hn.sameBut hs hL.symm, fun j y v' e1 e2 e3 => ?_⟩, fun y c e => ?_, I.free, I.freeC, fun p q => ?_, fun b ob e => ?_, I.len⟩
  · obtain ⟨sl, e1⟩ := I.base.slot b o e k hb hx
    exact ⟨sl, (old b o e).trans e1⟩
  · obtain ⟨o', e1⟩ := I.base.there b o e hx
    exact ⟨o', (old b o e).trans e1⟩
  · obtain ⟨u', r', q⟩ := hl j y v' e1 e2 e3
    refine ⟨u', r', ?_⟩
    rcases q with q | ⟨k, c, e, z⟩
    · exact .inl q
    · exact .inr ⟨k, c, e, z.sameBut hs (hc y c e)⟩
  · obtain ⟨w', z⟩ := I.cell y c e
    exact ⟨w', z.sameBut hs (hc y c e)⟩
  · obtain ⟨e, k, ne, nf, d⟩ := I.pin p q
    exact ⟨(hs.2 p.1 (hp p q)).trans e, k, ne, nf, d⟩
  · refine (I.hok b ob e).stay (fun c w' hc' q => (hs.2 c ?_).trans q) (fun _ q => q) fun _ _ q => q
    rintro rfl
    rcases hc' with rfl | hc'
    · rw [hH] at e; cases e
    · rw [hH] at hc'; cases hc'
section
variable {X : Cx} {N : List Str} {fr : List Nat} {x : Str} {scope : Scope} {cl : List (Str × Addr)} {elt iter : Expr} {px pos : Pos} {wi : TI} {te : TE}
theorem ps_setC {cnd : Expr} {tc : TT} {y : Str} {py spos : Pos} {k : Nat} (hN : X.N.Nodup) (hk : X.N[k]? = some y) (hy : Loc X.env.scope y) (hsw : swapsWith (.ListComp elt [⟨.Name x px, iter, [cnd], 0⟩] scope pos) (some (.Name y py)) spos.line X.env = pure true) (hc : X.calm = true) (S : CompScope X N fr x scope cl) (hi : PI X (.Name x px) iter wi) (ht : ∀ (C : Addr) (s0 : Shared) (H0 : Hp) (fp : List Addr) (pins : List (Addr × Obj)), PT (cxC X N scope cl C s0 H0 fp pins) cnd tc) (he : ∀ (C : Addr) (s0 : Shared) (H0 : Hp) (fp : List Addr) (pins : List (Addr × Obj)), PE (cxC X N scope cl C s0 H0 fp pins) elt te)
    (hf : X.fn y = true ∨ X.env.scope.names.lookup y = some .local) (hs : ∀ y, foldedSetIterable iter X.env y = pure y := by intro _; rfl) : PS X (.Assign [.Name y py] (.ListComp elt [⟨.Name x px, iter, [cnd], 0⟩] scope pos) spos) (tSetC wi fr tc te k) := by
  intro pins s σ H D I h
  rw [exec_Assign_Name_used _ _ _ _ hsw]
  refine wpAny_bind (wpAny_standAt (wpAny_bind ?_))
  show wpAny _ X.A (do let _ ← comprehension (.ListComp elt [⟨.Name x px, iter, [cnd], 0⟩] scope pos) scope X.env _ (newList []) false (eval iter X.env) (some (assign (.Name y py) X.env))) _ _ s
  refine wpAny_bind (wpAny_mono (comp_core (use := some (assign (.Name y py) X.env)) (R := fun _ s' => SP X pins D .next s') hc S hi (fun _ _ _ _ _ => pts_one (ht _ _ _ _ _)) he hs I h (fun acc C m H6 s7 qn hn hend cf cL cC cP cS => by
    have J7 : Inv X pins σ H6 s7 := hend s7.heap ⟨rfl, fun _ _ => rfl⟩
    show wpAny _ X.A (assign (.Name y py) X.env (.ref acc)) _ _ _
    refine wpAny_assign_Name (store_ok2 J7 hN hk hy (v := .ref acc) rfl (fun s8 J8 ⟨a, hsa, ha⟩ => ?_) hf)
    have aC : C ≠ a := by
      rcases ha with e | e
      · rw [e]; exact Ne.symm cL
      · exact Ne.symm (cC _ _ e)
    exact ⟨m, hn.sameBut hsa aC, fun h' hs' => ⟨_, H6, J8.off hs' cS cf (Ne.symm cL) cC cP, qn⟩⟩)) (fun _ s' hq => wpAny_pure (wpAny_pure hq)) fun _ _ e => e)
end
end L2

namespace K17
open PySem L2
def top (i : Nat) : Stmt := PySem.Challenge.pw_conicplaces_k17_pair_signs.main.body.getD i (.Pass ⟨0, 0, 0, 0⟩)
abbrev s_prime_parts : Stmt := top 18
abbrev s_divisor_after : Stmt := top 19
abbrev s_taken_out : Stmt := top 20
abbrev s_is_prime : Stmt := top 21
abbrev s_sign_by : Stmt := top 23
abbrev s_sign_of_two : Stmt := top 24
abbrev s_sign_of_turn : Stmt := top 25
abbrev s_pair_sign : Stmt := top 27
abbrev s_sign_at : Stmt := top 28
abbrev s_sign_at_odd : Stmt := top 29
abbrev s_sign_at_two : Stmt := top 30
abbrev s_cell_at : Stmt := top 32
abbrev s_churn : Stmt := top 33
abbrev s_whole : Stmt := top 34
abbrev s_primes : Stmt := top 35
abbrev s_number : Stmt := top 36
abbrev s_place : Stmt := top 37
abbrev s_sign : Stmt := top 38
abbrev s_alone : Stmt := top 39
abbrev s_refused : Stmt := top 40
abbrev s_odd_places : Stmt := top 41
abbrev s_law : Stmt := top 42
structure Adr where
  (ce c0 c1 c2 c3 c4 c5 c6 c7 c8 c9 c10 c11 c12 c13 c14 : Addr)
structure Txt (K : PySem.W.Frag) (mg : Str → Option Value) (t : Adr) : Prop where
  m_CurveError : mg "CurveError" = some (.ref t.ce)
  m_BadPlace : mg "BadPlace" = some (.ref t.c0)
  m_Flat : mg "Flat" = some (.ref t.c1)
  m_NoBack : mg "NoBack" = some (.ref t.c2)
  m_NoJoin : mg "NoJoin" = some (.ref t.c3)
  m_NoLine : mg "NoLine" = some (.ref t.c4)
  m_NoName : mg "NoName" = some (.ref t.c5)
  m_NoNumber : mg "NoNumber" = some (.ref t.c6)
  m_NoPair : mg "NoPair" = some (.ref t.c7)
  m_NoPlace : mg "NoPlace" = some (.ref t.c8)
  m_NoRow : mg "NoRow" = some (.ref t.c9)
  m_NoSign : mg "NoSign" = some (.ref t.c10)
  m_NoText : mg "NoText" = some (.ref t.c11)
  m_NoVertex : mg "NoVertex" = some (.ref t.c12)
  m_NotPlain : mg "NotPlain" = some (.ref t.c13)
  m_OffCurve : mg "OffCurve" = some (.ref t.c14)
  i_ce : PySem.W.kitOne K (.ref t.c6) (.ref t.ce) = some true
  i_0 : PySem.W.kitOne K (.ref t.c6) (.ref t.c0) = some false
  i_1 : PySem.W.kitOne K (.ref t.c6) (.ref t.c1) = some false
  i_2 : PySem.W.kitOne K (.ref t.c6) (.ref t.c2) = some false
  i_3 : PySem.W.kitOne K (.ref t.c6) (.ref t.c3) = some false
  i_4 : PySem.W.kitOne K (.ref t.c6) (.ref t.c4) = some false
  i_5 : PySem.W.kitOne K (.ref t.c6) (.ref t.c5) = some false
  i_6 : PySem.W.kitOne K (.ref t.c6) (.ref t.c6) = some true
  i_7 : PySem.W.kitOne K (.ref t.c6) (.ref t.c7) = some false
  i_8 : PySem.W.kitOne K (.ref t.c6) (.ref t.c8) = some false
  i_9 : PySem.W.kitOne K (.ref t.c6) (.ref t.c9) = some false
  i_10 : PySem.W.kitOne K (.ref t.c6) (.ref t.c10) = some false
  i_11 : PySem.W.kitOne K (.ref t.c6) (.ref t.c11) = some false
  i_12 : PySem.W.kitOne K (.ref t.c6) (.ref t.c12) = some false
  i_13 : PySem.W.kitOne K (.ref t.c6) (.ref t.c13) = some false
  i_14 : PySem.W.kitOne K (.ref t.c6) (.ref t.c14) = some false
  i_ve : PySem.W.kitOne K (.ref t.c6) (.type "ValueError") = some true
  e0 : (PySem.W.clsIn K t.c6).isSome = true
  e1 : PySem.W.findIn K (.ref t.c6) "__getattribute__" = some (some (.builtin "BaseException.__getattribute__"))
  e2 : PySem.W.findIn K (.ref t.c6) "__getattr__" = some none
  e3 : PySem.W.findIn K (.ref t.c6) "__class__" = some (some (.builtin "object.__class__"))
  e4 : PySem.W.specialIn K (.builtin "object.__class__") "__get__" = some (some (.builtin "getset_descriptor.__get__"))
  e5 : PySem.W.takesIn K (.builtin "object.__class__") = some true
  e6 : PySem.W.mroIn K t.c6 (.type "object") = some true
  e7 : PySem.W.mroIn K t.c6 (.type "BaseException") = some true
  x_NoNumber : PySem.W.excIn K t.c6 bmVE "ValueError.__new__" = true
  i_ce_2 : PySem.W.kitOne K (.ref t.c8) (.ref t.ce) = some true
  i_0_2 : PySem.W.kitOne K (.ref t.c8) (.ref t.c0) = some false
  i_1_2 : PySem.W.kitOne K (.ref t.c8) (.ref t.c1) = some false
  i_2_2 : PySem.W.kitOne K (.ref t.c8) (.ref t.c2) = some false
  i_3_2 : PySem.W.kitOne K (.ref t.c8) (.ref t.c3) = some false
  i_4_2 : PySem.W.kitOne K (.ref t.c8) (.ref t.c4) = some false
  i_5_2 : PySem.W.kitOne K (.ref t.c8) (.ref t.c5) = some false
  i_6_2 : PySem.W.kitOne K (.ref t.c8) (.ref t.c6) = some false
  i_7_2 : PySem.W.kitOne K (.ref t.c8) (.ref t.c7) = some false
  i_8_2 : PySem.W.kitOne K (.ref t.c8) (.ref t.c8) = some true
  i_9_2 : PySem.W.kitOne K (.ref t.c8) (.ref t.c9) = some false
  i_10_2 : PySem.W.kitOne K (.ref t.c8) (.ref t.c10) = some false
  i_11_2 : PySem.W.kitOne K (.ref t.c8) (.ref t.c11) = some false
  i_12_2 : PySem.W.kitOne K (.ref t.c8) (.ref t.c12) = some false
  i_13_2 : PySem.W.kitOne K (.ref t.c8) (.ref t.c13) = some false
  i_14_2 : PySem.W.kitOne K (.ref t.c8) (.ref t.c14) = some false
  i_ve_2 : PySem.W.kitOne K (.ref t.c8) (.type "ValueError") = some true
  e0_2 : (PySem.W.clsIn K t.c8).isSome = true
  e1_2 : PySem.W.findIn K (.ref t.c8) "__getattribute__" = some (some (.builtin "BaseException.__getattribute__"))
  e2_2 : PySem.W.findIn K (.ref t.c8) "__getattr__" = some none
  e3_2 : PySem.W.findIn K (.ref t.c8) "__class__" = some (some (.builtin "object.__class__"))
  e4_2 : PySem.W.specialIn K (.builtin "object.__class__") "__get__" = some (some (.builtin "getset_descriptor.__get__"))
  e5_2 : PySem.W.takesIn K (.builtin "object.__class__") = some true
  e6_2 : PySem.W.mroIn K t.c8 (.type "object") = some true
  e7_2 : PySem.W.mroIn K t.c8 (.type "BaseException") = some true
  x_NoPlace : PySem.W.excIn K t.c8 bmVE "ValueError.__new__" = true
  x_CurveError : PySem.W.excIn K t.ce bmVE "ValueError.__new__" = true
  u_NoNumber : PySem.W.mroIn K t.c6 (.ref t.ce) = some true
  u_NoPlace : PySem.W.mroIn K t.c8 (.ref t.ce) = some true
  i_ib : PySem.W.kitOne K (.type "int") (.type "bool") = some false
  z_isinstance : mg "isinstance" = none
  z_int : mg "int" = none
  z_bool : mg "bool" = none
  z_len : mg "len" = none
  z_range : mg "range" = none
  z_ValueError : mg "ValueError" = none
theorem Txt.exc {K : PySem.W.Frag} {mg : Str → Option Value} {t : Adr} (T : Txt K mg t) : ExcCls K t.c6 := ⟨T.e0, T.e1, T.e2, T.e3, T.e4, T.e5, T.e6, T.e7⟩
theorem Txt.exc_2 {K : PySem.W.Frag} {mg : Str → Option Value} {t : Adr} (T : Txt K mg t) : ExcCls K t.c8 := ⟨T.e0_2, T.e1_2, T.e2_2, T.e3_2, T.e4_2, T.e5_2, T.e6_2, T.e7_2⟩
theorem b_isi : bootBuiltins "isinstance" = some (.builtin "isinstance") := by decide +kernel
theorem b_int : bootBuiltins "int" = some (.type "int") := by decide +kernel
theorem b_bool : bootBuiltins "bool" = some (.type "bool") := by decide +kernel
theorem b_ValueError : bootBuiltins "ValueError" = some (.type "ValueError") := by decide +kernel
theorem byL0 {P : List Value → Prop} (h : P []) : ∀ us : List Value, us.length = 0 → P us := fun us hl => match us, hl with | [], _ => h
theorem byL1 {P : List Value → Prop} (h : ∀ a0 : Value, P [a0]) : ∀ us : List Value, us.length = 1 → P us := fun us hl => match us, hl with | [a0], _ => h a0
theorem byL2 {P : List Value → Prop} (h : ∀ a0 a1 : Value, P [a0, a1]) : ∀ us : List Value, us.length = 2 → P us := fun us hl => match us, hl with | [a0, a1], _ => h a0 a1
theorem byL3 {P : List Value → Prop} (h : ∀ a0 a1 a2 : Value, P [a0, a1, a2]) : ∀ us : List Value, us.length = 3 → P us := fun us hl => match us, hl with | [a0, a1, a2], _ => h a0 a1 a2
theorem iteDF {c A B : Prop} [Decidable c] (hc : ¬ c) (h : B) : if decide c = true then A else B := by
  rw [decide_eq_false hc]
  exact iteF h
theorem iteDT {c A B : Prop} [Decidable c] (hc : c) (h : A) : if decide c = true then A else B := by
  rw [decide_eq_true hc]
  exact iteT h
theorem neT {c : Prop} [Decidable c] (h : (!decide c) = true) : ¬ c := by
  intro z
  rw [decide_eq_true z] at h
  cases h
theorem neF {c : Prop} [Decidable c] (h : ¬ (!decide c) = true) : c := by
  by_cases z : c
  · exact z
  · exact absurd (by rw [decide_eq_false z]; rfl) h
theorem mulS {a b : Int} (h1 : -(2 ^ 64) < b) (h2 : b < 2 ^ 64) : IntMulOk a b := IntMulOk.of_right (intBits_le_64 h1 h2)
theorem blT {Q : VK} {c : Prop} [Decidable c] {H : Hp} (h : c) (q : Q (.bl true) H) : Q (.bl (decide c)) H := by
  rw [decide_eq_true h]
  exact q
def spTaken : Sp := fun vs H Q _ => ∃ (x p : Int), vs = [.int x, .int p] ∧ x ≠ 0 ∧ 2 ≤ p ∧ p.natAbs.log2 < 9000 ∧ ∀ (r : Addr) (H' : Hp) (o l : Int), Same H H' → H' r = some (.tup [.int o, .int l]) → Pr.Inn x p l o → 0 ≤ o → l.fmod p ≠ 0 → l ≠ 0 → l.natAbs ≤ x.natAbs → (0 < x → 0 < l) → (x < 0 → l < 0) → Q (.ref r) H'
theorem taken_less {l p : Int} (h2 : 2 ≤ p) (l0 : l ≠ 0) (hz : l.fmod p = 0) : l.fdiv p ≠ 0 ∧ (l.fdiv p).natAbs < l.natAbs ∧ (0 < l → 0 < l.fdiv p) ∧ (l < 0 → l.fdiv p < 0) := by
  have q := Pr.quot l p
  rw [hz] at q
  have e : l = p * l.fdiv p := by omega
  generalize l.fdiv p = k at e
  have k0 : k ≠ 0 := fun z => l0 (by rw [e, z, Int.mul_zero])
  have ea : l.natAbs = p.natAbs * k.natAbs := by rw [e, Int.natAbs_mul]
  have pa : 2 ≤ p.natAbs := by omega
  have ka : 1 ≤ k.natAbs := by omega
  refine ⟨k0, ?_, fun h => ?_, fun h => ?_⟩
  · have := Nat.mul_le_mul_right k.natAbs pa
    omega
  · rcases Int.lt_trichotomy k 0 with z | z | z
    · have := Int.mul_neg_of_pos_of_neg (show 0 < p by omega) z
      omega
    · exact absurd z k0
    · exact z
  · rcases Int.lt_trichotomy k 0 with z | z | z
    · exact z
    · exact absurd z k0
    · have := Int.mul_pos (show 0 < p by omega) z
      omega

theorem in35 (z : Int) : inV (.int z) [.int 3, .int 5] = decide (z = 3 ∨ z = 5) := by
  show ((3 : Int) == z || ((5 : Int) == z || false)) = _
  by_cases h3 : z = 3
  · subst h3; rfl
  · by_cases h5 : z = 5
    · subst h5; rfl
    · have e3 : ((3 : Int) == z) = false := by simpa using fun e => h3 (Eq.symm e)
      have e5 : ((5 : Int) == z) = false := by simpa using fun e => h5 (Eq.symm e)
      rw [e3, e5, decide_eq_false (by simp [h3, h5])]
      rfl
theorem twoI_or (b : Int) : Jc.twoI b = 1 ∨ Jc.twoI b = -1 := by unfold Jc.twoI; split <;> simp
theorem turnI_or (a b : Int) : Jc.turnI a b = 1 ∨ Jc.turnI a b = -1 := by unfold Jc.turnI; split <;> simp
def spTwoI : Sp := fun vs H Q _ => ∃ x : Int, vs = [.int x] ∧ ∀ H', Same H H' → Q (.int (Jc.twoI x)) H'
def spTurnI : Sp := fun vs H Q _ => ∃ a b : Int, vs = [.int a, .int b] ∧ Q (.int (Jc.turnI a b)) H
def spSign : Sp := fun vs H Q _ => ∃ x n : Int, vs = [.int x, .int n] ∧ 0 < n ∧ n % 2 = 1 ∧ n < 2 ^ 64 ∧ ∀ H', Same H H' → Q (.int (Jc.J x n)) H'
def WS (x n : Int) (H : Hp) (m : Nat) (σ : St) (H' : Hp) : Prop := ∃ (sg top bot : Int) (tw od : Option V), σ = [some (.int x), some (.int n), some (.int sg), some (.int top), some (.int bot), tw, od] ∧ Same H H' ∧ 0 ≤ top ∧ 0 < bot ∧ bot % 2 = 1 ∧ bot < 2 ^ 64 ∧ top < 2 ^ 64 ∧ (sg = 1 ∨ sg = -1) ∧ sg * Jc.J top bot = Jc.J x n ∧ m = top.toNat

abbrev TupL (H : Hp) (rs : List Addr) (xs : List (Int × Int)) : Prop := Paired (fun (r : Addr) (x : Int × Int) => H r = some (.tup [.int x.1, .int x.2])) rs xs
theorem TupL.same {H H' : Hp} (g : Same H H') : ∀ {rs : List Addr} {xs : List (Int × Int)}, TupL H rs xs → TupL H' rs xs
  | _, _, .nil => .nil
  | _, _, .cons h t => .cons (g _ _ h) (TupL.same g t)
theorem TupL.app {H : Hp} {r : Addr} {x : Int × Int} (h : H r = some (.tup [.int x.1, .int x.2])) : ∀ {rs : List Addr} {xs : List (Int × Int)}, TupL H rs xs → TupL H (rs ++ [r]) (xs ++ [x])
  | _, _, .nil => .cons h .nil
  | _, _, .cons h' t => .cons h' (TupL.app h t)
theorem TupL.upd {H : Hp} {a : Addr} {o : HO} : ∀ {rs : List Addr} {xs : List (Int × Int)}, TupL H rs xs → (∀ ys, H a ≠ some (.tup ys)) → TupL (upd H a o) rs xs
  | _, _, .nil, _ => .nil
  | _, _, .cons h t, n => .cons (by rw [upd_ne (fun z => by subst z; exact n _ h)]; exact h) (TupL.upd t n)
theorem TupL.len {H : Hp} : ∀ {rs : List Addr} {xs : List (Int × Int)}, TupL H rs xs → rs.length = xs.length
  | _, _, .nil => rfl
  | _, _, .cons _ t => by rw [List.length_cons, List.length_cons, TupL.len t]
def spAfter : Sp := fun vs H Q _ => ∃ d : Int, vs = [.int d] ∧ Q (.int (if d = 2 then 3 else d + 2)) H
def spParts (C : Addr) : Sp := fun vs H Q E => ∃ n : Int, vs = [.int n] ∧ ((n < 1 ∧ E (.ref C) none H) ∨ (1 ≤ n ∧ n ≤ 10000000000 ∧
  ∀ (p : Addr) (rs : List Addr) (xs : List (Int × Int)) (H' : Hp), Same H H' → H p = none → H' p = some (.lst (rs.map V.ref)) → TupL H' rs xs → Pr.Told n xs → Q (.ref p) H'))
def W1 (n : Int) (pl : Addr) (H : Hp) (m : Nat) (σ : St) (H' : Hp) : Prop := ∃ (left d : Int) (xs : List (Int × Int)) (rs : List Addr) (of : Option V), σ = [some (.int n), some (.ref pl), some (.int left), some (.int d), of] ∧ Same H H' ∧ H' pl = some (.lst (rs.map V.ref)) ∧
  TupL H' rs xs ∧ Pr.Out n left d xs ∧ 2 ≤ d ∧ d ≤ 10000000002 ∧ 1 ≤ left ∧ m = (left + 1 - d).toNat
theorem le_sq {g : Int} (h : 1 ≤ g) : g ≤ g * g := by
  have := Int.mul_le_mul_of_nonneg_right h (show 0 ≤ g by omega)
  omega
theorem short {n : Int} {xs : List (Int × Int)} (h : ∀ x ∈ xs, Pr.Part x) (hn : Pr.prodP xs ≤ n) (n1 : n ≤ 10000000000) : xs.length < 40 := by
  have h1 := Pr.len_le h
  rcases Nat.lt_or_ge xs.length 40 with h2 | h2
  · exact h2
  · have h3 := Pr.pow_mono h2
    have : (2 : Int) ^ 40 = 1099511627776 := by decide
    omega
theorem out_prod {n left d : Int} {xs : List (Int × Int)} (h : Pr.Out n left d xs) (l1 : 1 ≤ left) : Pr.prodP xs ≤ n := by
  have e := h.prod
  have := Pr.mul_ge l1 (Int.le_refl (Pr.prodP xs)) (by have := Pr.prodP_pos h.all; omega)
  omega
theorem grown {H H1 : Hp} {pl p : Addr} {rs : List Addr} {xs : List (Int × Int)} {x : Int × Int} (g : Same H H1) (hn : H pl = none) (hp : H1 p = none) (h1 : H1 pl = some (.lst (rs.map V.ref))) (h2 : TupL H1 rs xs) :
    Same H (upd (upd H1 p (.tup [.int x.1, .int x.2])) pl (.lst (rs.map V.ref ++ [.ref p]))) ∧ (upd (upd H1 p (.tup [.int x.1, .int x.2])) pl (.lst (rs.map V.ref ++ [.ref p]))) pl = some (.lst ((rs ++ [p]).map V.ref)) ∧
    TupL (upd (upd H1 p (.tup [.int x.1, .int x.2])) pl (.lst (rs.map V.ref ++ [.ref p]))) (rs ++ [p]) (xs ++ [x]) := by
  have npl : p ≠ pl := fun z => by subst z; rw [h1] at hp; cases hp
  have g2 := same_new hp (.tup [.int x.1, .int x.2])
  refine ⟨fun b o q => ?_, ?_, ?_⟩
  · rw [upd_ne (ne_of_none q hn)]
    exact g2 b o (g b o q)
  · rw [upd_same, List.map_append]
    rfl
  · have t : TupL (L2.upd H1 p (.tup [.int x.1, .int x.2])) (rs ++ [p]) (xs ++ [x]) := TupL.app upd_same (TupL.same g2 h2)
    exact t.upd fun ys z => by
      rw [upd_ne npl.symm, h1] at z
      cases z

def spParts0 : Sp := fun vs H Q E => ∃ n : Int, vs = [.int n] ∧ 1 ≤ n ∧ n ≤ 10000000000 ∧
  ∀ (p : Addr) (rs : List Addr) (xs : List (Int × Int)) (H' : Hp), Same H H' → H p = none → H' p = some (.lst (rs.map V.ref)) → TupL H' rs xs → Pr.Told n xs → Q (.ref p) H'
theorem small1000 {n : Nat} (h : n < 1000) : n < sizeLine := Nat.lt_of_lt_of_le h (by decide)

theorem hu64_of {A : Around} {k : Nat} (hr : Room k A) : A.units + 64 < cLine := by
  have := hr.un
  omega
def spIsPrime : Sp := fun vs H Q _ => ∃ n : Int, vs = [.int n] ∧ n ≤ 10000000000 ∧ ∀ (b : Bool) (H' : Hp), Same H H' → (b = true ↔ Pr.Prm n) → Q (.bl b) H'
def spAtTwo : Sp := fun vs H Q _ => ∃ (r1 r2 : Addr) (o1 l1 o2 l2 : Int), vs = [.ref r1, .ref r2] ∧ H r1 = some (.tup [.int o1, .int l1]) ∧ H r2 = some (.tup [.int o2, .int l2]) ∧ ∀ H', Same H H' → Q (.int (Jc.two4 o1 l1 o2 l2)) H'
def spAtOdd : Sp := fun vs H Q _ => ∃ (r1 r2 : Addr) (o1 l1 o2 l2 p : Int), vs = [.ref r1, .ref r2, .int p] ∧ H r1 = some (.tup [.int o1, .int l1]) ∧ H r2 = some (.tup [.int o2, .int l2]) ∧ 0 < p ∧ p % 2 = 1 ∧ p < 2 ^ 64 ∧ l2.natAbs < 2 ^ 64 ∧ ∀ H', Same H H' → Q (.int (Jc.odd4 p o1 l1 o2 l2)) H'
def At (a b p v : Int) : Prop := (p = 0 ∧ v = if a < 0 ∧ b < 0 then -1 else 1) ∨ (Pr.Prm p ∧ p < 10000000000 ∧ ∃ o1 l1 o2 l2, Jc.Dec a p l1 o1 ∧ Jc.Dec b p l2 o2 ∧ v = Jc.hs p o1 l1 o2 l2)
def spAt : Sp := fun vs H Q _ => ∃ a b p v : Int, vs = [.int a, .int b, .int p] ∧ a ≠ 0 ∧ b ≠ 0 ∧ b.natAbs < 2 ^ 64 ∧ At a b p v ∧ ∀ H', Same H H' → Q (.int v) H'
theorem told_prime {p : Int} {xs : List (Int × Int)} (hp : Pr.Prm p) (h : Pr.Told p xs) : xs = [(p, 1)] := by
  refine Pr.told_unique xs [(p, 1)] h.all h.rise (fun y hy => ?_) (List.pairwise_singleton _ _) (h.prod.trans ?_)
  · rw [List.mem_singleton.mp hy]
    exact ⟨hp, Int.le_refl 1⟩
  · rw [Pr.prodP_one]
    exact (Int.pow_one p).symm
theorem prime_told {p : Int} (h : Pr.Told p [(p, 1)]) : Pr.Prm p := (h.all (p, 1) (List.mem_singleton.mpr rfl)).prime
theorem prm_odd {p : Int} (h : Pr.Prm p) (n2 : p ≠ 2) : p % 2 = 1 := by
  rcases (show p % 2 = 0 ∨ p % 2 = 1 by omega) with z | z
  · have := h.two
    exact absurd (Int.dvd_of_emod_eq_zero z) (h.no 2 (by omega) (by omega))
  · exact z

def spChurn : Sp := fun vs H Q _ => ∃ (c t : Int), vs = [.int c, .int t] ∧ 0 ≤ t ∧ t ≤ 100 ∧ ∀ x : Int, 0 ≤ x → x ≤ 2147483563 → Q (.int x) H
def Good (p : Int) : Prop := p = 0 ∨ (Pr.Prm p ∧ p < 10000000000)
theorem at_ex {a b p : Int} (hp : Good p) (a0 : a ≠ 0) (b0 : b ≠ 0) : ∃ v, At a b p v := by
  rcases hp with rfl | ⟨hp, pb⟩
  · exact ⟨_, .inl ⟨rfl, rfl⟩⟩
  · obtain ⟨l1, o1, d1⟩ := Jc.dec_ex hp.two _ a a0 (Nat.le_refl _)
    obtain ⟨l2, o2, d2⟩ := Jc.dec_ex hp.two _ b b0 (Nat.le_refl _)
    exact ⟨_, .inr ⟨hp, pb, o1, l1, o2, l2, d1, d2, rfl⟩⟩
theorem prm_ne0 {p : Int} (h : Pr.Prm p) : p ≠ 0 := by have := h.two; omega
theorem At.or {a b p v : Int} (h : At a b p v) : v = 1 ∨ v = -1 := by
  rcases h with ⟨_, h⟩ | ⟨hp, _, o1, l1, o2, l2, d1, d2, h⟩
  · rw [h]; split <;> simp
  · rw [h]; exact Jc.hs_or hp d1 d2
theorem At.sym {a b p v : Int} (h : At a b p v) : At b a p v := by
  rcases h with ⟨e, h⟩ | ⟨hp, pb, o1, l1, o2, l2, d1, d2, h⟩
  · refine .inl ⟨e, ?_⟩
    rw [h]
    by_cases c1 : a < 0 <;> by_cases c2 : b < 0 <;> simp [c1, c2]
  · exact .inr ⟨hp, pb, o2, l2, o1, l1, d2, d1, by rw [h, Jc.hs_sym]⟩
theorem At.mul {a b c p v w : Int} (b0 : b ≠ 0) (c0 : c ≠ 0) (h : At a b p v) (k : At a c p w) : At a (b * c) p (v * w) := by
  rcases h with ⟨e, h⟩ | ⟨hp, pb, o1, l1, o2, l2, d1, d2, h⟩
  · rcases k with ⟨_, k⟩ | ⟨hp, _⟩
    · refine .inl ⟨e, ?_⟩
      rw [h, k]
      rcases (show b < 0 ∨ 0 < b by omega) with b1 | b1 <;> rcases (show c < 0 ∨ 0 < c by omega) with c1 | c1
      · have := Int.mul_pos_of_neg_of_neg b1 c1
        by_cases a1 : a < 0
        · rw [if_pos ⟨a1, b1⟩, if_pos ⟨a1, c1⟩, if_neg (fun z => by omega)]; rfl
        · rw [if_neg (fun z => a1 z.1), if_neg (fun z => a1 z.1), if_neg (fun z => a1 z.1)]; rfl
      · have := Int.mul_neg_of_neg_of_pos b1 c1
        by_cases a1 : a < 0
        · rw [if_pos ⟨a1, b1⟩, if_neg (fun z => by omega), if_pos ⟨a1, this⟩]; rfl
        · rw [if_neg (fun z => a1 z.1), if_neg (fun z => a1 z.1), if_neg (fun z => a1 z.1)]; rfl
      · have := Int.mul_neg_of_pos_of_neg b1 c1
        by_cases a1 : a < 0
        · rw [if_neg (fun z => by omega), if_pos ⟨a1, c1⟩, if_pos ⟨a1, this⟩]; rfl
        · rw [if_neg (fun z => a1 z.1), if_neg (fun z => a1 z.1), if_neg (fun z => a1 z.1)]; rfl
      · have := Int.mul_pos b1 c1
        rw [if_neg (fun z => by omega), if_neg (fun z => by omega), if_neg (fun z => by omega)]; rfl
    · exact absurd e (prm_ne0 hp)
  · rcases k with ⟨e, _⟩ | ⟨_, _, o1', l1', o3, l3, d1', d3, k⟩
    · exact absurd e (prm_ne0 hp)
    · obtain ⟨rfl, rfl⟩ := d1'.unique (prm_ne0 hp) d1
      exact .inr ⟨hp, pb, _, _, _, _, d1, d2.mul hp d3, by rw [h, k, Jc.hs_mul hp d1 d2 d3]⟩
theorem At.sq {a b c p v w : Int} (b0 : b ≠ 0) (c0 : c ≠ 0) (h : At a b p v) (k : At a c p w) : At a (b * c * c) p v := by
  have z := (h.mul b0 c0 k).mul (Int.mul_ne_zero b0 c0) c0 k
  have e : v * w * w = v := by rw [Int.mul_assoc]; rcases k.or with q | q <;> rw [q] <;> omega
  rw [e] at z
  exact z
theorem at_neg {a p : Int} (hp : Good p) (a0 : a ≠ 0) : At a (0 - a) p 1 := by
  rcases hp with rfl | ⟨hp, pb⟩
  · exact .inl ⟨rfl, by rw [if_neg (fun z => by omega)]⟩
  · obtain ⟨l1, o1, d1⟩ := Jc.dec_ex hp.two _ a a0 (Nat.le_refl _)
    exact .inr ⟨hp, pb, o1, l1, o1, -l1, d1, by rw [Int.zero_sub]; exact d1.neg, (Jc.hs_neg hp d1).symm⟩
theorem at_less {a p : Int} (hp : Good p) (a0 : a ≠ 0) (a1 : a ≠ 1) : At a (1 - a) p 1 := by
  rcases hp with rfl | ⟨hp, pb⟩
  · exact .inl ⟨rfl, by rw [if_neg (fun z => by omega)]⟩
  · obtain ⟨l1, o1, d1⟩ := Jc.dec_ex hp.two _ a a0 (Nat.le_refl _)
    obtain ⟨l2, o2, d2⟩ := Jc.dec_ex hp.two _ (1 - a) (by omega) (Nat.le_refl _)
    exact .inr ⟨hp, pb, o1, l1, o2, l2, d1, d2, (Jc.hs_less hp d1 d2).symm⟩
abbrev Pa : List Int := [2, 3, 5, 7, 11, 13, 17, 19, 23, 29, 31, 37]
abbrev Pb : List Int := [41, 43, 47, 53, 59, 101, 499, 997]
abbrev P20 : List Int := [2, 3, 5, 7, 11, 13, 17, 19, 23, 29, 31, 37, 41, 43, 47, 53, 59, 101, 499, 997]
abbrev P8 : List Int := [61, 67, 83, 103, 211, 307, 9973, 999983]
abbrev N8 : List Int := [2, 2, 2, 3, 3, 5, 7, 13]
abbrev O11 : List Int := [11, 19, 23, 31, 73, 89, 103, 107, 211, 499, 997]
theorem chkP20 : ((P20 ++ P8).all fun p => decide (2 ≤ p ∧ p < 1000000) && Jc.noDiv2 p.toNat 1000) = true := by decide +kernel
theorem prm20 {p : Int} (h : p ∈ P20 ++ P8) : Pr.Prm p ∧ p < 1000000 := by
  have c := List.all_eq_true.mp chkP20 p h
  rw [Bool.and_eq_true] at c
  have b := of_decide_eq_true c.1
  have q := Jc.prm_by2 (p := p.toNat) (m := 1000) (by omega) (by omega) c.2
  rw [Int.toNat_of_nonneg (by omega)] at q
  exact ⟨q, b.2⟩
theorem good20 {p : Int} (h : p ∈ P20 ++ P8) : Good p := .inr ⟨(prm20 h).1, by have := (prm20 h).2; omega⟩
theorem atL {L : List Int} {k : Int} (h0 : 0 ≤ k) (h1 : k < (L.length : Nat)) : ∃ z, z ∈ L ∧ atI (L.map V.int) k = some (.int z) := by
  have hk : k.toNat < L.length := by omega
  refine ⟨L[k.toNat], List.getElem_mem hk, ?_⟩
  have q : atI (L.map V.int) ((k.toNat : Nat) : Int) = some (.int L[k.toNat]) := atI_nat (by
    rw [List.getElem?_map, List.getElem?_eq_getElem hk]
    rfl)
  rw [show ((k.toNat : Nat) : Int) = k by omega] at q
  exact q
theorem n8_in {z : Int} (h : z ∈ N8) : 1 ≤ z ∧ z ≤ 13 := by
  have c : (N8.all fun z => decide (1 ≤ z ∧ z ≤ 13)) = true := by decide
  exact of_decide_eq_true (List.all_eq_true.mp c z h)
theorem o11_in {z : Int} (h : z ∈ O11) : 2 ≤ z ∧ z ≤ 997 := by
  have c : (O11.all fun z => decide (2 ≤ z ∧ z ≤ 997)) = true := by decide
  exact of_decide_eq_true (List.all_eq_true.mp c z h)
theorem p20_in {z : Int} (h : z ∈ P20) : 2 ≤ z ∧ z ≤ 997 := by
  have c : (P20.all fun z => decide (2 ≤ z ∧ z ≤ 997)) = true := by decide
  exact of_decide_eq_true (List.all_eq_true.mp c z h)
def NoPl (n : Int) : Prop := n ≠ 0 ∧ ¬ Pr.Prm n ∧ n ≤ 10000000000
theorem nopl_small {n : Int} (h0 : n ≠ 0) (h : n ≤ 1) : NoPl n := ⟨h0, fun z => by have := z.two; omega, by omega⟩
theorem nopl_prod {x y : Int} (hx : 2 ≤ x ∧ x ≤ 997) (hy : 2 ≤ y ∧ y ≤ 997) : NoPl (x * y) := by
  have h1 := Int.mul_le_mul hx.2 hy.2 (by omega) (by decide)
  have h2 := Int.mul_le_mul hx.1 hy.1 (by decide) (by omega)
  exact ⟨by omega, Jc.prm_prod hx.1 hy.1, by omega⟩
theorem nopl_four : NoPl 4 := ⟨by decide, fun z => z.no 2 (by decide) (by decide) (by decide), by decide⟩
theorem not11 (j : Int) (h : j = 1 ∨ j = -1) : (!inV (.int j) [.int 1, .int (-1)]) = false := by
  rcases h with rfl | rfl <;> rfl
theorem line_big {k : Nat} (h : k ≤ 4000) : k < sizeLine := Nat.lt_of_le_of_lt h (by decide)
def spPairX (C C2 : Addr) : Sp := fun vs H Q E => ∃ a b p : Int, vs = [.int a, .int b, .int p] ∧ (((a = 0 ∨ b = 0) ∧ E (.ref C) none H) ∨ (a ≠ 0 ∧ b ≠ 0 ∧ NoPl p ∧ ∀ H', Same H H' → E (.ref C2) none H') ∨
  (a ≠ 0 ∧ b ≠ 0 ∧ b.natAbs < 2 ^ 64 ∧ ∃ v, At a b p v ∧ ∀ H', Same H H' → Q (.int v) H'))
def spPrimes : Sp := fun vs H Q _ => vs = [] ∧ ∀ (p : Addr) (H' : Hp), Same H H' → H' p = some (.lst (P20.map V.int)) → Q (.ref p) H'
def spNumber : Sp := fun vs H Q _ => ∃ c t m : Int, vs = [.int c, .int t, .int m] ∧ 0 ≤ t ∧ t ≤ 10 ∧ 1 ≤ m ∧ m ≤ 1000 ∧ ∀ (x : Int) (H' : Hp), Same H H' → x ≠ 0 → x.natAbs ≤ 1000 → Q (.int x) H'
def spPlace : Sp := fun vs H Q _ => ∃ c n : Int, vs = [.int c, .int n] ∧ ∀ (p : Int) (H' : Hp), Same H H' → Good p → Q (.int p) H'
def spAloneT (C C2 : Addr) : Sp := fun vs H Q _ => ∃ (e : Addr) (k : Int), vs = [.ref e, .int k] ∧ (k = 6 ∨ k = 8) ∧ ((H e = some (.ext (ExcAt C e)) ∧ ∀ H', Same H H' → Q (.bl (decide (k = 6))) H') ∨ (H e = some (.ext (ExcAt C2 e)) ∧ ∀ H', Same H H' → Q (.bl (decide (k = 8))) H'))
def spRefused : Sp := fun vs H Q _ => ∃ a b p : Int, vs = [.int a, .int b, .int p] ∧ (((a = 0 ∨ b = 0) ∧ ∀ H', Same H H' → Q (.str ("number" : Str)) H') ∨ (a ≠ 0 ∧ b ≠ 0 ∧ NoPl p ∧ ∀ H', Same H H' → Q (.str ("place" : Str)) H'))
def spOddPl : Sp := fun vs H Q _ => ∃ a b c : Int, vs = [.int a, .int b, .int c] ∧ a ≠ 0 ∧ b ≠ 0 ∧ ∀ H', Same H H' → Q (.bl true) H'

section
variable {P : Program} {w : World} {K : PySem.W.Frag} {mg : Str → Option Value} {base : Heap} {t : Adr}
theorem sc_prime_parts : FnScope ["number", "parts", "left", "divisor", "taken"] ["number"] (defScope s_prime_parts) := ⟨rfl, rfl, rfl, by decide +kernel, rfl, by decide +kernel, by decide +kernel⟩
theorem sc_divisor_after : FnScope ["divisor"] ["divisor"] (defScope s_divisor_after) := ⟨rfl, rfl, rfl, by decide +kernel, rfl, by decide +kernel, by decide +kernel⟩
theorem sc_taken_out : FnScope ["number", "prime", "often", "left"] ["number", "prime"] (defScope s_taken_out) := ⟨rfl, rfl, rfl, by decide +kernel, rfl, by decide +kernel, by decide +kernel⟩
theorem sc_is_prime : FnScope ["number"] ["number"] (defScope s_is_prime) := ⟨rfl, rfl, rfl, by decide +kernel, rfl, by decide +kernel, by decide +kernel⟩
theorem sc_sign_by : FnScope ["number", "n", "sign", "top", "bottom", "twos", "odd"] ["number", "n"] (defScope s_sign_by) := ⟨rfl, rfl, rfl, by decide +kernel, rfl, by decide +kernel, by decide +kernel⟩
theorem sc_sign_of_two : FnScope ["odd"] ["odd"] (defScope s_sign_of_two) := ⟨rfl, rfl, rfl, by decide +kernel, rfl, by decide +kernel, by decide +kernel⟩
theorem sc_sign_of_turn : FnScope ["one", "other"] ["one", "other"] (defScope s_sign_of_turn) := ⟨rfl, rfl, rfl, by decide +kernel, rfl, by decide +kernel, by decide +kernel⟩
theorem sc_pair_sign : FnScope ["a", "b", "place"] ["a", "b", "place"] (defScope s_pair_sign) := ⟨rfl, rfl, rfl, by decide +kernel, rfl, by decide +kernel, by decide +kernel⟩
theorem sc_sign_at : FnScope ["a", "b", "place", "one", "other"] ["a", "b", "place"] (defScope s_sign_at) := ⟨rfl, rfl, rfl, by decide +kernel, rfl, by decide +kernel, by decide +kernel⟩
theorem sc_sign_at_odd : FnScope ["one", "other", "prime", "one_is_odd", "other_is_odd"] ["one", "other", "prime"] (defScope s_sign_at_odd) := ⟨rfl, rfl, rfl, by decide +kernel, rfl, by decide +kernel, by decide +kernel⟩
theorem sc_sign_at_two : FnScope ["one", "other", "sign"] ["one", "other"] (defScope s_sign_at_two) := ⟨rfl, rfl, rfl, by decide +kernel, rfl, by decide +kernel, by decide +kernel⟩
theorem sc_cell_at : FnScope ["_law_script", "_law_k"] ["_law_script", "_law_k"] (defScope s_cell_at) := ⟨rfl, rfl, rfl, by decide +kernel, rfl, by decide +kernel, by decide +kernel⟩
theorem sc_churn : FnScope ["_law_cell", "_law_turn", "_law_x", "_law_k", "_law_y"] ["_law_cell", "_law_turn"] (defScope s_churn) := ⟨rfl, rfl, rfl, by decide +kernel, rfl, by decide +kernel, by decide +kernel⟩
theorem sc_whole : FnScope ["_law_found"] ["_law_found"] (defScope s_whole) := ⟨rfl, rfl, rfl, by decide +kernel, rfl, by decide +kernel, by decide +kernel⟩
theorem sc_primes : FnScope ["_law_some"] [] (defScope s_primes) := ⟨rfl, rfl, rfl, by decide +kernel, rfl, by decide +kernel, by decide +kernel⟩
theorem sc_number : FnScope ["_law_cell", "_law_turn", "_law_most", "_law_number_here", "_law_k", "_law_prime"] ["_law_cell", "_law_turn", "_law_most"] (defScope s_number) := ⟨rfl, rfl, rfl, by decide +kernel, rfl, by decide +kernel, by decide +kernel⟩
theorem sc_place : FnScope ["_law_cell", "_law_number_here", "_law_way", "_law_some"] ["_law_cell", "_law_number_here"] (defScope s_place) := ⟨rfl, rfl, rfl, by decide +kernel, rfl, by decide +kernel, by decide +kernel⟩
theorem sc_sign : FnScope ["_law_a", "_law_b", "_law_place_here", "_law_found"] ["_law_a", "_law_b", "_law_place_here"] (defScope s_sign) := ⟨rfl, rfl, rfl, by decide +kernel, rfl, by decide +kernel, by decide +kernel⟩
theorem sc_alone : FnScope ["_law_e", "_law_sort", "_law_found"] ["_law_e", "_law_sort"] (defScope s_alone) := ⟨rfl, rfl, rfl, by decide +kernel, rfl, by decide +kernel, by decide +kernel⟩
theorem sc_refused : FnScope ["_law_a", "_law_b", "_law_place_here", "_law_kept", "_law_e"] ["_law_a", "_law_b", "_law_place_here"] (defScope s_refused) := ⟨rfl, rfl, rfl, by decide +kernel, rfl, by decide +kernel, by decide +kernel⟩
theorem sc_odd_places : FnScope ["_law_a", "_law_b", "_law_cell", "_law_some", "_law_more", "_law_no"] ["_law_a", "_law_b", "_law_cell"] (defScope s_odd_places) := ⟨rfl, rfl, rfl, by decide +kernel, rfl, by decide +kernel, by decide +kernel⟩
theorem sc_law : FnScope ["_law_script", "_law_a", "_law_b", "_law_c", "_law_place_here", "_law_one"] ["_law_script"] (defScope s_law) := ⟨rfl, rfl, rfl, by decide +kernel, rfl, by decide +kernel, by decide +kernel⟩
theorem ok_cell_at {f : Addr} {fd : FuncData} (F : Fun K "_law_cell_at" "_law_cell_at" s_cell_at f fd) (T : Txt K mg t)  : FnOk P w K mg base CX0 1 f fd ["_law_script", "_law_k"] (spCell K) := by
  refine F.ok sc_cell_at (fun vs H Q E h => ?_) (fun cdv A outer s H vs Q E hr h => ?_)
  · obtain ⟨a, ns, k, rfl, _⟩ := h
    rfl
  obtain ⟨a, ns, k, rfl, hS, h0, q⟩ := h
  refine ⟨_, pss_cons (ps_if (pt_cmpR op_lt (pv 1) (pe_callB call_len_seq rfl T.z_len PySem.boot_len (pa_cons (pv 0) pa_nil)) (nomark _)) (pss_one (ps_ret (pe_ix ix_list (pv 0) (pv 1) (fun _ _ => rfl)))) pss_nil)
    (pss_one (ps_ret pe_int)), ?_⟩
  refine ⟨_, rfl, _, rfl, a, _, rfl, .inl hS, _, _, rfl, rfl, _, rfl, ?_⟩
  refine ite2 (fun c => ?_) (fun c => ?_)
  · exact ⟨_, rfl, _, rfl, a, _, _, _, rfl, rfl, hS, cell_in h0 (decT c), q⟩
  · have e := cell_out (decF c) h0
    rw [e] at q
    exact q
theorem ok_whole {f : Addr} {fd : FuncData} (F : Fun K "_law_whole" "_law_whole" s_whole f fd) (T : Txt K mg t)  : FnOk P w K mg base CX0 1 f fd ["_law_found"] (spWhole) := by
  refine F.ok sc_whole (fun vs H Q E h => ?_) (fun cdv A outer s H vs Q E hr h => ?_)
  · obtain ⟨n, rfl, _⟩ := h
    rfl
  obtain ⟨n, rfl, q⟩ := h
  refine ⟨_, pss_one (ps_ret (pe_and (pe_callB call_isi rfl T.z_isinstance b_isi (pa_cons (pv 0) (pa_cons (pe_bltn (v := .ty "int") rfl T.z_int b_int rfl) pa_nil))) (pe_one (pe_not (pe_callB call_isi rfl T.z_isinstance b_isi (pa_cons (pv 0) (pa_cons (pe_bltn (v := .ty "bool") rfl T.z_bool b_bool rfl) pa_nil))))))), ?_⟩
  refine ⟨_, rfl, _, _, _, _, rfl, .inr ⟨_, rfl⟩, .of (.int _), rfl, _, rfl, ?_⟩
  refine iteT ?_
  exact ⟨_, rfl, _, _, _, _, rfl, .inr ⟨_, rfl⟩, .of (.int _), T.i_ib, _, rfl, q⟩
theorem ok_alone {f : Addr} {fd : FuncData} (F : Fun K "_law_alone" "_law_alone" s_alone f fd) (T : Txt K mg t)  : FnOk P w K mg base CX0 1 f fd ["_law_e", "_law_sort"] (spAloneT t.c6 t.c8) := by
  refine F.ok sc_alone (fun vs H Q E h => ?_) (fun cdv A outer s H vs Q E hr h => ?_)
  · obtain ⟨e, k, rfl, _⟩ := h
    rfl
  obtain ⟨e, k, rfl, hk, hcl⟩ := h
  have hu64 := hu64_of hr
  rcases hcl with ⟨he, q⟩ | ⟨he, q⟩
  · refine ⟨_, pss_cons (ps_set (i := 2) sc_alone.nd rfl (Or.inl rfl) (pe_lst (pa_isis T.exc (by rfl) (Or.inl (by rfl)) (by rfl) T.z_isinstance b_isi (.cons (by rfl) T.m_BadPlace (by decide) T.i_0 (.cons (by rfl) T.m_Flat (by decide) T.i_1 (.cons (by rfl) T.m_NoBack (by decide) T.i_2 (.cons (by rfl) T.m_NoJoin (by decide) T.i_3 .nil)))))))
      (pss_cons (ps_set (i := 2) sc_alone.nd rfl (Or.inl rfl) (pe_op op_cat (pv 2) (pe_lst (pa_isis T.exc (by rfl) (Or.inl (by rfl)) (by rfl) T.z_isinstance b_isi (.cons (by rfl) T.m_NoLine (by decide) T.i_4 (.cons (by rfl) T.m_NoName (by decide) T.i_5 (.cons (by rfl) T.m_NoNumber (by decide) T.i_6 (.cons (by rfl) T.m_NoPair (by decide) T.i_7 .nil))))))))
      (pss_cons (ps_set (i := 2) sc_alone.nd rfl (Or.inl rfl) (pe_op op_cat (pv 2) (pe_lst (pa_isis T.exc (by rfl) (Or.inl (by rfl)) (by rfl) T.z_isinstance b_isi (.cons (by rfl) T.m_NoPlace (by decide) T.i_8 (.cons (by rfl) T.m_NoRow (by decide) T.i_9 (.cons (by rfl) T.m_NoSign (by decide) T.i_10 (.cons (by rfl) T.m_NoText (by decide) T.i_11 .nil))))))))
      (pss_cons (ps_set (i := 2) sc_alone.nd rfl (Or.inl rfl) (pe_op op_cat (pv 2) (pe_lst (pa_isis T.exc (by rfl) (Or.inl (by rfl)) (by rfl) T.z_isinstance b_isi (.cons (by rfl) T.m_NoVertex (by decide) T.i_12 (.cons (by rfl) T.m_NotPlain (by decide) T.i_13 (.cons (by rfl) T.m_OffCurve (by decide) T.i_14 .nil)))))))
      (pss_one (ps_ret (pe_and (pe_callB call_isi rfl T.z_isinstance b_isi (pa_cons (pv 0) (pa_cons (pe_bltn (v := .ty "ValueError") rfl T.z_ValueError b_ValueError rfl) pa_nil)))
        (pe_one (pe_cmpR (op_eqBlG hu64) (pv 2) (pe_comp rfl (CompScope.one (k := 1) [(".0", .local), ("_law_k", .local), ("_law_sort", .cell)] rfl (by decide +kernel) (by decide +kernel) rfl rfl rfl rfl (by decide +kernel) (by decide) (by decide +kernel) rfl rfl) (pi_range1 rfl T.z_range (pa_cons pe_int pa_nil)) (fun C s0 H0 fp pins => pe_cmpR op_eq (pv 0) (pv 1) (nomark _))) (nomark _))))))))), ?_⟩
    refine ⟨e, rfl, he, (by show 4 ≤ sizeLine; decide), fun p1 n1 => ?_⟩
    have g1 := same_new n1 (.lst ([false, false, false, false].map V.bl))
    have he1 := g1 _ _ he
    refine ⟨_, rfl, e, rfl, he1, (by show 4 ≤ sizeLine; decide), fun p2 n2 => ?_⟩
    have g2 := same_new n2 (.lst ([false, false, true, false].map V.bl))
    refine ⟨p1, p2, _, _, rfl, rfl, g2 _ _ upd_same, upd_same, (by show 8 ≤ sizeLine; decide), fun p3 n3 => ?_⟩
    have g3 := g2.trans (same_new n3 (.lst (([false, false, false, false].map V.bl) ++ ([false, false, true, false].map V.bl))))
    have he3 := g3 _ _ he1
    refine ⟨_, rfl, e, rfl, he3, (by show 4 ≤ sizeLine; decide), fun p4 n4 => ?_⟩
    have g4 := same_new n4 (.lst ([false, false, false, false].map V.bl))
    refine ⟨p3, p4, _, _, rfl, rfl, g4 _ _ upd_same, upd_same, (by show 12 ≤ sizeLine; decide), fun p5 n5 => ?_⟩
    have g5 := g4.trans (same_new n5 (.lst (([false, false, false, false].map V.bl) ++ ([false, false, true, false].map V.bl) ++ ([false, false, false, false].map V.bl))))
    have he5 := g5 _ _ he3
    refine ⟨_, rfl, e, rfl, he5, (by show 3 ≤ sizeLine; decide), fun p6 n6 => ?_⟩
    have g6 := same_new n6 (.lst ([false, false, false].map V.bl))
    refine ⟨p5, p6, _, _, rfl, rfl, g6 _ _ upd_same, upd_same, (by show 15 ≤ sizeLine; decide), fun p7 n7 => ?_⟩
    have g7 := g6.trans (same_new n7 (.lst (([false, false, false, false].map V.bl) ++ ([false, false, true, false].map V.bl) ++ ([false, false, false, false].map V.bl) ++ ([false, false, false].map V.bl))))
    have he7 := g7 _ _ he5
    refine ⟨_, rfl, _, _, _, _, rfl, .inr ⟨_, rfl⟩, .exc T.exc he7, T.i_ve, _, rfl, iteT ?_⟩
    have G := (g1.trans (g3.trans (g5.trans g7)))
    refine ⟨_, rfl, 15, rfl, by decide, by decide, fun acc hacc => ?_⟩
    refine ⟨fun i m H' vs => i ≤ 15 ∧ m = 15 - i ∧ vs = (bls k i).map V.bl ∧ Same H H' ∧ H' p7 = some (.lst ([false, false, false, false, false, false, true, false, false, false, false, false, false, false, false].map V.bl)) ∧ H' acc = some (.lst vs), ⟨_, Nat.zero_le _, rfl, rfl, G.trans (same_new hacc _), same_new hacc _ _ _ upd_same, upd_same⟩, ?_⟩
    rintro i m H9 vs ⟨hi, rfl, rfl, g9, hl, ha⟩
    refine ⟨ha, ?_⟩
    by_cases h3 : i = 15
    · subst h3
      refine .inl ⟨Nat.le_refl _, ?_⟩
      have z := q _ g9
      rcases hk with rfl | rfl
      · exact ⟨p7, acc, [false, false, false, false, false, false, true, false, false, false, false, false, false, false, false], bls 6 15, rfl, rfl, hl, ha, rfl, rfl, z⟩
      · exact ⟨p7, acc, [false, false, false, false, false, false, true, false, false, false, false, false, false, false, false], bls 8 15, rfl, rfl, hl, ha, rfl, rfl, z⟩
    · refine .inr ⟨by (show i < 15; omega), ?_, ?_⟩
      · rw [List.length_map, bls_len]
        exact Nat.lt_of_le_of_lt hi (by decide)
      · rintro z H2 ⟨rfl, rfl⟩
        refine ⟨_, rfl, _, rfl, rfl, ha, 15 - (i + 1), by omega, by omega, rfl, ?_, fun b o z => ?_, ?_, upd_same⟩
        · rw [bls_more, List.map_append]
          rfl
        · rw [upd_ne (fun y => by subst y; rw [G _ _ z] at hacc; cases hacc)]
          exact g9 b o z
        · rw [upd_ne (fun y => by subst y; rw [upd_same] at hacc; cases hacc)]
          exact hl
  · refine ⟨_, pss_cons (ps_set (i := 2) sc_alone.nd rfl (Or.inl rfl) (pe_lst (pa_isis T.exc_2 (by rfl) (Or.inl (by rfl)) (by rfl) T.z_isinstance b_isi (.cons (by rfl) T.m_BadPlace (by decide) T.i_0_2 (.cons (by rfl) T.m_Flat (by decide) T.i_1_2 (.cons (by rfl) T.m_NoBack (by decide) T.i_2_2 (.cons (by rfl) T.m_NoJoin (by decide) T.i_3_2 .nil)))))))
      (pss_cons (ps_set (i := 2) sc_alone.nd rfl (Or.inl rfl) (pe_op op_cat (pv 2) (pe_lst (pa_isis T.exc_2 (by rfl) (Or.inl (by rfl)) (by rfl) T.z_isinstance b_isi (.cons (by rfl) T.m_NoLine (by decide) T.i_4_2 (.cons (by rfl) T.m_NoName (by decide) T.i_5_2 (.cons (by rfl) T.m_NoNumber (by decide) T.i_6_2 (.cons (by rfl) T.m_NoPair (by decide) T.i_7_2 .nil))))))))
      (pss_cons (ps_set (i := 2) sc_alone.nd rfl (Or.inl rfl) (pe_op op_cat (pv 2) (pe_lst (pa_isis T.exc_2 (by rfl) (Or.inl (by rfl)) (by rfl) T.z_isinstance b_isi (.cons (by rfl) T.m_NoPlace (by decide) T.i_8_2 (.cons (by rfl) T.m_NoRow (by decide) T.i_9_2 (.cons (by rfl) T.m_NoSign (by decide) T.i_10_2 (.cons (by rfl) T.m_NoText (by decide) T.i_11_2 .nil))))))))
      (pss_cons (ps_set (i := 2) sc_alone.nd rfl (Or.inl rfl) (pe_op op_cat (pv 2) (pe_lst (pa_isis T.exc_2 (by rfl) (Or.inl (by rfl)) (by rfl) T.z_isinstance b_isi (.cons (by rfl) T.m_NoVertex (by decide) T.i_12_2 (.cons (by rfl) T.m_NotPlain (by decide) T.i_13_2 (.cons (by rfl) T.m_OffCurve (by decide) T.i_14_2 .nil)))))))
      (pss_one (ps_ret (pe_and (pe_callB call_isi rfl T.z_isinstance b_isi (pa_cons (pv 0) (pa_cons (pe_bltn (v := .ty "ValueError") rfl T.z_ValueError b_ValueError rfl) pa_nil)))
        (pe_one (pe_cmpR (op_eqBlG hu64) (pv 2) (pe_comp rfl (CompScope.one (k := 1) [(".0", .local), ("_law_k", .local), ("_law_sort", .cell)] rfl (by decide +kernel) (by decide +kernel) rfl rfl rfl rfl (by decide +kernel) (by decide) (by decide +kernel) rfl rfl) (pi_range1 rfl T.z_range (pa_cons pe_int pa_nil)) (fun C s0 H0 fp pins => pe_cmpR op_eq (pv 0) (pv 1) (nomark _))) (nomark _))))))))), ?_⟩
    refine ⟨e, rfl, he, (by show 4 ≤ sizeLine; decide), fun p1 n1 => ?_⟩
    have g1 := same_new n1 (.lst ([false, false, false, false].map V.bl))
    have he1 := g1 _ _ he
    refine ⟨_, rfl, e, rfl, he1, (by show 4 ≤ sizeLine; decide), fun p2 n2 => ?_⟩
    have g2 := same_new n2 (.lst ([false, false, false, false].map V.bl))
    refine ⟨p1, p2, _, _, rfl, rfl, g2 _ _ upd_same, upd_same, (by show 8 ≤ sizeLine; decide), fun p3 n3 => ?_⟩
    have g3 := g2.trans (same_new n3 (.lst (([false, false, false, false].map V.bl) ++ ([false, false, false, false].map V.bl))))
    have he3 := g3 _ _ he1
    refine ⟨_, rfl, e, rfl, he3, (by show 4 ≤ sizeLine; decide), fun p4 n4 => ?_⟩
    have g4 := same_new n4 (.lst ([true, false, false, false].map V.bl))
    refine ⟨p3, p4, _, _, rfl, rfl, g4 _ _ upd_same, upd_same, (by show 12 ≤ sizeLine; decide), fun p5 n5 => ?_⟩
    have g5 := g4.trans (same_new n5 (.lst (([false, false, false, false].map V.bl) ++ ([false, false, false, false].map V.bl) ++ ([true, false, false, false].map V.bl))))
    have he5 := g5 _ _ he3
    refine ⟨_, rfl, e, rfl, he5, (by show 3 ≤ sizeLine; decide), fun p6 n6 => ?_⟩
    have g6 := same_new n6 (.lst ([false, false, false].map V.bl))
    refine ⟨p5, p6, _, _, rfl, rfl, g6 _ _ upd_same, upd_same, (by show 15 ≤ sizeLine; decide), fun p7 n7 => ?_⟩
    have g7 := g6.trans (same_new n7 (.lst (([false, false, false, false].map V.bl) ++ ([false, false, false, false].map V.bl) ++ ([true, false, false, false].map V.bl) ++ ([false, false, false].map V.bl))))
    have he7 := g7 _ _ he5
    refine ⟨_, rfl, _, _, _, _, rfl, .inr ⟨_, rfl⟩, .exc T.exc_2 he7, T.i_ve_2, _, rfl, iteT ?_⟩
    have G := (g1.trans (g3.trans (g5.trans g7)))
    refine ⟨_, rfl, 15, rfl, by decide, by decide, fun acc hacc => ?_⟩
    refine ⟨fun i m H' vs => i ≤ 15 ∧ m = 15 - i ∧ vs = (bls k i).map V.bl ∧ Same H H' ∧ H' p7 = some (.lst ([false, false, false, false, false, false, false, false, true, false, false, false, false, false, false].map V.bl)) ∧ H' acc = some (.lst vs), ⟨_, Nat.zero_le _, rfl, rfl, G.trans (same_new hacc _), same_new hacc _ _ _ upd_same, upd_same⟩, ?_⟩
    rintro i m H9 vs ⟨hi, rfl, rfl, g9, hl, ha⟩
    refine ⟨ha, ?_⟩
    by_cases h3 : i = 15
    · subst h3
      refine .inl ⟨Nat.le_refl _, ?_⟩
      have z := q _ g9
      rcases hk with rfl | rfl
      · exact ⟨p7, acc, [false, false, false, false, false, false, false, false, true, false, false, false, false, false, false], bls 6 15, rfl, rfl, hl, ha, rfl, rfl, z⟩
      · exact ⟨p7, acc, [false, false, false, false, false, false, false, false, true, false, false, false, false, false, false], bls 8 15, rfl, rfl, hl, ha, rfl, rfl, z⟩
    · refine .inr ⟨by (show i < 15; omega), ?_, ?_⟩
      · rw [List.length_map, bls_len]
        exact Nat.lt_of_le_of_lt hi (by decide)
      · rintro z H2 ⟨rfl, rfl⟩
        refine ⟨_, rfl, _, rfl, rfl, ha, 15 - (i + 1), by omega, by omega, rfl, ?_, fun b o z => ?_, ?_, upd_same⟩
        · rw [bls_more, List.map_append]
          rfl
        · rw [upd_ne (fun y => by subst y; rw [G _ _ z] at hacc; cases hacc)]
          exact g9 b o z
        · rw [upd_ne (fun y => by subst y; rw [upd_same] at hacc; cases hacc)]
          exact hl

theorem ok_taken_out {f : Addr} {fd : FuncData} (F : Fun K "taken_out" "taken_out" s_taken_out f fd) (T : Txt K mg t)  : FnOk P w K mg base CX0 1 f fd ["number", "prime"] (spTaken) := by
  refine F.ok sc_taken_out (fun vs H Q E h => ?_) (fun cdv A outer s H vs Q E hr h => ?_)
  · obtain ⟨_, _, rfl, _⟩ := h
    rfl
  obtain ⟨x, p, rfl, x0, p2, pl, q⟩ := h
  refine ⟨_, pss_cons (ps_set (i := 2) sc_taken_out.nd rfl (Or.inl rfl) pe_int)
    (pss_cons (ps_set (i := 3) sc_taken_out.nd rfl (Or.inl rfl) (pv 0))
    (pss_cons (ps_while PassesOwn.never (pt_cmpR op_eq (pe_op op_modN (pv 3) (pv 1)) pe_int (nomark _)) (pss_cons (ps_set (i := 3) sc_taken_out.nd rfl (Or.inl rfl) (pe_op op_fdivL (pv 3) (pv 1)))
    (pss_one (ps_set (i := 2) sc_taken_out.nd rfl (Or.inl rfl) (pe_op op_add (pv 2) pe_int)))))
    (pss_one (ps_ret (pe_tup (pa_cons (pv 2) (pa_cons (pv 3) pa_nil))))))), ?_⟩
  refine ⟨_, rfl, ?_⟩
  refine ⟨fun m σ H' => ∃ (o l : Int), σ = [some (.int x), some (.int p), some (.int o), some (.int l)] ∧ H = H' ∧ Pr.Inn x p l o ∧ 0 ≤ o ∧ l ≠ 0 ∧ l.natAbs ≤ x.natAbs ∧ (0 < x → 0 < l) ∧ (x < 0 → l < 0) ∧ m = l.natAbs,
    ⟨_, 0, x, rfl, rfl, Pr.inn_start x p, by omega, x0, Nat.le_refl _, id, id, rfl⟩, ?_⟩
  rintro m σ H' ⟨o, l, rfl, rfl, inn, o0, l0, lx, s1, s2, rfl⟩
  refine ⟨_, rfl, _, rfl, _, _, rfl, rfl, (by show p ≠ 0; omega), rfl, _, rfl, ?_⟩
  refine ite2 (fun c => ?_) (fun c => ?_)
  · have z : l.fmod p = 0 := int_inj (decT c)
    obtain ⟨t1, t2, t3, t4⟩ := taken_less p2 l0 z
    refine ⟨fun σ' H2 => σ' = [some (.int x), some (.int p), some (.int (o + 1)), some (.int (l.fdiv p))] ∧ H = H2, ?_, ?_⟩
    · rintro σ' H2 ⟨rfl, rfl⟩
      exact ⟨_, t2, o + 1, l.fdiv p, rfl, rfl, Pr.inn_turn inn o0 z, by omega, t1, by omega, fun h => t3 (s1 h), fun h => t4 (s2 h), rfl⟩
    · exact ⟨_, rfl, _, rfl, _, _, rfl, rfl, ⟨by omega, pl⟩, _, rfl, _, _, rfl, rfl, rfl, rfl⟩
  · have z : l.fmod p ≠ 0 := fun z => decF c (congrArg V.int z)
    exact ⟨_, rfl, _, rfl, (by show 2 ≤ sizeLine; decide), fun r hr' => q r _ o l (same_new hr' _) upd_same inn o0 z l0 lx s1 s2⟩

theorem ok_sign_of_two {f : Addr} {fd : FuncData} (F : Fun K "sign_of_two" "sign_of_two" s_sign_of_two f fd) (T : Txt K mg t)  : FnOk P w K mg base CX0 1 f fd ["odd"] (spTwoI) := by
  refine F.ok sc_sign_of_two (fun vs H Q E h => ?_) (fun cdv A outer s H vs Q E hr h => ?_)
  · obtain ⟨_, rfl, _⟩ := h
    rfl
  obtain ⟨x, rfl, q⟩ := h
  refine ⟨_, pss_one (ps_ret (pe_ifExp (pt_cmpR op_in_seq (pe_op op_mod (pv 0) pe_int) (pe_tup (pa_cons pe_int (pa_cons pe_int pa_nil))) (by with_unfolding_all rfl)) (pe_un un_neg pe_int) pe_int)), ?_⟩
  refine ⟨_, rfl, _, _, rfl, rfl, (by show (0 : Int) < 8; decide), (by show 2 ≤ sizeLine; decide), fun p hp => ?_⟩
  have g := same_new hp (.tup [.int 3, .int 5])
  refine ⟨_, _, rfl, .inr (SqT.of upd_same), rfl, rfl, inV (.int (x % 8)) [.int 3, .int 5], rfl, ?_⟩
  rw [in35]
  refine ite2 (fun c => ?_) (fun c => ?_)
  · have e : Jc.twoI x = -1 := by unfold Jc.twoI; rw [if_pos (decT c)]
    have q' := q _ g
    rw [e] at q'
    exact ⟨_, rfl, q'⟩
  · have e : Jc.twoI x = 1 := by unfold Jc.twoI; rw [if_neg (decF c)]
    have q' := q _ g
    rw [e] at q'
    exact q'
theorem ok_sign_of_turn {f : Addr} {fd : FuncData} (F : Fun K "sign_of_turn" "sign_of_turn" s_sign_of_turn f fd) (T : Txt K mg t)  : FnOk P w K mg base CX0 1 f fd ["one", "other"] (spTurnI) := by
  refine F.ok sc_sign_of_turn (fun vs H Q E h => ?_) (fun cdv A outer s H vs Q E hr h => ?_)
  · obtain ⟨_, _, rfl, _⟩ := h
    rfl
  obtain ⟨a, b, rfl, q⟩ := h
  refine ⟨_, pss_one (ps_ret (pe_ifExp (PW.pt (pw_and (pt_cmpR op_eq (pe_op op_mod (pv 0) pe_int) pe_int (nomark _)) (pw_and1 (pt_cmpR op_eq (pe_op op_mod (pv 1) pe_int) pe_int (nomark _))))) (pe_un un_neg pe_int) pe_int)), ?_⟩
  unfold Jc.turnI at q
  refine ⟨_, rfl, _, _, rfl, rfl, (by show (0 : Int) < 4; decide), rfl, _, rfl, ?_⟩
  refine ite2 (fun c => ?_) (fun c => ?_)
  · have c1 : a % 4 = 3 := int_inj (decT c)
    refine ⟨_, rfl, _, _, rfl, rfl, (by show (0 : Int) < 4; decide), rfl, _, rfl, ?_⟩
    refine ite2 (fun c => ?_) (fun c => ?_)
    · have c2 : b % 4 = 3 := int_inj (decT c)
      rw [if_pos ⟨c1, c2⟩] at q
      exact ⟨_, rfl, q⟩
    · rw [if_neg fun z => decF c (congrArg V.int z.2)] at q
      exact q
  · rw [if_neg fun z => decF c (congrArg V.int z.1)] at q
    exact iteF q
theorem ok_sign_by {f : Addr} {fd : FuncData} (F : Fun K "sign_by" "sign_by" s_sign_by f fd) (T : Txt K mg t) (H_taken_out : Has P w K mg base CX0 1 "taken_out" ["number", "prime"] (spTaken)) (H_sign_of_two : Has P w K mg base CX0 1 "sign_of_two" ["odd"] (spTwoI)) (H_sign_of_turn : Has P w K mg base CX0 1 "sign_of_turn" ["one", "other"] (spTurnI)) : FnOk P w K mg base CX0 2 f fd ["number", "n"] (spSign) := by
  obtain ⟨f_taken_out, d_taken_out, G_taken_out, b_taken_out, k_taken_out, m_taken_out⟩ := H_taken_out
  obtain ⟨f_sign_of_two, d_sign_of_two, G_sign_of_two, b_sign_of_two, k_sign_of_two, m_sign_of_two⟩ := H_sign_of_two
  obtain ⟨f_sign_of_turn, d_sign_of_turn, G_sign_of_turn, b_sign_of_turn, k_sign_of_turn, m_sign_of_turn⟩ := H_sign_of_turn
  refine F.ok sc_sign_by (fun vs H Q E h => ?_) (fun cdv A outer s H vs Q E hr h => ?_)
  · obtain ⟨_, _, rfl, _⟩ := h
    rfl
  obtain ⟨x, n, rfl, n0, no, nb, q⟩ := h
  have hr_taken_out := hr.mono (show 1 ≤ 1 by decide)
  have hr_sign_of_two := hr.mono (show 1 ≤ 1 by decide)
  have hr_sign_of_turn := hr.mono (show 1 ≤ 1 by decide)
  refine ⟨_, pss_cons (ps_if (PW.pt (pw_or (pt_cmpR op_lt (pv 1) pe_int (nomark _)) (pw_or1 (pt_cmpR op_eq (pe_op op_mod (pv 1) pe_int) pe_int (nomark _))))) pss_never pss_nil)
    (pss_cons (ps_set (i := 2) sc_sign_by.nd rfl (Or.inl rfl) pe_int)
    (pss_cons (ps_set (i := 3) sc_sign_by.nd rfl (Or.inl rfl) (pe_op op_mod (pv 0) (pv 1)))
    (pss_cons (ps_set (i := 4) sc_sign_by.nd rfl (Or.inl rfl) (pv 1))
    (pss_cons (ps_while PassesOwn.never (pt_cmpR op_ne (pv 3) pe_int (nomark _)) (pss_cons (ps_set (i := 5) sc_sign_by.nd rfl (Or.inl rfl) (pe_call G_taken_out hr_taken_out rfl m_taken_out k_taken_out b_taken_out .nil pass0 (pa_cons (pv 3) (pa_cons pe_int pa_nil))))
    (pss_cons (ps_set (i := 6) sc_sign_by.nd rfl (Or.inl rfl) (pe_ix ix_tup (pv 5) pe_int (fun _ _ => rfl)))
    (pss_cut (ps_if (pt_cmpR op_eq (pe_op op_mod (pe_ix ix_tup (pv 5) pe_int (fun _ _ => rfl)) pe_int) pe_int (nomark _)) (pss_one (ps_set (i := 2) sc_sign_by.nd rfl (Or.inl rfl) (pe_op op_mulG (pv 2) (pe_call G_sign_of_two hr_sign_of_two rfl m_sign_of_two k_sign_of_two b_sign_of_two .nil pass0 (pa_cons (pv 4) pa_nil))))) pss_nil)
    (pss_cons (ps_set (i := 2) sc_sign_by.nd rfl (Or.inl rfl) (pe_op op_mulG (pv 2) (pe_call G_sign_of_turn hr_sign_of_turn rfl m_sign_of_turn k_sign_of_turn b_sign_of_turn .nil pass0 (pa_cons (pv 6) (pa_cons (pv 4) pa_nil)))))
    (pss_cons (ps_set (i := 3) sc_sign_by.nd rfl (Or.inl rfl) (pe_op op_mod (pv 4) (pv 6)))
    (pss_one (ps_set (i := 4) sc_sign_by.nd rfl (Or.inl rfl) (pv 6)))))))))
    (pss_one (ps_ret (pe_ifExp (pt_cmpR op_eq (pv 4) pe_int (nomark _)) (pv 2) pe_int))))))), ?_⟩
  refine ⟨_, rfl, _, _, rfl, rfl, _, rfl, iteDF (show ¬ n < 1 by omega) ⟨_, rfl, _, _, rfl, rfl, (by show (0 : Int) < 2; decide), rfl, _, rfl, iteDF (fun z => by have := int_inj z; omega) ?_⟩⟩
  refine ⟨_, rfl, _, rfl, _, _, rfl, rfl, n0, ?_⟩
  refine ⟨_, rfl, ?_⟩
  have t0 := Int.emod_nonneg x (show n ≠ 0 by omega)
  have t1 := Int.emod_lt_of_pos x n0
  refine ⟨WS x n H, ⟨_, 1, x % n, n, none, none, rfl, Same.refl H, t0, n0, no, nb, by omega, .inl rfl, by rw [Int.one_mul]; exact Jc.J_mod (Int.emod_emod x n), rfl⟩, ?_⟩
  rintro m σ H1 ⟨sg, top, bot, tw, od, rfl, g1, tp, bp, bo, bb, tb, sgo, e, rfl⟩
  refine ⟨_, rfl, rfl, _, rfl, ?_⟩
  refine ite2 (fun c => ?_) (fun c => ?_)
  · have tn : top ≠ 0 := fun z => neT c (congrArg V.int z)
    refine ⟨fun σ' H2 => ∃ m', m' < top.toNat ∧ WS x n H m' σ' H2, fun _ _ h => h, ?_⟩
    refine ⟨_, rfl, top, 2, rfl, tn, by decide, by decide, fun r H2 o l g2 hr2 inn o0 zl l0 lx sp sn => ?_⟩
    have lp := sp (by omega)
    have lo : l % 2 = 1 := by
      have z : l.fmod 2 = l % 2 := Int.fmod_eq_emod_of_nonneg l (by decide)
      rw [z] at zl
      omega
    refine ⟨_, rfl, r, _, _, _, rfl, rfl, SqT.of hr2, rfl, ?_⟩
    refine ⟨fun σ' H3 => σ' = [some (.int x), some (.int n), some (.int (sg * (if o % 2 = 1 then Jc.twoI bot else 1))), some (.int top), some (.int bot), some (.ref r), some (.int l)] ∧ Same H2 H3, ?_, ?_⟩
    · refine ⟨_, rfl, r, _, _, _, rfl, rfl, SqT.of hr2, rfl, _, _, rfl, rfl, (by show (0 : Int) < 2; decide), rfl, _, rfl, ?_⟩
      refine ite2 (fun c => ?_) (fun c => ?_)
      · rw [if_pos (int_inj (decT c))]
        refine ⟨_, rfl, _, rfl, bot, rfl, fun H3 g3 => ⟨_, _, rfl, rfl, mulS ?_ ?_, rfl, g3⟩⟩
        all_goals rcases twoI_or bot with h | h <;> rw [h] <;> decide
      · rw [if_neg fun z => decF c (congrArg V.int z), Int.mul_one]
        exact ⟨rfl, Same.refl _⟩
    rintro _ H3 ⟨rfl, g3⟩
    refine ⟨_, rfl, _, rfl, _, rfl, l, bot, rfl, _, _, rfl, rfl, mulS ?_ ?_, ?_⟩
    · rcases turnI_or l bot with h | h <;> rw [h] <;> decide
    · rcases turnI_or l bot with h | h <;> rw [h] <;> decide
    refine ⟨_, rfl, _, rfl, _, _, rfl, rfl, lp, ?_⟩
    have r0 := Int.emod_nonneg bot (show l ≠ 0 by omega)
    have r1 := Int.emod_lt_of_pos bot lp
    refine ⟨_, rfl, (bot % l).toNat, by omega, _, bot % l, l, _, _, rfl, (g1.trans g2).trans g3, r0, lp, lo, by omega, by omega, ?_, ?_, rfl⟩
    · rcases sgo with h | h <;> rcases turnI_or l bot with h2 | h2 <;> rw [h, h2] <;> split <;> first | (rcases twoI_or bot with h3 | h3 <;> rw [h3] <;> decide) | decide
    · rw [← e]
      have st := Jc.J_step bp bo lp lo o0
      rw [← inn.eq] at st
      rw [st, Int.mul_assoc sg, Int.mul_assoc sg]
  · have tz : top = 0 := int_inj (neF c)
    subst tz
    refine ⟨_, rfl, rfl, _, rfl, ?_⟩
    refine ite2 (fun c => ?_) (fun c => ?_)
    · have b1 : bot = 1 := int_inj (decT c)
      subst b1
      rw [Jc.J_by1, Int.mul_one] at e
      subst e
      exact ⟨_, rfl, q _ g1⟩
    · have b1 : bot ≠ 1 := fun z => decF c (congrArg V.int z)
      rw [Jc.J_zero bp b1, Int.mul_zero] at e
      have q' := q _ g1
      rw [← e] at q'
      exact q'
theorem ok_divisor_after {f : Addr} {fd : FuncData} (F : Fun K "divisor_after" "divisor_after" s_divisor_after f fd) (T : Txt K mg t)  : FnOk P w K mg base CX0 1 f fd ["divisor"] (spAfter) := by
  refine F.ok sc_divisor_after (fun vs H Q E h => ?_) (fun cdv A outer s H vs Q E hr h => ?_)
  · obtain ⟨d, rfl, _⟩ := h
    rfl
  obtain ⟨d, rfl, q⟩ := h
  refine ⟨_, pss_cons (ps_if (pt_cmpR op_eq (pv 0) pe_int (nomark _)) (pss_one (ps_ret pe_int)) pss_nil)
    (pss_one (ps_ret (pe_op op_add (pv 0) pe_int))), ?_⟩
  refine ⟨_, rfl, rfl, _, rfl, ?_⟩
  refine ite2 (fun c => ?_) (fun c => ?_)
  · rw [if_pos (int_inj (decT c))] at q
    exact q
  · rw [if_neg (fun z => decF c (congrArg V.int z))] at q
    exact ⟨_, rfl, _, _, rfl, rfl, q⟩
theorem ok_prime_parts {f : Addr} {fd : FuncData} (F : Fun K "prime_parts" "prime_parts" s_prime_parts f fd) (T : Txt K mg t) (H_divisor_after : Has P w K mg base CX0 1 "divisor_after" ["divisor"] (spAfter)) (H_taken_out : Has P w K mg base CX0 1 "taken_out" ["number", "prime"] (spTaken)) : FnOk P w K mg base CX0 2 f fd ["number"] (spParts0) := by
  obtain ⟨f_divisor_after, d_divisor_after, G_divisor_after, b_divisor_after, k_divisor_after, m_divisor_after⟩ := H_divisor_after
  obtain ⟨f_taken_out, d_taken_out, G_taken_out, b_taken_out, k_taken_out, m_taken_out⟩ := H_taken_out
  refine F.ok sc_prime_parts (fun vs H Q E h => ?_) (fun cdv A outer s H vs Q E hr h => ?_)
  · obtain ⟨n, rfl, _⟩ := h
    rfl
  obtain ⟨n, rfl, n0, n1, q⟩ := h
  have hr_divisor_after := hr.mono (show 1 ≤ 1 by decide)
  have hr_taken_out := hr.mono (show 1 ≤ 1 by decide)
  refine ⟨_, pss_cons (ps_if (pt_cmpR op_lt (pv 0) pe_int (nomark _)) pss_never pss_nil)
    (pss_cons (ps_set (i := 1) sc_prime_parts.nd rfl (Or.inl rfl) (pe_lst pa_nil))
    (pss_cons (ps_set (i := 2) sc_prime_parts.nd rfl (Or.inl rfl) (pv 0))
    (pss_cons (ps_set (i := 3) sc_prime_parts.nd rfl (Or.inl rfl) pe_int)
    (pss_cons (ps_while PassesOwn.never (pt_cmpR op_le (pe_op op_mulG (pv 3) (pv 3)) (pv 2) (nomark _)) (pss_cut (ps_if (pt_cmpR op_eq (pe_op op_modN (pv 2) (pv 3)) pe_int (nomark _)) (pss_cons (ps_set (i := 4) sc_prime_parts.nd rfl (Or.inl rfl) (pe_call G_taken_out hr_taken_out rfl m_taken_out k_taken_out b_taken_out .nil pass0 (pa_cons (pv 2) (pa_cons (pv 3) pa_nil))))
    (pss_cons (ps_expr (pe_bm PySem.F.plainAttrs_list PySem.F.slot_list_append PySem.F.type_list_append mt_append (pv 1) (pa_cons (pe_tup (pa_cons (pv 3) (pa_cons (pe_ix ix_tup (pv 4) pe_int (fun _ _ => rfl)) pa_nil))) pa_nil)))
    (pss_one (ps_set (i := 2) sc_prime_parts.nd rfl (Or.inl rfl) (pe_ix ix_tup (pv 4) pe_int (fun _ _ => rfl)))))) pss_nil)
    (pss_one (ps_set (i := 3) sc_prime_parts.nd rfl (Or.inl rfl) (pe_call G_divisor_after hr_divisor_after rfl m_divisor_after k_divisor_after b_divisor_after .nil pass0 (pa_cons (pv 3) pa_nil))))))
    (pss_cut (ps_if (pt_cmpR op_gt (pv 2) pe_int (nomark _)) (pss_one (ps_expr (pe_bm PySem.F.plainAttrs_list PySem.F.slot_list_append PySem.F.type_list_append mt_append (pv 1) (pa_cons (pe_tup (pa_cons (pv 2) (pa_cons pe_int pa_nil))) pa_nil)))) pss_nil)
    (pss_one (ps_ret (pv 1)))))))), ?_⟩
  refine ⟨_, rfl, _, _, rfl, rfl, _, rfl, iteDF (show ¬ n < 1 by omega) ?_⟩
  refine ⟨(by show 0 ≤ sizeLine; decide), fun pl hpl => ?_⟩
  refine ⟨_, rfl, ?_⟩
  refine ⟨W1 n pl H, ⟨_, n, 2, [], [], none, rfl, same_new hpl _, upd_same, .nil, Pr.out_start n, by omega, by omega, n0, rfl⟩, ?_⟩
  rintro m σ H1 ⟨left, d, xs, rs, of, rfl, g1, hl1, t1, out, d2, dm, l1, rfl⟩
  have bd : Builtin.Int.intBits d ≤ 1048576 := bits_lit (k := 64) (by omega) (by decide)
  have ln := Pr.out_left out l1
  have short1 := short out.all (out_prod out l1) n1
  have rlen := t1.len
  refine ⟨_, rfl, _, rfl, _, _, rfl, rfl, mulOk bd bd, _, rfl, _, _, rfl, rfl, _, rfl, ?_⟩
  refine ite2 (fun c => ?_) (fun c => ?_)
  · have dd : d * d ≤ left := decT c
    have dl := le_sq (show 1 ≤ d by omega)
    refine ⟨fun σ' H2 => ∃ m', m' < (left + 1 - d).toNat ∧ W1 n pl H m' σ' H2, fun _ _ h => h, ?_⟩
    refine ⟨fun σ' H3 => ∃ (ys : List (Int × Int)) (qs : List Addr) (l2 : Int) (ta : Option V), σ' = [some (.int n), some (.ref pl), some (.int l2), some (.int d), ta] ∧ Same H H3 ∧ H3 pl = some (.lst (qs.map V.ref)) ∧ TupL H3 qs ys ∧ Pr.Out n l2 (if d = 2 then 3 else d + 2) ys ∧ 1 ≤ l2 ∧ l2 ≤ left, ?_, ?_⟩
    · refine ⟨_, rfl, _, rfl, _, _, rfl, rfl, (by show d ≠ 0; omega), rfl, _, rfl, ?_⟩
      refine ite2 (fun c2 => ?_) (fun c2 => ?_)
      · have z2 : left.fmod d = 0 := int_inj (decT c2)
        refine ⟨_, rfl, _, rfl, left, d, rfl, (by omega), d2, Nat.lt_of_lt_of_le (log2_lt_of (k := 64) (by omega) (by decide)) (by decide), fun r H2 o l2 g2 hr2 inn o0 zl l0 lx sp sn => ?_⟩
        have lp := sp (by omega)
        have o3 : 0 < o := by
          rcases (show o = 0 ∨ 0 < o by omega) with h | h
          · have e := inn.eq
            rw [h, show (0 : Int).toNat = 0 from rfl, Int.pow_zero, Int.one_mul] at e
            rw [← e] at zl
            exact absurd z2 zl
          · exact h
        refine ⟨_, rfl, .inl ⟨rfl, _, SqL.of (g2 _ _ hl1)⟩, _, rfl, _, rfl, r, _, _, _, rfl, rfl, SqT.of hr2, rfl, (by show 2 ≤ sizeLine; decide), fun p hp => ?_⟩
        have hl2 := g2 _ _ hl1
        have npl : pl ≠ p := fun z => by subst z; rw [hl2] at hp; cases hp
        have nr : r ≠ pl := fun z => by subst z; rw [hl2] at hr2; cases hr2
        have nrp : r ≠ p := fun z => by subst z; rw [hr2] at hp; cases hp
        refine ⟨pl, _, _, rfl, rfl, (by rw [upd_ne npl]; exact hl2), (by rw [List.length_map]; exact small1000 (by omega)), ?_⟩
        obtain ⟨k1, k2, k3⟩ := grown (x := (d, o)) (g1.trans g2) hpl hp hl2 (TupL.same g2 t1)
        refine ⟨_, rfl, r, _, _, _, rfl, rfl, SqT.of (by rw [upd_ne nr, upd_ne nrp]; exact hr2), rfl, ?_⟩
        exact ⟨xs ++ [(d, o)], rs ++ [p], l2, _, rfl, k1, k2, k3, Pr.out_some out inn d2 o3 zl rfl, by omega, by omega⟩
      · have z2 : left.fmod d ≠ 0 := fun z => decF c2 (congrArg V.int z)
        exact ⟨xs, rs, left, _, rfl, g1, hl1, t1, Pr.out_none out (Pr.inn_start left d) d2 rfl z2 rfl, l1, by omega⟩
    · rintro σ3 H3 ⟨ys, qs, l2, ta, rfl, g3, hl3, t3, out3, l21, l22⟩
      refine ⟨_, rfl, d, rfl, (l2 + 1 - (if d = 2 then 3 else d + 2)).toNat, ?_, l2, _, ys, qs, _, rfl, g3, hl3, t3, out3, ?_, ?_, l21, rfl⟩
      all_goals split <;> omega
  · have dd : ¬ d * d ≤ left := decF c
    refine ⟨fun σ' H2 => ∃ (ys : List (Int × Int)) (qs : List Addr) (l2 : Option V) (d2 o2 : Option V), σ' = [some (.int n), some (.ref pl), l2, d2, o2] ∧ Same H H2 ∧ H2 pl = some (.lst (qs.map V.ref)) ∧ TupL H2 qs ys ∧ Pr.Told n ys, ?_, ?_⟩
    · refine ⟨_, rfl, _, _, rfl, rfl, _, rfl, ?_⟩
      refine ite2 (fun c3 => ?_) (fun c3 => ?_)
      · have o3 : 1 < left := decT c3
        refine ⟨_, rfl, .inl ⟨rfl, _, SqL.of hl1⟩, _, rfl, (by show 2 ≤ sizeLine; decide), fun p hp => ?_⟩
        have npl : pl ≠ p := fun z => by subst z; rw [hl1] at hp; cases hp
        refine ⟨pl, _, _, rfl, rfl, (by rw [upd_ne npl]; exact hl1), (by rw [List.length_map]; exact small1000 (by omega)), ?_⟩
        obtain ⟨k1, k2, k3⟩ := grown (x := (left, 1)) g1 hpl hp hl1 t1
        exact ⟨xs ++ [(left, 1)], rs ++ [p], _, _, _, rfl, k1, k2, k3, Pr.told_last out d2 (by omega) o3⟩
      · have o3 : ¬ 1 < left := decF c3
        exact ⟨xs, rs, _, _, _, rfl, g1, hl1, t1, Pr.told_none out (by omega)⟩
    · rintro σ3 H3 ⟨ys, qs, l3, d3, o3, rfl, g3, hl3, t3, told⟩
      exact ⟨_, rfl, q pl qs ys H3 g3 hpl hl3 t3 told⟩

theorem ok_is_prime {f : Addr} {fd : FuncData} (F : Fun K "is_prime" "is_prime" s_is_prime f fd) (T : Txt K mg t) (H_prime_parts : Has P w K mg base CX0 2 "prime_parts" ["number"] (spParts0)) : FnOk P w K mg base CX0 3 f fd ["number"] (spIsPrime) := by
  obtain ⟨f_prime_parts, d_prime_parts, G_prime_parts, b_prime_parts, k_prime_parts, m_prime_parts⟩ := H_prime_parts
  refine F.ok sc_is_prime (fun vs H Q E h => ?_) (fun cdv A outer s H vs Q E hr h => ?_)
  · obtain ⟨_, rfl, _⟩ := h
    rfl
  obtain ⟨n, rfl, nb, q⟩ := h
  have hr_prime_parts := hr.mono (show 2 ≤ 2 by decide)
  have hu64 := hu64_of hr
  refine ⟨_, pss_one (ps_ret (pe_and (pe_cmpR op_gt (pv 0) pe_int (nomark _)) (pe_one (pe_cmpR (op_eqPairs hu64) (pe_call G_prime_parts hr_prime_parts rfl m_prime_parts k_prime_parts b_prime_parts .nil pass0 (pa_cons (pv 0) pa_nil)) (pe_lst (pa_cons (pe_tup (pa_cons (pv 0) (pa_cons pe_int pa_nil))) pa_nil)) (nomark _))))), ?_⟩
  refine ⟨_, rfl, _, _, rfl, rfl, _, rfl, ?_⟩
  refine ite2 (fun c => ?_) (fun c => ?_)
  · have c1 : 1 < n := decT c
    refine ⟨_, rfl, n, rfl, by omega, nb, fun p rs xs H1 g1 hn hl tl told => ?_⟩
    refine ⟨_, rfl, (by show 2 ≤ sizeLine; decide), fun r hr1 => ⟨(by show 1 ≤ sizeLine; decide), fun p2 hp2 => ?_⟩⟩
    have g2 := same_new hr1 (.tup [.int n, .int 1])
    have g3 := same_new hp2 (.lst [.ref r])
    refine ⟨p, p2, rs, [r], xs, [(n, 1)], rfl, rfl, g3 _ _ (g2 _ _ hl), TupL.same (g2.trans g3) tl, upd_same, .cons (g3 _ _ upd_same) .nil, q _ _ ((g1.trans g2).trans g3) ⟨fun e => ?_, fun e => ?_⟩⟩
    · rw [of_decide_eq_true e] at told
      exact prime_told told
    · exact decide_eq_true (told_prime e told)
  · have c1 : ¬ 1 < n := decF c
    exact q false H (Same.refl H) ⟨(fun z => by cases z), fun z => by have := z.two; omega⟩
theorem ok_sign_at_two {f : Addr} {fd : FuncData} (F : Fun K "sign_at_two" "sign_at_two" s_sign_at_two f fd) (T : Txt K mg t) (H_sign_of_two : Has P w K mg base CX0 1 "sign_of_two" ["odd"] (spTwoI)) (H_sign_of_turn : Has P w K mg base CX0 1 "sign_of_turn" ["one", "other"] (spTurnI)) : FnOk P w K mg base CX0 2 f fd ["one", "other"] (spAtTwo) := by
  obtain ⟨f_sign_of_two, d_sign_of_two, G_sign_of_two, b_sign_of_two, k_sign_of_two, m_sign_of_two⟩ := H_sign_of_two
  obtain ⟨f_sign_of_turn, d_sign_of_turn, G_sign_of_turn, b_sign_of_turn, k_sign_of_turn, m_sign_of_turn⟩ := H_sign_of_turn
  refine F.ok sc_sign_at_two (fun vs H Q E h => ?_) (fun cdv A outer s H vs Q E hr h => ?_)
  · obtain ⟨_, _, _, _, _, _, rfl, _⟩ := h
    rfl
  obtain ⟨r1, r2, o1, l1, o2, l2, rfl, h1, h2, q⟩ := h
  have hr_sign_of_two := hr.mono (show 1 ≤ 1 by decide)
  have hr_sign_of_turn := hr.mono (show 1 ≤ 1 by decide)
  refine ⟨_, pss_cons (ps_set (i := 2) sc_sign_at_two.nd rfl (Or.inl rfl) (pe_call G_sign_of_turn hr_sign_of_turn rfl m_sign_of_turn k_sign_of_turn b_sign_of_turn .nil pass0 (pa_cons (pe_ix ix_tup (pv 0) pe_int (fun _ _ => rfl)) (pa_cons (pe_ix ix_tup (pv 1) pe_int (fun _ _ => rfl)) pa_nil))))
    (pss_cut (ps_if (pt_cmpR op_eq (pe_op op_mod (pe_ix ix_tup (pv 0) pe_int (fun _ _ => rfl)) pe_int) pe_int (nomark _)) (pss_one (ps_set (i := 2) sc_sign_at_two.nd rfl (Or.inl rfl) (pe_op op_mulG (pv 2) (pe_call G_sign_of_two hr_sign_of_two rfl m_sign_of_two k_sign_of_two b_sign_of_two .nil pass0 (pa_cons (pe_ix ix_tup (pv 1) pe_int (fun _ _ => rfl)) pa_nil))))) pss_nil)
    (pss_cut (ps_if (pt_cmpR op_eq (pe_op op_mod (pe_ix ix_tup (pv 1) pe_int (fun _ _ => rfl)) pe_int) pe_int (nomark _)) (pss_one (ps_set (i := 2) sc_sign_at_two.nd rfl (Or.inl rfl) (pe_op op_mulG (pv 2) (pe_call G_sign_of_two hr_sign_of_two rfl m_sign_of_two k_sign_of_two b_sign_of_two .nil pass0 (pa_cons (pe_ix ix_tup (pv 0) pe_int (fun _ _ => rfl)) pa_nil))))) pss_nil)
    (pss_one (ps_ret (pv 2))))), ?_⟩
  unfold Jc.two4 at q
  refine ⟨_, rfl, r1, _, _, _, rfl, rfl, SqT.of h1, rfl, _, rfl, r2, _, _, _, rfl, rfl, SqT.of h2, rfl, l1, l2, rfl, ?_⟩
  refine ⟨fun σ' H' => σ' = [some (.ref r1), some (.ref r2), some (.int (Jc.turnI l1 l2 * (if o1 % 2 = 1 then Jc.twoI l2 else 1)))] ∧ Same H H', ?_, ?_⟩
  · refine ⟨_, rfl, r1, _, _, _, rfl, rfl, SqT.of h1, rfl, _, _, rfl, rfl, (by show (0 : Int) < 2; decide), rfl, _, rfl, ?_⟩
    refine ite2 (fun c => ?_) (fun c => ?_)
    · rw [if_pos (int_inj (decT c))]
      refine ⟨_, rfl, _, rfl, r2, _, _, _, rfl, rfl, SqT.of h2, rfl, l2, rfl, fun H1 g1 => ⟨_, _, rfl, rfl, mulS ?_ ?_, rfl, g1⟩⟩
      all_goals rcases twoI_or l2 with h | h <;> rw [h] <;> decide
    · rw [if_neg fun z => decF c (congrArg V.int z), Int.mul_one]
      exact ⟨rfl, Same.refl H⟩
  rintro _ H1 ⟨rfl, g1⟩
  refine ⟨fun σ' H' => σ' = [some (.ref r1), some (.ref r2), some (.int (Jc.turnI l1 l2 * (if o1 % 2 = 1 then Jc.twoI l2 else 1) * (if o2 % 2 = 1 then Jc.twoI l1 else 1)))] ∧ Same H H', ?_, ?_⟩
  · refine ⟨_, rfl, r2, _, _, _, rfl, rfl, SqT.of (g1 _ _ h2), rfl, _, _, rfl, rfl, (by show (0 : Int) < 2; decide), rfl, _, rfl, ?_⟩
    refine ite2 (fun c => ?_) (fun c => ?_)
    · rw [if_pos (int_inj (decT c))]
      refine ⟨_, rfl, _, rfl, r1, _, _, _, rfl, rfl, SqT.of (g1 _ _ h1), rfl, l1, rfl, fun H2 g2 => ⟨_, _, rfl, rfl, mulS ?_ ?_, rfl, g1.trans g2⟩⟩
      all_goals rcases twoI_or l1 with h | h <;> rw [h] <;> decide
    · rw [if_neg fun z => decF c (congrArg V.int z), Int.mul_one]
      exact ⟨rfl, g1⟩
  rintro _ H2 ⟨rfl, g2⟩
  exact ⟨_, rfl, q _ g2⟩
theorem ok_sign_at_odd {f : Addr} {fd : FuncData} (F : Fun K "sign_at_odd" "sign_at_odd" s_sign_at_odd f fd) (T : Txt K mg t) (H_sign_by : Has P w K mg base CX0 2 "sign_by" ["number", "n"] (spSign)) : FnOk P w K mg base CX0 3 f fd ["one", "other", "prime"] (spAtOdd) := by
  obtain ⟨f_sign_by, d_sign_by, G_sign_by, b_sign_by, k_sign_by, m_sign_by⟩ := H_sign_by
  refine F.ok sc_sign_at_odd (fun vs H Q E h => ?_) (fun cdv A outer s H vs Q E hr h => ?_)
  · obtain ⟨_, _, _, _, _, _, _, rfl, _⟩ := h
    rfl
  obtain ⟨r1, r2, o1, l1, o2, l2, p, rfl, h1, h2, p0, po, pb, lb, q⟩ := h
  have hr_sign_by := hr.mono (show 2 ≤ 2 by decide)
  refine ⟨_, pss_cons (ps_set (i := 3) sc_sign_at_odd.nd rfl (Or.inl rfl) (pe_cmpR op_eq (pe_op op_mod (pe_ix ix_tup (pv 0) pe_int (fun _ _ => rfl)) pe_int) pe_int (nomark _)))
    (pss_cons (ps_set (i := 4) sc_sign_at_odd.nd rfl (Or.inl rfl) (pe_cmpR op_eq (pe_op op_mod (pe_ix ix_tup (pv 1) pe_int (fun _ _ => rfl)) pe_int) pe_int (nomark _)))
    (pss_cons (ps_if (PW.pt (pw_and (pt_val (pv 3) (fun _ => rfl)) (pw_and1 (pt_val (pv 4) (fun _ => rfl))))) (pss_one (ps_ret (pe_call G_sign_by hr_sign_by rfl m_sign_by k_sign_by b_sign_by .nil pass0 (pa_cons (pe_op op_mulG (pe_un un_neg (pe_ix ix_tup (pv 0) pe_int (fun _ _ => rfl))) (pe_ix ix_tup (pv 1) pe_int (fun _ _ => rfl))) (pa_cons (pv 2) pa_nil))))) pss_nil)
    (pss_cons (ps_if (pt_val (pv 3) (fun _ => rfl)) (pss_one (ps_ret (pe_call G_sign_by hr_sign_by rfl m_sign_by k_sign_by b_sign_by .nil pass0 (pa_cons (pe_ix ix_tup (pv 1) pe_int (fun _ _ => rfl)) (pa_cons (pv 2) pa_nil))))) pss_nil)
    (pss_cons (ps_if (pt_val (pv 4) (fun _ => rfl)) (pss_one (ps_ret (pe_call G_sign_by hr_sign_by rfl m_sign_by k_sign_by b_sign_by .nil pass0 (pa_cons (pe_ix ix_tup (pv 0) pe_int (fun _ _ => rfl)) (pa_cons (pv 2) pa_nil))))) pss_nil)
    (pss_one (ps_ret pe_int)))))), ?_⟩
  unfold Jc.odd4 at q
  refine ⟨_, rfl, r1, _, _, _, rfl, rfl, SqT.of h1, rfl, _, _, rfl, rfl, (by show (0 : Int) < 2; decide), rfl, ?_⟩
  refine ⟨_, rfl, r2, _, _, _, rfl, rfl, SqT.of h2, rfl, _, _, rfl, rfl, (by show (0 : Int) < 2; decide), rfl, ?_⟩
  by_cases c1 : o1 % 2 = 1
  · have e1 : decide (V.int (o1 % 2) = V.int 1) = true := decide_eq_true (congrArg V.int c1)
    by_cases c2 : o2 % 2 = 1
    · have e2 : decide (V.int (o2 % 2) = V.int 1) = true := decide_eq_true (congrArg V.int c2)
      rw [if_pos c1, if_pos c2] at q
      rw [e1, e2]
      refine ⟨_, rfl, _, rfl, iteT ⟨_, rfl, _, rfl, iteT ?_⟩⟩
      exact ⟨_, rfl, r1, _, _, _, rfl, rfl, SqT.of h1, rfl, _, rfl, _, rfl, r2, _, _, _, rfl, rfl, SqT.of h2, rfl, _, _, rfl, rfl, mulS (by omega) (by omega), _, rfl, -l1 * l2, p, rfl, p0, po, pb, fun H' g => q _ g⟩
    · have e2 : decide (V.int (o2 % 2) = V.int 1) = false := decide_eq_false fun z => c2 (int_inj z)
      rw [if_pos c1, if_neg c2] at q
      rw [e1, e2]
      refine ⟨_, rfl, _, rfl, iteT ⟨_, rfl, _, rfl, iteF ?_⟩⟩
      refine ⟨_, rfl, _, rfl, iteT ?_⟩
      exact ⟨_, rfl, r2, _, _, _, rfl, rfl, SqT.of h2, rfl, _, rfl, l2, p, rfl, p0, po, pb, fun H' g => q _ g⟩
  · have e1 : decide (V.int (o1 % 2) = V.int 1) = false := decide_eq_false fun z => c1 (int_inj z)
    by_cases c2 : o2 % 2 = 1
    · have e2 : decide (V.int (o2 % 2) = V.int 1) = true := decide_eq_true (congrArg V.int c2)
      rw [if_neg c1, if_pos c2] at q
      rw [e1, e2]
      refine ⟨_, rfl, _, rfl, iteF (iteF ?_)⟩
      refine ⟨_, rfl, _, rfl, iteF ?_⟩
      refine ⟨_, rfl, _, rfl, iteT ?_⟩
      exact ⟨_, rfl, r1, _, _, _, rfl, rfl, SqT.of h1, rfl, _, rfl, l1, p, rfl, p0, po, pb, fun H' g => q _ g⟩
    · have e2 : decide (V.int (o2 % 2) = V.int 1) = false := decide_eq_false fun z => c2 (int_inj z)
      rw [if_neg c1, if_neg c2] at q
      rw [e1, e2]
      refine ⟨_, rfl, _, rfl, iteF (iteF ?_)⟩
      refine ⟨_, rfl, _, rfl, iteF ?_⟩
      refine ⟨_, rfl, _, rfl, iteF ?_⟩
      exact q _ (Same.refl H)
theorem ok_sign_at {f : Addr} {fd : FuncData} (F : Fun K "sign_at" "sign_at" s_sign_at f fd) (T : Txt K mg t) (H_taken_out : Has P w K mg base CX0 1 "taken_out" ["number", "prime"] (spTaken)) (H_sign_at_two : Has P w K mg base CX0 2 "sign_at_two" ["one", "other"] (spAtTwo)) (H_sign_at_odd : Has P w K mg base CX0 3 "sign_at_odd" ["one", "other", "prime"] (spAtOdd)) : FnOk P w K mg base CX0 4 f fd ["a", "b", "place"] (spAt) := by
  obtain ⟨f_taken_out, d_taken_out, G_taken_out, b_taken_out, k_taken_out, m_taken_out⟩ := H_taken_out
  obtain ⟨f_sign_at_two, d_sign_at_two, G_sign_at_two, b_sign_at_two, k_sign_at_two, m_sign_at_two⟩ := H_sign_at_two
  obtain ⟨f_sign_at_odd, d_sign_at_odd, G_sign_at_odd, b_sign_at_odd, k_sign_at_odd, m_sign_at_odd⟩ := H_sign_at_odd
  refine F.ok sc_sign_at (fun vs H Q E h => ?_) (fun cdv A outer s H vs Q E hr h => ?_)
  · obtain ⟨_, _, _, _, rfl, _⟩ := h
    rfl
  obtain ⟨a, b, p, v, rfl, a0, b0, bb, hv, q⟩ := h
  have hr_taken_out := hr.mono (show 1 ≤ 3 by decide)
  have hr_sign_at_two := hr.mono (show 2 ≤ 3 by decide)
  have hr_sign_at_odd := hr.mono (show 3 ≤ 3 by decide)
  refine ⟨_, pss_cons (ps_if (pt_cmpR op_eq (pv 2) pe_int (nomark _)) (pss_one (ps_ret (pe_ifExp (PW.pt (pw_and (pt_cmpR op_lt (pv 0) pe_int (nomark _)) (pw_and1 (pt_cmpR op_lt (pv 1) pe_int (nomark _))))) (pe_un un_neg pe_int) pe_int))) pss_nil)
    (pss_cons (ps_set (i := 3) sc_sign_at.nd rfl (Or.inl rfl) (pe_call G_taken_out hr_taken_out rfl m_taken_out k_taken_out b_taken_out .nil pass0 (pa_cons (pv 0) (pa_cons (pv 2) pa_nil))))
    (pss_cons (ps_set (i := 4) sc_sign_at.nd rfl (Or.inl rfl) (pe_call G_taken_out hr_taken_out rfl m_taken_out k_taken_out b_taken_out .nil pass0 (pa_cons (pv 1) (pa_cons (pv 2) pa_nil))))
    (pss_cons (ps_if (pt_cmpR op_eq (pv 2) pe_int (nomark _)) (pss_one (ps_ret (pe_call G_sign_at_two hr_sign_at_two rfl m_sign_at_two k_sign_at_two b_sign_at_two .nil pass0 (pa_cons (pv 3) (pa_cons (pv 4) pa_nil))))) pss_nil)
    (pss_one (ps_ret (pe_call G_sign_at_odd hr_sign_at_odd rfl m_sign_at_odd k_sign_at_odd b_sign_at_odd .nil pass0 (pa_cons (pv 3) (pa_cons (pv 4) (pa_cons (pv 2) pa_nil))))))))), ?_⟩
  rcases hv with ⟨rfl, hv⟩ | ⟨hp, pb, o1, l1, o2, l2, d1, d2, hv⟩
  · refine ⟨_, rfl, rfl, _, rfl, iteT ?_⟩
    refine ⟨_, rfl, _, _, rfl, rfl, _, rfl, ?_⟩
    subst hv
    have q := q H (Same.refl H)
    refine ite2 (fun c => ?_) (fun c => ?_)
    · have c1 : a < 0 := decT c
      refine ⟨_, rfl, _, _, rfl, rfl, _, rfl, ?_⟩
      refine ite2 (fun c => ?_) (fun c => ?_)
      · rw [if_pos ⟨c1, decT c⟩] at q
        exact ⟨_, rfl, q⟩
      · rw [if_neg fun z => decF c z.2] at q
        exact q
    · rw [if_neg fun z => decF c z.1] at q
      exact iteF q
  · have p2 := hp.two
    refine ⟨_, rfl, rfl, _, rfl, iteDF (fun z => by have := int_inj z; omega) ?_⟩
    have plog : p.natAbs.log2 < 9000 := Nat.lt_of_lt_of_le (log2_lt_of (k := 64) (by omega) (by decide)) (by decide)
    refine ⟨_, rfl, _, rfl, a, p, rfl, a0, p2, plog, fun r1 H1 o l g1 h1 inn o0 zl l0 lx sp sn => ?_⟩
    obtain ⟨rfl, rfl⟩ := (Jc.Dec.of_inn inn o0 zl).unique (by omega) d1
    refine ⟨_, rfl, _, rfl, b, p, rfl, b0, p2, plog, fun r2 H2 o l g2 h2 inn2 o02 zl2 l02 lx2 sp2 sn2 => ?_⟩
    obtain ⟨rfl, rfl⟩ := (Jc.Dec.of_inn inn2 o02 zl2).unique (by omega) d2
    subst hv
    unfold Jc.hs at q
    refine ⟨_, rfl, rfl, _, rfl, ?_⟩
    refine ite2 (fun c => ?_) (fun c => ?_)
    · have e2 : p = 2 := int_inj (decT c)
      rw [if_pos e2] at q
      exact ⟨_, rfl, _, rfl, r1, r2, _, _, _, _, rfl, g2 _ _ h1, h2, fun H3 g3 => q _ ((g1.trans g2).trans g3)⟩
    · have e2 : p ≠ 2 := fun z => decF c (congrArg V.int z)
      rw [if_neg e2] at q
      exact ⟨_, rfl, _, rfl, _, rfl, r1, r2, _, _, _, _, p, rfl, g2 _ _ h1, h2, by omega, prm_odd hp e2, by omega, by omega, fun H3 g3 => q _ ((g1.trans g2).trans g3)⟩
theorem ok_churn {f : Addr} {fd : FuncData} (F : Fun K "_law_churn" "_law_churn" s_churn f fd) (T : Txt K mg t)  : FnOk P w K mg base CX0 1 f fd ["_law_cell", "_law_turn"] (spChurn) := by
  refine F.ok sc_churn (fun vs H Q E h => ?_) (fun cdv A outer s H vs Q E hr h => ?_)
  · obtain ⟨_, _, rfl, _⟩ := h
    rfl
  obtain ⟨c, t, rfl, t0, t1, q⟩ := h
  refine ⟨_, pss_cons (ps_set (i := 2) sc_churn.nd rfl (Or.inl rfl) (pe_op op_add (pe_op op_mod (pv 0) pe_int) pe_int))
    (pss_cons (ps_for PassesOwn.never rfl (pi_range1 rfl T.z_range (pa_cons (pe_op op_add (pe_op op_mod (pv 1) pe_int) pe_int) pa_nil)) (pg_name (i := 3) sc_churn.nd rfl (Or.inl rfl)) (pss_cons (ps_set (i := 4) sc_churn.nd rfl (Or.inl rfl) (pe_op op_mulG (pe_op op_mod (pe_op op_mulG (pv 2) (pv 2)) pe_int) (pe_op op_add (pv 1) pe_int)))
    (pss_one (ps_set (i := 2) sc_churn.nd rfl (Or.inl rfl) (pe_op op_mod (pe_op op_add (pe_op op_add (pe_op op_add (pv 4) (pe_op op_mulG pe_int (pv 2))) (pe_op op_mulG pe_int (pv 3))) (pv 1)) pe_int)))))
    (pss_one (ps_ret (pv 2)))), ?_⟩
  refine ⟨_, rfl, _, _, rfl, rfl, (by show (0 : Int) < 2147483563; decide), _, _, rfl, rfl, ?_⟩
  refine ⟨_, rfl, _, _, rfl, rfl, (by show (0 : Int) < 5; decide), _, _, rfl, rfl, t % 5 + 2, rfl, by omega, by omega, ?_⟩
  refine for_range (fun i σ H' => ∃ (x : Int) (k y : Option V), σ = [some (.int c), some (.int t), some (.int x), k, y] ∧ H = H' ∧ 0 ≤ x ∧ x ≤ 2147483563) ⟨c % 2147483563 + 1, none, none, rfl, rfl, by omega, by omega⟩ ?_ ?_
  · rintro i σ H' hi ⟨x, k, y, rfl, rfl, x0, x1⟩
    refine ⟨_, rfl, _, rfl, _, _, rfl, rfl, mulS (by omega) (by omega), _, _, rfl, rfl, (by show (0 : Int) < 2147483563; decide), _, rfl, _, _, rfl, rfl, _, _, rfl, rfl, mulS (by omega) (by omega), ?_⟩
    refine ⟨_, rfl, _, rfl, _, _, rfl, rfl, mulS (by omega) (by omega), _, _, rfl, rfl, _, rfl, _, _, rfl, rfl, IntMulOk.of_left (intBits_le_64 (by decide) (by decide)), _, _, rfl, rfl, _, rfl, _, _, rfl, rfl, _, _, rfl, rfl, (by show (0 : Int) < 2147483563; decide), ?_⟩
    exact ⟨_, _, _, rfl, rfl, Int.emod_nonneg _ (by decide), Int.le_of_lt (Int.emod_lt_of_pos _ (by decide))⟩
  · rintro σ H' ⟨x, k, y, rfl, rfl, x0, x1⟩
    exact ⟨_, rfl, q x x0 x1⟩
theorem ok_pair_sign {f : Addr} {fd : FuncData} (F : Fun K "pair_sign" "pair_sign" s_pair_sign f fd) (T : Txt K mg t) (H_is_prime : Has P w K mg base CX0 3 "is_prime" ["number"] (spIsPrime)) (H_sign_at : Has P w K mg base CX0 4 "sign_at" ["a", "b", "place"] (spAt)) : FnOk P w K mg base (XF P w) 5 f fd ["a", "b", "place"] (spPairX t.c6 t.c8) := by
  obtain ⟨f_is_prime, d_is_prime, G_is_prime, b_is_prime, k_is_prime, m_is_prime⟩ := H_is_prime
  obtain ⟨f_sign_at, d_sign_at, G_sign_at, b_sign_at, k_sign_at, m_sign_at⟩ := H_sign_at
  refine F.okX sc_pair_sign (fun vs H Q E h => ?_) (fun cdv A outer s H vs Q E hr h => ?_)
  · obtain ⟨_, _, _, rfl, _⟩ := h
    rfl
  obtain ⟨a, b, p, rfl, hv⟩ := h
  have hr_is_prime := hr.mono (show 3 ≤ 4 by decide)
  have hr_sign_at := hr.mono (show 4 ≤ 4 by decide)
  refine ⟨_, pss_cons (ps_if (PW.pt (pw_or (pt_cmpR op_eq (pv 0) pe_int (nomark _)) (pw_or1 (pt_cmpR op_eq (pv 1) pe_int (nomark _))))) (pss_one (ps_raise T.m_NoNumber T.x_NoNumber rfl (pa_cons pe_str pa_nil))) pss_nil)
    (pss_cons (ps_if (PW.pt (pw_and (pt_cmpR op_ne (pv 2) pe_int (nomark _)) (pw_and1 (pt_not (pt_val (pe_call G_is_prime hr_is_prime rfl m_is_prime k_is_prime b_is_prime .nil pass0 (pa_cons (pv 2) pa_nil)) (fun _ => rfl)))))) (pss_one (ps_raise T.m_NoPlace T.x_NoPlace rfl (pa_cons pe_str pa_nil))) pss_nil)
    (pss_one (PS.nox (ps_ret (pe_call G_sign_at hr_sign_at rfl m_sign_at k_sign_at b_sign_at .nil pass0 (pa_cons (pv 0) (pa_cons (pv 1) (pa_cons (pv 2) pa_nil)))))))), ?_⟩
  rcases hv with ⟨z, hE⟩ | ⟨a0, b0, np, hE⟩ | ⟨a0, b0, bb, v, hv, q⟩
  · refine ⟨_, rfl, rfl, _, rfl, ?_⟩
    refine ite2 (fun c => iteT ?_) (fun c => ⟨_, rfl, rfl, _, rfl, ?_⟩)
    · exact ⟨(by show 1 ≤ sizeLine; decide), hE⟩
    · have a0 : a ≠ 0 := fun y => decF c (congrArg V.int y)
      exact iteDT (congrArg V.int (show b = 0 by omega)) ⟨(by show 1 ≤ sizeLine; decide), hE⟩
  · refine ⟨_, rfl, rfl, _, rfl, iteDF (fun z => a0 (int_inj z)) ⟨_, rfl, rfl, _, rfl, iteDF (fun z => b0 (int_inj z)) ?_⟩⟩
    refine ⟨_, rfl, rfl, _, rfl, ?_⟩
    have e : (!decide (V.int p = V.int 0)) = true := by rw [decide_eq_false fun z => np.1 (int_inj z)]; rfl
    rw [e]
    refine iteT ⟨_, rfl, p, rfl, np.2.2, fun k H1 g1 hk => ?_⟩
    have kf : k = false := by
      cases k with
      | false => rfl
      | true => exact absurd (hk.mp rfl) np.2.1
    rw [kf]
    exact ⟨_, rfl, iteT ⟨(by show 1 ≤ sizeLine; decide), hE _ g1⟩⟩
  · refine ⟨_, rfl, rfl, _, rfl, iteDF (fun z => a0 (int_inj z)) ⟨_, rfl, rfl, _, rfl, iteDF (fun z => b0 (int_inj z)) ?_⟩⟩
    refine ⟨_, rfl, rfl, _, rfl, ?_⟩
    rcases id hv with ⟨rfl, _⟩ | ⟨hp, pb, _⟩
    · exact iteF (iteF ⟨_, rfl, _, rfl, _, rfl, a, b, 0, v, rfl, a0, b0, bb, hv, q⟩)
    · have p2 := hp.two
      have e : (!decide (V.int p = V.int 0)) = true := by rw [decide_eq_false fun z => by have := int_inj z; omega]; rfl
      rw [e]
      refine iteT ⟨_, rfl, p, rfl, by omega, fun k H1 g1 hk => ?_⟩
      rw [hk.mpr hp]
      exact ⟨_, rfl, iteF ⟨_, rfl, _, rfl, _, rfl, a, b, p, v, rfl, a0, b0, bb, hv, fun H2 g2 => q _ (g1.trans g2)⟩⟩
theorem ok_primes {f : Addr} {fd : FuncData} (F : Fun K "_law_primes" "_law_primes" s_primes f fd) (T : Txt K mg t)  : FnOk P w K mg base CX0 1 f fd [] (spPrimes) := by
  refine F.ok sc_primes (fun vs H Q E h => ?_) (fun cdv A outer s H vs Q E hr h => ?_)
  · obtain ⟨rfl, _⟩ := h
    rfl
  obtain ⟨rfl, q⟩ := h
  obtain ⟨es, es2, p1, p2, p3, q2, q3, q4, q5, hes, hes2, e⟩ : ∃ (es es2 : List Expr) (p1 p2 p3 q2 q3 q4 q5 : Pos), IntsE es Pa ∧ IntsE es2 Pb ∧ defBody s_primes = [.Assign [.Name "_law_some" p1] (.List es p2) p3, .Return (some (.BinOp (.Name "_law_some" q2) .Add (.List es2 q3) q4)) q5] :=
    ⟨_, _, _, _, _, _, _, _, _, (.cons (.cons (.cons (.cons (.cons (.cons (.cons (.cons (.cons (.cons (.cons (.cons .nil)))))))))))), (.cons (.cons (.cons (.cons (.cons (.cons (.cons (.cons .nil)))))))), rfl⟩
  rw [e]
  refine ⟨_, pss_cons (ps_set (i := 0) sc_primes.nd rfl (Or.inl rfl) (pe_lst (pa_ints hes))) (pss_one (ps_ret (pe_op op_cat (pv 0) (pe_lst (pa_ints hes2))))), ?_⟩
  refine ⟨(by show 12 ≤ sizeLine; decide), fun a1 h1 => ?_⟩
  refine ⟨_, rfl, (by show 8 ≤ sizeLine; decide), fun a2 h2 => ?_⟩
  have g1 := same_new h1 (.lst (Pa.map V.int))
  have g2 := same_new h2 (.lst (Pb.map V.int))
  refine ⟨a1, a2, _, _, rfl, rfl, g2 _ _ upd_same, upd_same, (by show 20 ≤ sizeLine; decide), fun a3 h3 => ?_⟩
  have g3 := same_new h3 (.lst (Pa.map V.int ++ Pb.map V.int))
  exact q a3 _ ((g1.trans g2).trans g3) upd_same
theorem ok_number {f : Addr} {fd : FuncData} (F : Fun K "_law_number" "_law_number" s_number f fd) (T : Txt K mg t) (H_churn : Has P w K mg base CX0 1 "_law_churn" ["_law_cell", "_law_turn"] (spChurn)) : FnOk P w K mg base CX0 2 f fd ["_law_cell", "_law_turn", "_law_most"] (spNumber) := by
  obtain ⟨f_churn, d_churn, G_churn, b_churn, k_churn, m_churn⟩ := H_churn
  refine F.ok sc_number (fun vs H Q E h => ?_) (fun cdv A outer s H vs Q E hr h => ?_)
  · obtain ⟨_, _, _, rfl, _⟩ := h
    rfl
  obtain ⟨c, t', m, rfl, t0, t1, m0, m1, q⟩ := h
  have hr_churn := hr.mono (show 1 ≤ 1 by decide)
  refine ⟨_, pss_cons (ps_set (i := 3) sc_number.nd rfl (Or.inl rfl) (pe_op op_add pe_int (pe_op op_mod (pe_call G_churn hr_churn rfl m_churn k_churn b_churn .nil pass0 (pa_cons (pv 0) (pa_cons (pv 1) pa_nil))) (pv 2))))
    (pss_cut (ps_if (pt_cmpR op_eq (pe_op op_mod (pe_call G_churn hr_churn rfl m_churn k_churn b_churn .nil pass0 (pa_cons (pv 0) (pa_cons (pe_op op_add (pv 1) pe_int) pa_nil))) pe_int) pe_int (nomark _)) (pss_cons (ps_set (i := 3) sc_number.nd rfl (Or.inl rfl) pe_int)
    (pss_one (ps_for PassesOwn.never rfl (pi_range1 rfl T.z_range (pa_cons pe_int pa_nil)) (pg_name (i := 4) sc_number.nd rfl (Or.inl rfl)) (pss_cons (ps_set (i := 5) sc_number.nd rfl (Or.inl rfl) (pe_ix ix_list (pe_lst (pa_ints (.cons (.cons (.cons (.cons (.cons (.cons (.cons (.cons .nil)))))))))) (pv 4) (fun _ _ => rfl)))
    (pss_one (ps_if (PW.pt (pw_and (pt_cmpR op_eq (pe_op op_mod (pe_call G_churn hr_churn rfl m_churn k_churn b_churn .nil pass0 (pa_cons (pv 0) (pa_cons (pe_op op_add (pe_op op_add (pv 1) pe_int) (pv 4)) pa_nil))) pe_int) pe_int (nomark _)) (pw_and1 (pt_cmpR op_le (pe_op op_mulG (pv 3) (pv 5)) (pv 2) (nomark _))))) (pss_one (ps_set (i := 3) sc_number.nd rfl (Or.inl rfl) (pe_op op_mulG (pv 3) (pv 5)))) pss_nil)))))) pss_nil)
    (pss_cons (ps_if (pt_cmpR op_eq (pe_op op_mod (pe_call G_churn hr_churn rfl m_churn k_churn b_churn .nil pass0 (pa_cons (pv 0) (pa_cons (pe_op op_add (pv 1) pe_int) pa_nil))) pe_int) pe_int (nomark _)) (pss_one (ps_ret (pe_op op_sub pe_int (pv 3)))) pss_nil)
    (pss_one (ps_ret (pv 3))))), ?_⟩
  refine ⟨_, rfl, _, rfl, c, t', rfl, t0, by omega, fun u u0 u1 => ⟨_, rfl, _, _, rfl, rfl, (by show 0 < m; omega), _, _, rfl, rfl, ?_⟩⟩
  have um0 := Int.emod_nonneg u (show m ≠ 0 by omega)
  have um1 := Int.emod_lt_of_pos u (show 0 < m by omega)
  refine ⟨fun σ' H' => ∃ (x : Int) (k p : Option V), σ' = [some (.int c), some (.int t'), some (.int m), some (.int x), k, p] ∧ Same H H' ∧ 1 ≤ x ∧ x ≤ m, ?_, ?_⟩
  · refine ⟨_, rfl, _, rfl, _, _, rfl, rfl, c, _, rfl, (by show 0 ≤ t' + 1; omega), (by show t' + 1 ≤ 100; omega), fun v v0 v1 => ⟨_, _, rfl, rfl, (by show (0 : Int) < 3; decide), rfl, _, rfl, ?_⟩⟩
    refine ite2 (fun c1 => ?_) (fun c1 => ?_)
    · refine ⟨8, rfl, by decide, by decide, for_range (fun i σ H' => ∃ (x : Int) (k p : Option V), σ = [some (.int c), some (.int t'), some (.int m), some (.int x), k, p] ∧ Same H H' ∧ 1 ≤ x ∧ x ≤ m) ⟨1, none, none, rfl, Same.refl H, by omega, by omega⟩ ?_ ?_⟩
      · rintro i σ H1 hi ⟨x, k, p, rfl, g1, x0, x1⟩
        have i8 : i < 8 := hi
        obtain ⟨z, hz, hat⟩ := atL (L := N8) (k := 0 + (i : Int)) (by omega) (by show 0 + (i : Int) < 8; omega)
        have zb := n8_in hz
        refine ⟨(by show 8 ≤ sizeLine; decide), fun l hl => ?_⟩
        have g2 := same_new hl (.lst (N8.map V.int))
        refine ⟨_, rfl, l, _, _, _, rfl, rfl, SqL.of upd_same, hat, ?_⟩
        refine ⟨_, rfl, _, rfl, _, _, rfl, rfl, _, rfl, _, _, rfl, rfl, c, _, rfl, (by show 0 ≤ t' + 2 + (0 + (i : Int)); omega), (by show t' + 2 + (0 + (i : Int)) ≤ 100; omega), fun v v0 v1 => ⟨_, _, rfl, rfl, (by show (0 : Int) < 2; decide), rfl, _, rfl, ?_⟩⟩
        refine ite2 (fun c2 => ?_) (fun c2 => ?_)
        · refine ⟨_, rfl, _, rfl, _, _, rfl, rfl, mulS (by omega) (by omega), _, rfl, _, _, rfl, rfl, _, rfl, ?_⟩
          refine ite2 (fun c3 => ?_) (fun c3 => ?_)
          · have c4 : x * z ≤ m := decT c3
            have h3 := Int.mul_le_mul x0 zb.1 (by decide) (by omega)
            exact ⟨_, rfl, _, rfl, _, _, rfl, rfl, mulS (by omega) (by omega), x * z, _, _, rfl, g1.trans g2, by omega, c4⟩
          · exact ⟨x, _, _, rfl, g1.trans g2, x0, x1⟩
        · exact iteF ⟨x, _, _, rfl, g1.trans g2, x0, x1⟩
      · rintro σ H1 ⟨x, k, p, rfl, g1, x0, x1⟩
        exact ⟨x, _, _, rfl, g1, x0, x1⟩
    · exact ⟨_, _, _, rfl, Same.refl H, by omega, by omega⟩
  rintro _ H1 ⟨x, k, p, rfl, g1, x0, x1⟩
  refine ⟨_, rfl, _, rfl, _, _, rfl, rfl, c, _, rfl, (by show 0 ≤ t' + 11; omega), (by show t' + 11 ≤ 100; omega), fun v v0 v1 => ⟨_, _, rfl, rfl, (by show (0 : Int) < 2; decide), rfl, _, rfl, ?_⟩⟩
  refine ite2 (fun c1 => ?_) (fun c1 => ?_)
  · exact ⟨_, rfl, _, _, rfl, rfl, q _ _ g1 (by omega) (by omega)⟩
  · exact ⟨_, rfl, q _ _ g1 (by omega) (by omega)⟩
theorem ok_place {f : Addr} {fd : FuncData} (F : Fun K "_law_place" "_law_place" s_place f fd) (T : Txt K mg t) (H_churn : Has P w K mg base CX0 1 "_law_churn" ["_law_cell", "_law_turn"] (spChurn)) (H_primes : Has P w K mg base CX0 1 "_law_primes" [] (spPrimes)) : FnOk P w K mg base CX0 2 f fd ["_law_cell", "_law_number_here"] (spPlace) := by
  obtain ⟨f_churn, d_churn, G_churn, b_churn, k_churn, m_churn⟩ := H_churn
  obtain ⟨f_primes, d_primes, G_primes, b_primes, k_primes, m_primes⟩ := H_primes
  refine F.ok sc_place (fun vs H Q E h => ?_) (fun cdv A outer s H vs Q E hr h => ?_)
  · obtain ⟨_, _, rfl, _⟩ := h
    rfl
  obtain ⟨c, n, rfl, q⟩ := h
  have hr_churn := hr.mono (show 1 ≤ 1 by decide)
  have hr_primes := hr.mono (show 1 ≤ 1 by decide)
  have hu64 := hu64_of hr
  refine ⟨_, pss_cons (ps_set (i := 2) sc_place.nd rfl (Or.inl rfl) (pe_op op_mod (pe_call G_churn hr_churn rfl m_churn k_churn b_churn .nil pass0 (pa_cons (pv 0) (pa_cons pe_int pa_nil))) pe_int))
    (pss_cons (ps_if (pt_cmpR op_eq (pv 2) pe_int (nomark _)) (pss_one (ps_ret pe_int)) pss_nil)
    (pss_cons (ps_if (pt_cmpR op_eq (pv 2) pe_int (nomark _)) (pss_one (ps_ret (pe_ix ix_list (pe_lst (pa_ints (.cons (.cons (.cons (.cons (.cons (.cons (.cons (.cons .nil)))))))))) (pe_op op_mod (pe_call G_churn hr_churn rfl m_churn k_churn b_churn .nil pass0 (pa_cons (pv 0) (pa_cons pe_int pa_nil))) pe_int) (fun _ _ => rfl)))) pss_nil)
    (pss_cons (ps_setC (k := 3) sc_place.nd rfl (Or.inl rfl) rfl rfl (CompScope.one (k := 1) [(".0", .local), ("_law_prime", .local), ("_law_number_here", .cell)] rfl (by decide +kernel) (by decide +kernel) rfl rfl rfl rfl (by decide +kernel) (by decide) (by decide +kernel) rfl rfl) (pi_list (pe_call0 G_primes hr_primes rfl m_primes k_primes b_primes .nil pass0)) (fun C s0 H0 fp pins => pt_cmpR op_eq (pe_op op_mod (pv 1) (pv 0)) pe_int (nomark _)) (fun C s0 H0 fp pins => pv 0) (Or.inl rfl))
    (pss_cons (ps_if (PW.pt (pw_and (pt_cmpR op_lt (pv 2) pe_int (nomark _)) (pw_and1 (pt_cmpR (op_neNil hu64) (pv 3) (pe_lst pa_nil) (nomark _))))) (pss_one (ps_ret (pe_ix ix_list (pv 3) (pe_op op_mod (pe_call G_churn hr_churn rfl m_churn k_churn b_churn .nil pass0 (pa_cons (pv 0) (pa_cons pe_int pa_nil))) (pe_callB call_len_seq rfl T.z_len PySem.boot_len (pa_cons (pv 3) pa_nil))) (fun _ _ => rfl)))) pss_nil)
    (pss_one (ps_ret (pe_ix ix_list (pe_call0 G_primes hr_primes rfl m_primes k_primes b_primes .nil pass0) (pe_op op_mod (pe_call G_churn hr_churn rfl m_churn k_churn b_churn .nil pass0 (pa_cons (pv 0) (pa_cons pe_int pa_nil))) pe_int) (fun _ _ => rfl)))))))), ?_⟩
  refine ⟨_, rfl, c, 2, rfl, by decide, by decide, fun u u0 u1 => ⟨_, _, rfl, rfl, (by show (0 : Int) < 5; decide), ?_⟩⟩
  refine ⟨_, rfl, rfl, _, rfl, ?_⟩
  refine ite2 (fun c1 => ?_) (fun c1 => ?_)
  · exact q 0 H (Same.refl H) (.inl rfl)
  refine ⟨_, rfl, rfl, _, rfl, ?_⟩
  refine ite2 (fun c2 => ?_) (fun c2 => ?_)
  · refine ⟨(by show 8 ≤ sizeLine; decide), fun l hl => ⟨_, rfl, c, 4, rfl, by decide, by decide, fun v v0 v1 => ?_⟩⟩
    obtain ⟨z, hz, hat⟩ := atL (L := P8) (k := v % 8) (by omega) (by show v % 8 < 8; omega)
    exact ⟨_, _, rfl, rfl, (by show (0 : Int) < 8; decide), l, _, _, _, rfl, rfl, SqL.of upd_same, hat, q z _ (same_new hl _) (good20 (List.mem_append_right _ hz))⟩
  refine ⟨rfl, fun lp H1 g1 hl => ?_⟩
  refine ⟨lp, rfl, ⟨_, SqL.of hl⟩, fun acc hacc => ?_⟩
  refine ⟨fun i m H' vs => ∃ ks : List Int, i ≤ 20 ∧ m = 20 - i ∧ vs = ks.map V.int ∧ ks.length ≤ i ∧ (∀ k ∈ ks, k ∈ P20) ∧ Same H1 H' ∧ H' acc = some (.lst vs), ⟨_, [], Nat.zero_le _, rfl, rfl, Nat.le_refl _, fun k hk => absurd hk List.not_mem_nil, same_new hacc _, upd_same⟩, ?_⟩
  rintro i m H2 vs ⟨ks, hi, rfl, rfl, kl, kin, g2, ha⟩
  refine ⟨ha, ?_⟩
  by_cases h3 : i = 20
  · refine .inl ⟨⟨_, SqL.of (g2 _ _ hl), by rw [List.length_map]; show 20 ≤ i; omega⟩, ?_⟩
    have g12 := g1.trans g2
    refine ⟨_, rfl, _, _, rfl, rfl, _, rfl, ?_⟩
    refine ite2 (fun c3 => ?_) (fun c3 => iteF ?_)
    · refine ⟨_, rfl, (by show 0 ≤ sizeLine; decide), fun l0 h0 => ?_⟩
      have g3 := same_new h0 (.lst [])
      refine ⟨acc, l0, ks, rfl, rfl, g3 _ _ ha, upd_same, _, rfl, ?_⟩
      cases hk : ks with
      | nil =>
        refine iteF ?_
        refine ⟨rfl, fun lp2 H3 g4 hl3 => ⟨_, rfl, c, 4, rfl, by decide, by decide, fun v v0 v1 => ?_⟩⟩
        obtain ⟨z, hz, hat⟩ := atL (L := P20) (k := v % 20) (by omega) (by show v % 20 < 20; omega)
        exact ⟨_, _, rfl, rfl, (by show (0 : Int) < 20; decide), lp2, _, _, _, rfl, rfl, SqL.of hl3, hat, q z _ ((g12.trans g3).trans g4) (good20 (List.mem_append_left _ hz))⟩
      | cons k0 kr =>
        refine iteT ?_
        have hl4 : 0 < ((ks.map V.int).length : Int) := by rw [hk]; show (0 : Int) < ((kr.map V.int).length + 1 : Nat); omega
        refine ⟨_, rfl, _, rfl, c, 3, rfl, by decide, by decide, fun v v0 v1 => ?_⟩
        have m0 := Int.emod_nonneg v (show ((ks.map V.int).length : Int) ≠ 0 by omega)
        have m1 := Int.emod_lt_of_pos v hl4
        obtain ⟨z, hz, hat⟩ := atL (L := ks) (k := v % ((ks.map V.int).length : Nat)) m0 (by rw [List.length_map] at m1 ⊢; exact m1)
        exact ⟨_, rfl, acc, _, rfl, .inl (SqL.of (g3 _ _ ha)), _, _, rfl, rfl, hl4, acc, _, _, _, rfl, rfl, SqL.of (g3 _ _ ha), hat, q z _ (g12.trans g3) (good20 (List.mem_append_left _ (kin z hz)))⟩
    · refine ⟨rfl, fun lp2 H3 g4 hl3 => ⟨_, rfl, c, 4, rfl, by decide, by decide, fun v v0 v1 => ?_⟩⟩
      obtain ⟨z, hz, hat⟩ := atL (L := P20) (k := v % 20) (by omega) (by show v % 20 < 20; omega)
      exact ⟨_, _, rfl, rfl, (by show (0 : Int) < 20; decide), lp2, _, _, _, rfl, rfl, SqL.of hl3, hat, q z _ (g12.trans g4) (good20 (List.mem_append_left _ hz))⟩
  · have hlt : i < P20.length := by show i < 20; omega
    have hn : (P20.map V.int)[i]? = some (.int P20[i]) := by
      rw [List.getElem?_map, List.getElem?_eq_getElem hlt]
      rfl
    have pin := List.getElem_mem hlt
    have pb := p20_in pin
    refine .inr ⟨⟨_, _, SqL.of (g2 _ _ hl), hn⟩, ?_, ?_⟩
    · rw [List.length_map]
      exact line_big (by omega)
    · rintro z H3 ⟨rfl, hz⟩
      have e := (hz _ (SqL.of (g2 _ _ hl))).symm.trans hn
      cases e
      refine ⟨_, rfl, _, rfl, _, _, rfl, rfl, (by show 0 < P20[i]; omega), rfl, _, rfl, ?_⟩
      refine ite2 (fun c3 => ?_) (fun c3 => ?_)
      · refine ⟨_, rfl, ha, 20 - (i + 1), by omega, ks ++ [P20[i]], by omega, rfl, by rw [List.map_append]; rfl, by rw [List.length_append]; show ks.length + 1 ≤ i + 1; omega, fun k hk => ?_, fun b o z => ?_, upd_same⟩
        · rcases List.mem_append.mp hk with h | h
          · exact kin k h
          · rw [List.mem_singleton.mp h]; exact pin
        · rw [upd_ne (ne_of_none z hacc)]
          exact g2 b o z
      · exact ⟨20 - (i + 1), by omega, ks, by omega, rfl, rfl, by omega, kin, g2, ha⟩
theorem ok_sign {f : Addr} {fd : FuncData} (F : Fun K "_law_sign" "_law_sign" s_sign f fd) (T : Txt K mg t) (H_pair_sign : Has P w K mg base (XF P w) 5 "pair_sign" ["a", "b", "place"] (spPairX t.c6 t.c8)) (H_whole : Has P w K mg base CX0 1 "_law_whole" ["_law_found"] (spWhole)) : FnOk P w K mg base CX0 6 f fd ["_law_a", "_law_b", "_law_place_here"] (spAt) := by
  obtain ⟨f_pair_sign, d_pair_sign, G_pair_sign, b_pair_sign, k_pair_sign, m_pair_sign⟩ := H_pair_sign
  obtain ⟨f_whole, d_whole, G_whole, b_whole, k_whole, m_whole⟩ := H_whole
  refine F.ok sc_sign (fun vs H Q E h => ?_) (fun cdv A outer s H vs Q E hr h => ?_)
  · obtain ⟨_, _, _, _, rfl, _⟩ := h
    rfl
  obtain ⟨a, b, p, v, rfl, a0, b0, bb, hv, q⟩ := h
  have hr_pair_sign := hr.mono (show 5 ≤ 5 by decide)
  have hr_whole := hr.mono (show 1 ≤ 5 by decide)
  refine ⟨_, pss_cons (ps_set (i := 3) sc_sign.nd rfl (Or.inl rfl) (pe_call G_pair_sign hr_pair_sign rfl m_pair_sign k_pair_sign b_pair_sign .nil passF (pa_cons (pv 0) (pa_cons (pv 1) (pa_cons (pv 2) pa_nil)))))
    (pss_cons (ps_if (PW.pt (pw_or (pt_not (pt_val (pe_call G_whole hr_whole rfl m_whole k_whole b_whole .nil pass0 (pa_cons (pv 3) pa_nil)) (fun _ => rfl))) (pw_or1 (pt_cmpR op_notIn_seq (pv 3) (pe_tup (pa_cons pe_int (pa_cons (pe_un un_neg pe_int) pa_nil))) (by with_unfolding_all rfl))))) (pss_one (ps_ret pe_int)) pss_nil)
    (pss_one (ps_ret (pv 3)))), ?_⟩
  refine ⟨_, rfl, _, rfl, _, rfl, a, b, p, rfl, .inr (.inr ⟨a0, b0, bb, v, hv, fun H1 g1 => ?_⟩)⟩
  refine ⟨_, rfl, _, rfl, _, rfl, iteF ?_⟩
  refine ⟨_, rfl, _, rfl, (by show 2 ≤ sizeLine; decide), fun r hr' => ?_⟩
  have g2 := same_new hr' (.tup [.int 1, .int (-1)])
  refine ⟨_, _, rfl, .inr (SqT.of upd_same), rfl, rfl, (!inV (.int v) [.int 1, .int (-1)]), rfl, ?_⟩
  rw [not11 _ hv.or]
  exact iteF ⟨_, rfl, q _ (g1.trans g2)⟩
theorem ok_refused {f : Addr} {fd : FuncData} (F : Fun K "_law_refused" "_law_refused" s_refused f fd) (T : Txt K mg t) (H_pair_sign : Has P w K mg base (XF P w) 5 "pair_sign" ["a", "b", "place"] (spPairX t.c6 t.c8)) (H_alone : Has P w K mg base CX0 1 "_law_alone" ["_law_e", "_law_sort"] (spAloneT t.c6 t.c8)) : FnOk P w K mg base CX0 6 f fd ["_law_a", "_law_b", "_law_place_here"] (spRefused) := by
  obtain ⟨f_pair_sign, d_pair_sign, G_pair_sign, b_pair_sign, k_pair_sign, m_pair_sign⟩ := H_pair_sign
  obtain ⟨f_alone, d_alone, G_alone, b_alone, k_alone, m_alone⟩ := H_alone
  refine F.ok sc_refused (fun vs H Q E h => ?_) (fun cdv A outer s H vs Q E hr h => ?_)
  · obtain ⟨_, _, _, rfl, _⟩ := h
    rfl
  obtain ⟨a, b, p, rfl, hv⟩ := h
  have hr_pair_sign := hr.mono (show 5 ≤ 5 by decide)
  have hr_alone := hr.mono (show 1 ≤ 5 by decide)
  refine ⟨_, pss_cons (ps_set (i := 3) sc_refused.nd rfl (Or.inl rfl) pe_non)
    (pss_cons (ps_tryAs3 (i := 4) G_pair_sign hr_pair_sign rfl m_pair_sign k_pair_sign b_pair_sign (pa_cons (pv 0) (pa_cons (pv 1) (pa_cons (pv 2) pa_nil))) T.m_CurveError rfl T.x_NoNumber T.x_CurveError T.u_NoNumber T.x_NoPlace T.u_NoPlace sc_refused.nd rfl rfl (fun ea => pss_one (ps_set (i := 3) sc_refused.nd rfl (Or.inl rfl) (pv 4))))
    (pss_cons (ps_if (pt_val (pe_call G_alone hr_alone rfl m_alone k_alone b_alone .nil pass0 (pa_cons (pv 3) (pa_cons pe_int pa_nil))) (fun _ => rfl)) (pss_one (ps_ret pe_str)) pss_nil)
    (pss_one (ps_ret (pe_ix ix_list (pe_lst (pa_cons pe_str (pa_cons pe_str pa_nil))) (pe_callTy call_int1 rfl T.z_int b_int (pa_cons (pe_call G_alone hr_alone rfl m_alone k_alone b_alone .nil pass0 (pa_cons (pv 3) (pa_cons pe_int pa_nil))) pa_nil)) (fun _ _ => rfl)))))), ?_⟩
  rcases hv with ⟨z, q⟩ | ⟨a0, b0, np, q⟩
  · refine ⟨_, rfl, _, rfl, _, rfl, a, b, p, rfl, .inl ⟨z, .inl ⟨rfl, fun e he => ?_⟩⟩⟩
    refine ⟨_, rfl, ?_⟩
    have g1 := same_new he (.ext (ExcAt t.c6 e))
    exact ⟨_, rfl, e, 6, rfl, .inl rfl, .inl ⟨upd_same, fun H2 g2 => ⟨true, rfl, iteT (q _ (g1.trans g2))⟩⟩⟩
  · refine ⟨_, rfl, _, rfl, _, rfl, a, b, p, rfl, .inr (.inl ⟨a0, b0, np, fun H0 g0 => .inr ⟨rfl, fun e he => ?_⟩⟩)⟩
    refine ⟨_, rfl, ?_⟩
    have g1 := same_new he (.ext (ExcAt t.c8 e))
    refine ⟨_, rfl, e, 6, rfl, .inl rfl, .inr ⟨upd_same, fun H2 g2 => ⟨false, rfl, iteF ?_⟩⟩⟩
    refine ⟨(by show 2 ≤ sizeLine; decide), fun l hl => ?_⟩
    have g3 := same_new hl (.lst [.str ("other" : Str), .str ("place" : Str)])
    refine ⟨_, rfl, e, 8, rfl, .inr rfl, .inr ⟨g3 _ _ (g2 _ _ upd_same), fun H3 g4 => .inr ⟨true, rfl, ?_⟩⟩⟩
    exact ⟨l, _, _, _, rfl, rfl, SqL.of (g4 _ _ upd_same), rfl, q _ ((((g0.trans g1).trans g2).trans g3).trans g4)⟩
theorem ok_odd_places {f : Addr} {fd : FuncData} (F : Fun K "_law_odd_places" "_law_odd_places" s_odd_places f fd) (T : Txt K mg t) (H_churn : Has P w K mg base CX0 1 "_law_churn" ["_law_cell", "_law_turn"] (spChurn)) (H_primes : Has P w K mg base CX0 1 "_law_primes" [] (spPrimes)) (H_refused : Has P w K mg base CX0 6 "_law_refused" ["_law_a", "_law_b", "_law_place_here"] (spRefused)) : FnOk P w K mg base CX0 7 f fd ["_law_a", "_law_b", "_law_cell"] (spOddPl) := by
  obtain ⟨f_churn, d_churn, G_churn, b_churn, k_churn, m_churn⟩ := H_churn
  obtain ⟨f_primes, d_primes, G_primes, b_primes, k_primes, m_primes⟩ := H_primes
  obtain ⟨f_refused, d_refused, G_refused, b_refused, k_refused, m_refused⟩ := H_refused
  refine F.ok sc_odd_places (fun vs H Q E h => ?_) (fun cdv A outer s H vs Q E hr h => ?_)
  · obtain ⟨_, _, _, rfl, _⟩ := h
    rfl
  obtain ⟨a, b, c, rfl, a0, b0, q⟩ := h
  have hr_churn := hr.mono (show 1 ≤ 6 by decide)
  have hr_primes := hr.mono (show 1 ≤ 6 by decide)
  have hr_refused := hr.mono (show 6 ≤ 6 by decide)
  obtain ⟨es, p1, p2, p3, hes, e⟩ : ∃ (es : List Expr) (p1 p2 p3 : Pos), IntsE es O11 ∧ defBody s_odd_places = [(defBody s_odd_places).getD 0 (.Pass ⟨0, 0, 0, 0⟩), .Assign [.Name "_law_more" p1] (.List es p2) p3, (defBody s_odd_places).getD 2 (.Pass ⟨0, 0, 0, 0⟩), (defBody s_odd_places).getD 3 (.Pass ⟨0, 0, 0, 0⟩), (defBody s_odd_places).getD 4 (.Pass ⟨0, 0, 0, 0⟩), (defBody s_odd_places).getD 5 (.Pass ⟨0, 0, 0, 0⟩), (defBody s_odd_places).getD 6 (.Pass ⟨0, 0, 0, 0⟩)] :=
    ⟨_, _, _, _, (.cons (.cons (.cons (.cons (.cons (.cons (.cons (.cons (.cons (.cons (.cons .nil))))))))))), rfl⟩
  rw [e]
  refine ⟨_, pss_cons (ps_set (i := 3) sc_odd_places.nd rfl (Or.inl rfl) (pe_call0 G_primes hr_primes rfl m_primes k_primes b_primes .nil pass0))
    (pss_cut (ps_set (i := 4) sc_odd_places.nd rfl (Or.inl rfl) (pe_lst (pa_ints hes)))
    (pss_cut (ps_set (i := 5) sc_odd_places.nd rfl (Or.inl rfl) (pe_lst (pa_cons pe_int (pa_cons (pe_op op_sub pe_int (pe_ix ix_list (pv 3) (pe_op op_mod (pe_call G_churn hr_churn rfl m_churn k_churn b_churn .nil pass0 (pa_cons (pv 2) (pa_cons pe_int pa_nil))) pe_int) (fun _ _ => rfl))) (pa_cons (pe_op op_mulG (pe_ix ix_list (pv 3) (pe_op op_mod (pe_call G_churn hr_churn rfl m_churn k_churn b_churn .nil pass0 (pa_cons (pv 2) (pa_cons pe_int pa_nil))) pe_int) (fun _ _ => rfl)) (pe_ix ix_list (pv 3) (pe_op op_mod (pe_call G_churn hr_churn rfl m_churn k_churn b_churn .nil pass0 (pa_cons (pv 2) (pa_cons pe_int pa_nil))) pe_int) (fun _ _ => rfl))) (pa_cons (pe_un un_neg pe_int) (pa_cons pe_int pa_nil)))))))
    (pss_cut (ps_set (i := 5) sc_odd_places.nd rfl (Or.inl rfl) (pe_op op_cat (pv 5) (pe_op op_rep (pe_lst (pa_cons (pe_op op_mulG (pe_ix ix_list (pv 4) (pe_op op_mod (pe_call G_churn hr_churn rfl m_churn k_churn b_churn .nil pass0 (pa_cons (pv 2) (pa_cons pe_int pa_nil))) pe_int) (fun _ _ => rfl)) (pe_ix ix_list (pv 4) (pe_op op_mod (pe_call G_churn hr_churn rfl m_churn k_churn b_churn .nil pass0 (pa_cons (pv 2) (pa_cons pe_int pa_nil))) pe_int) (fun _ _ => rfl))) pa_nil)) pe_int)))
    (pss_cut (ps_set (i := 5) sc_odd_places.nd rfl (Or.inl rfl) (pe_ix ix_list (pv 5) (pe_op op_mod (pe_call G_churn hr_churn rfl m_churn k_churn b_churn .nil pass0 (pa_cons (pv 2) (pa_cons pe_int pa_nil))) pe_int) (fun _ _ => rfl)))
    (pss_cons (ps_if (PW.pt (pw_or (pt_cmpR op_ne (pe_call G_refused hr_refused rfl m_refused k_refused b_refused .nil pass0 (pa_cons (pv 0) (pa_cons (pv 1) (pa_cons (pv 5) pa_nil)))) pe_str (nomark _)) (pw_or1 (pt_cmpR op_ne (pe_call G_refused hr_refused rfl m_refused k_refused b_refused .nil pass0 (pa_cons pe_int (pa_cons (pv 1) (pa_cons (pv 5) pa_nil)))) pe_str (nomark _))))) (pss_one (ps_ret pe_bl)) pss_nil)
    (pss_one (ps_ret (pe_and (pe_cmpR op_eq (pe_call G_refused hr_refused rfl m_refused k_refused b_refused .nil pass0 (pa_cons (pv 0) (pa_cons pe_int (pa_cons (pv 5) pa_nil)))) pe_str (nomark _)) (pe_one (pe_cmpR op_eq (pe_call G_refused hr_refused rfl m_refused k_refused b_refused .nil pass0 (pa_cons pe_int (pa_cons pe_int (pa_cons pe_int pa_nil)))) pe_str (nomark _))))))))))), ?_⟩
  refine ⟨rfl, fun lp H1 g1 hl => ?_⟩
  refine ⟨fun σ' H' => ∃ lm : Addr, σ' = [some (.int a), some (.int b), some (.int c), some (.ref lp), some (.ref lm), none] ∧ Same H1 H' ∧ H' lm = some (.lst (O11.map V.int)), ?_, ?_⟩
  · exact ⟨(by show 11 ≤ sizeLine; decide), fun lm hlm => ⟨lm, rfl, same_new hlm _, upd_same⟩⟩
  rintro _ H2 ⟨lm, rfl, g2, hm2⟩
  have hl2 := g2 _ _ hl
  refine ⟨fun σ' H' => ∃ (ln : Addr) (z1 z2 z3 : Int), σ' = [some (.int a), some (.int b), some (.int c), some (.ref lp), some (.ref lm), some (.ref ln)] ∧ Same H2 H' ∧ H' ln = some (.lst [.int 1, .int (0 - z1), .int (z2 * z3), .int (-1), .int 4]) ∧ z1 ∈ P20 ∧ z2 ∈ P20 ∧ z3 ∈ P20, ?_, ?_⟩
  · refine ⟨_, rfl, _, rfl, c, 5, rfl, by decide, by decide, fun u1 _ _ => ?_⟩
    obtain ⟨z1, i1, at1⟩ := atL (L := P20) (k := u1 % 20) (by omega) (by show u1 % 20 < 20; omega)
    refine ⟨_, _, rfl, rfl, (by show (0 : Int) < 20; decide), lp, _, _, _, rfl, rfl, SqL.of hl2, at1, _, _, rfl, rfl, ?_⟩
    refine ⟨_, rfl, _, rfl, c, 6, rfl, by decide, by decide, fun u2 _ _ => ?_⟩
    obtain ⟨z2, i2, at2⟩ := atL (L := P20) (k := u2 % 18) (by omega) (by show u2 % 18 < 20; omega)
    refine ⟨_, _, rfl, rfl, (by show (0 : Int) < 18; decide), lp, _, _, _, rfl, rfl, SqL.of hl2, at2, ?_⟩
    refine ⟨_, rfl, _, rfl, c, 7, rfl, by decide, by decide, fun u3 _ _ => ?_⟩
    obtain ⟨z3, i3, at3⟩ := atL (L := P20) (k := u3 % 18) (by omega) (by show u3 % 18 < 20; omega)
    have b2 := p20_in i2
    have b3 := p20_in i3
    exact ⟨_, _, rfl, rfl, (by show (0 : Int) < 18; decide), lp, _, _, _, rfl, rfl, SqL.of hl2, at3, _, _, rfl, rfl, mulS (by omega) (by omega), _, rfl, (by show 5 ≤ sizeLine; decide), fun ln hln => ⟨ln, z1, z2, z3, rfl, same_new hln _, upd_same, i1, i2, i3⟩⟩
  rintro _ H3 ⟨ln, z1, z2, z3, rfl, g3, hn3, i1, i2, i3⟩
  have b1 := p20_in i1
  have b2 := p20_in i2
  have b3 := p20_in i3
  have hm3 := g3 _ _ hm2
  refine ⟨fun σ' H' => ∃ (l3 : Addr) (z4 z5 : Int), σ' = [some (.int a), some (.int b), some (.int c), some (.ref lp), some (.ref lm), some (.ref l3)] ∧ Same H3 H' ∧ H' l3 = some (.lst [.int 1, .int (0 - z1), .int (z2 * z3), .int (-1), .int 4, .int (z4 * z5), .int (z4 * z5), .int (z4 * z5)]) ∧ z4 ∈ O11 ∧ z5 ∈ O11, ?_, ?_⟩
  · refine ⟨_, rfl, _, rfl, _, rfl, c, 6, rfl, by decide, by decide, fun u4 _ _ => ?_⟩
    obtain ⟨z4, i4, at4⟩ := atL (L := O11) (k := u4 % 11) (by omega) (by show u4 % 11 < 11; omega)
    refine ⟨_, _, rfl, rfl, (by show (0 : Int) < 11; decide), lm, _, _, _, rfl, rfl, SqL.of hm3, at4, ?_⟩
    refine ⟨_, rfl, _, rfl, c, 7, rfl, by decide, by decide, fun u5 _ _ => ?_⟩
    obtain ⟨z5, i5, at5⟩ := atL (L := O11) (k := u5 % 11) (by omega) (by show u5 % 11 < 11; omega)
    have b4 := o11_in i4
    have b5 := o11_in i5
    refine ⟨_, _, rfl, rfl, (by show (0 : Int) < 11; decide), lm, _, _, _, rfl, rfl, SqL.of hm3, at5, _, _, rfl, rfl, mulS (by omega) (by omega), (by show 1 ≤ sizeLine; decide), fun l1 h1 => ?_⟩
    have g4 := same_new h1 (.lst [.int (z4 * z5)])
    refine ⟨l1, 3, _, rfl, rfl, upd_same, by decide, by decide, (by show 1 * 3 ≤ sizeLine; decide), fun l2 h2 => ?_⟩
    have g5 := same_new h2 (.lst [.int (z4 * z5), .int (z4 * z5), .int (z4 * z5)])
    exact ⟨ln, l2, _, _, rfl, rfl, g5 _ _ (g4 _ _ hn3), upd_same, (by show 8 ≤ sizeLine; decide), fun l3 h3 => ⟨l3, z4, z5, rfl, (g4.trans g5).trans (same_new h3 _), upd_same, i4, i5⟩⟩
  rintro _ H4 ⟨l3, z4, z5, rfl, g4, hn4, i4, i5⟩
  have b4 := o11_in i4
  have b5 := o11_in i5
  refine ⟨fun σ' H' => ∃ no : Int, σ' = [some (.int a), some (.int b), some (.int c), some (.ref lp), some (.ref lm), some (.int no)] ∧ H4 = H' ∧ NoPl no, ?_, ?_⟩
  · refine ⟨_, rfl, _, rfl, c, 8, rfl, by decide, by decide, fun u6 _ _ => ?_⟩
    obtain ⟨no, np, at6⟩ : ∃ no : Int, NoPl no ∧ atI [V.int 1, V.int (0 - z1), V.int (z2 * z3), V.int (-1), V.int 4, V.int (z4 * z5), V.int (z4 * z5), V.int (z4 * z5)] (u6 % 8) = some (.int no) := by
      rcases (show u6 % 8 = 0 ∨ u6 % 8 = 1 ∨ u6 % 8 = 2 ∨ u6 % 8 = 3 ∨ u6 % 8 = 4 ∨ u6 % 8 = 5 ∨ u6 % 8 = 6 ∨ u6 % 8 = 7 by omega) with h | h | h | h | h | h | h | h <;> rw [h]
      · exact ⟨_, nopl_small (by decide) (by decide), rfl⟩
      · exact ⟨_, nopl_small (by omega) (by omega), rfl⟩
      · exact ⟨_, nopl_prod b2 b3, rfl⟩
      · exact ⟨_, nopl_small (by decide) (by decide), rfl⟩
      · exact ⟨_, nopl_four, rfl⟩
      · exact ⟨_, nopl_prod b4 b5, rfl⟩
      · exact ⟨_, nopl_prod b4 b5, rfl⟩
      · exact ⟨_, nopl_prod b4 b5, rfl⟩
    exact ⟨_, _, rfl, rfl, (by show (0 : Int) < 8; decide), l3, _, _, _, rfl, rfl, SqL.of hn4, at6, no, rfl, rfl, np⟩
  rintro _ _ ⟨no, rfl, rfl, np⟩
  have G := ((g1.trans g2).trans g3).trans g4
  refine ⟨_, rfl, _, rfl, _, rfl, a, b, no, rfl, .inr ⟨a0, b0, np, fun H7 g7 => ⟨rfl, _, rfl, iteNS rfl ?_⟩⟩⟩
  refine ⟨_, rfl, _, rfl, 0, b, no, rfl, .inl ⟨.inl rfl, fun H8 g8 => ⟨rfl, _, rfl, iteNS rfl ?_⟩⟩⟩
  refine ⟨_, rfl, _, rfl, a, 0, no, rfl, .inl ⟨.inr rfl, fun H9 g9 => ⟨rfl, _, rfl, iteDT rfl ?_⟩⟩⟩
  exact ⟨0, 0, 0, rfl, .inl ⟨.inl rfl, fun H10 g10 => ⟨rfl, blT (Q := Q) (c := V.str ("number" : Str) = V.str ("number" : Str)) rfl (q _ ((((G.trans g7).trans g8).trans g9).trans g10))⟩⟩⟩
theorem ok_law {f : Addr} {fd : FuncData} (F : Fun K "law" "law" s_law f fd) (T : Txt K mg t) (H_cell_at : Has P w K mg base CX0 1 "_law_cell_at" ["_law_script", "_law_k"] (spCell K)) (H_number : Has P w K mg base CX0 2 "_law_number" ["_law_cell", "_law_turn", "_law_most"] (spNumber)) (H_place : Has P w K mg base CX0 2 "_law_place" ["_law_cell", "_law_number_here"] (spPlace)) (H_sign : Has P w K mg base CX0 6 "_law_sign" ["_law_a", "_law_b", "_law_place_here"] (spAt)) (H_odd_places : Has P w K mg base CX0 7 "_law_odd_places" ["_law_a", "_law_b", "_law_cell"] (spOddPl)) : FnOk P w K mg base CX0 8 f fd ["_law_script"] (spLaw K) := by
  obtain ⟨f_cell_at, d_cell_at, G_cell_at, b_cell_at, k_cell_at, m_cell_at⟩ := H_cell_at
  obtain ⟨f_number, d_number, G_number, b_number, k_number, m_number⟩ := H_number
  obtain ⟨f_place, d_place, G_place, b_place, k_place, m_place⟩ := H_place
  obtain ⟨f_sign, d_sign, G_sign, b_sign, k_sign, m_sign⟩ := H_sign
  obtain ⟨f_odd_places, d_odd_places, G_odd_places, b_odd_places, k_odd_places, m_odd_places⟩ := H_odd_places
  refine F.ok sc_law (fun vs H Q E h => ?_) (fun cdv A outer s H vs Q E hr h => ?_)
  · obtain ⟨a, ns, rfl, _⟩ := h
    rfl
  obtain ⟨l, ns, rfl, hS, h63, hb, q⟩ := h
  have hr_cell_at := hr.mono (show 1 ≤ 7 by decide)
  have hr_number := hr.mono (show 2 ≤ 7 by decide)
  have hr_place := hr.mono (show 2 ≤ 7 by decide)
  have hr_sign := hr.mono (show 6 ≤ 7 by decide)
  have hr_odd_places := hr.mono (show 7 ≤ 7 by decide)
  refine ⟨_, pss_cons (ps_set (i := 1) sc_law.nd rfl (Or.inl rfl) (pe_call G_number hr_number rfl m_number k_number b_number .nil pass0 (pa_cons (pe_call G_cell_at hr_cell_at rfl m_cell_at k_cell_at b_cell_at .nil pass0 (pa_cons (pv 0) (pa_cons pe_int pa_nil))) (pa_cons pe_int (pa_cons pe_int pa_nil)))))
    (pss_cons (ps_set (i := 2) sc_law.nd rfl (Or.inl rfl) (pe_call G_number hr_number rfl m_number k_number b_number .nil pass0 (pa_cons (pe_call G_cell_at hr_cell_at rfl m_cell_at k_cell_at b_cell_at .nil pass0 (pa_cons (pv 0) (pa_cons pe_int pa_nil))) (pa_cons pe_int (pa_cons pe_int pa_nil)))))
    (pss_cons (ps_set (i := 3) sc_law.nd rfl (Or.inl rfl) (pe_call G_number hr_number rfl m_number k_number b_number .nil pass0 (pa_cons (pe_call G_cell_at hr_cell_at rfl m_cell_at k_cell_at b_cell_at .nil pass0 (pa_cons (pv 0) (pa_cons pe_int pa_nil))) (pa_cons pe_int (pa_cons pe_int pa_nil)))))
    (pss_cons (ps_set (i := 4) sc_law.nd rfl (Or.inl rfl) (pe_call G_place hr_place rfl m_place k_place b_place .nil pass0 (pa_cons (pe_call G_cell_at hr_cell_at rfl m_cell_at k_cell_at b_cell_at .nil pass0 (pa_cons (pv 0) (pa_cons pe_int pa_nil))) (pa_cons (pe_op op_mulG (pe_op op_mulG (pv 1) (pv 2)) (pv 3)) pa_nil))))
    (pss_cons (ps_set (i := 5) sc_law.nd rfl (Or.inl rfl) (pe_call G_sign hr_sign rfl m_sign k_sign b_sign .nil pass0 (pa_cons (pv 1) (pa_cons (pv 2) (pa_cons (pv 4) pa_nil)))))
    (pss_cut (ps_if (PW.pt (pw_or (pt_cmpR op_eq (pv 5) pe_int (nomark _)) (pw_or1 (pt_cmpR op_ne (pe_call G_sign hr_sign rfl m_sign k_sign b_sign .nil pass0 (pa_cons (pv 2) (pa_cons (pv 1) (pa_cons (pv 4) pa_nil)))) (pv 5) (nomark _))))) (pss_one (ps_ret pe_bl)) pss_nil)
    (pss_cut (ps_if (PW.pt (pw_or (pt_cmpR op_ne (pe_call G_sign hr_sign rfl m_sign k_sign b_sign .nil pass0 (pa_cons (pv 1) (pa_cons (pe_op op_mulG (pv 2) (pv 3)) (pa_cons (pv 4) pa_nil)))) (pe_op op_mulG (pv 5) (pe_call G_sign hr_sign rfl m_sign k_sign b_sign .nil pass0 (pa_cons (pv 1) (pa_cons (pv 3) (pa_cons (pv 4) pa_nil))))) (nomark _)) (pw_or1 (pt_cmpR op_ne (pe_call G_sign hr_sign rfl m_sign k_sign b_sign .nil pass0 (pa_cons (pv 1) (pa_cons (pe_op op_mulG (pe_op op_mulG (pv 2) (pv 3)) (pv 3)) (pa_cons (pv 4) pa_nil)))) (pv 5) (nomark _))))) (pss_one (ps_ret pe_bl)) pss_nil)
    (pss_cut (ps_if (PW.pt (pw_or (pt_cmpR op_ne (pe_call G_sign hr_sign rfl m_sign k_sign b_sign .nil pass0 (pa_cons (pv 1) (pa_cons (pe_op op_sub pe_int (pv 1)) (pa_cons (pv 4) pa_nil)))) pe_int (nomark _)) (pw_or1 (PW.pt (pw_and (pt_cmpR op_ne (pv 1) pe_int (nomark _)) (pw_and1 (pt_cmpR op_ne (pe_call G_sign hr_sign rfl m_sign k_sign b_sign .nil pass0 (pa_cons (pv 1) (pa_cons (pe_op op_sub pe_int (pv 1)) (pa_cons (pv 4) pa_nil)))) pe_int (nomark _)))))))) (pss_one (ps_ret pe_bl)) pss_nil)
    (pss_cons (ps_if (pt_cmpR op_ne (pe_call G_sign hr_sign rfl m_sign k_sign b_sign .nil pass0 (pa_cons (pv 1) (pa_cons (pv 2) (pa_cons pe_int pa_nil)))) (pe_ix ix_list (pe_lst (pa_cons pe_int (pa_cons (pe_un un_neg pe_int) pa_nil))) (pe_callTy call_int1 rfl T.z_int b_int (pa_cons (pe_and (pe_cmpR op_lt (pv 1) pe_int (nomark _)) (pe_one (pe_cmpR op_lt (pv 2) pe_int (nomark _)))) pa_nil)) (fun _ _ => rfl)) (nomark _)) (pss_one (ps_ret pe_bl)) pss_nil)
    (pss_one (ps_ret (pe_call G_odd_places hr_odd_places rfl m_odd_places k_odd_places b_odd_places .nil pass0 (pa_cons (pv 1) (pa_cons (pv 2) (pa_cons (pe_call G_cell_at hr_cell_at rfl m_cell_at k_cell_at b_cell_at .nil pass0 (pa_cons (pv 0) (pa_cons pe_int pa_nil))) pa_nil)))))))))))))), ?_⟩
  refine ⟨_, rfl, l, ns, _, rfl, hS, by decide, _, 1, 1000, rfl, by decide, by decide, by decide, by decide, fun a H1 g1 a0 ab => ?_⟩
  have hS1 := g1.seq hS
  refine ⟨_, rfl, l, ns, _, rfl, hS1, by decide, _, 2, 1000, rfl, by decide, by decide, by decide, by decide, fun b H2 g2 b0 bb => ?_⟩
  have hS2 := g2.seq hS1
  refine ⟨_, rfl, l, ns, _, rfl, hS2, by decide, _, 3, 30, rfl, by decide, by decide, by decide, by decide, fun c H3 g3 c0 cb => ?_⟩
  have hS3 := g3.seq hS2
  have bc : (b * c).natAbs ≤ 1000000 := by rw [Int.natAbs_mul]; exact Nat.le_trans (Nat.mul_le_mul bb cb) (by decide)
  have bcc : (b * c * c).natAbs ≤ 1000000000 := by rw [Int.natAbs_mul]; exact Nat.le_trans (Nat.mul_le_mul bc cb) (by decide)
  refine ⟨_, rfl, l, ns, _, rfl, hS3, by decide, _, rfl, _, rfl, _, _, rfl, rfl, mulS (by omega) (by omega), _, rfl, _, _, rfl, rfl, mulS (by omega) (by omega), _, _, rfl, fun p H4 g4 gp => ?_⟩
  have hS4 := g4.seq hS3
  obtain ⟨v, hv⟩ := at_ex gp a0 b0
  obtain ⟨w, hw⟩ := at_ex gp a0 c0
  have vo := hv.or
  have wo := hw.or
  refine ⟨_, rfl, _, rfl, _, rfl, a, b, p, v, rfl, a0, b0, by omega, hv, fun H5 g5 => ?_⟩
  refine ⟨fun σ' H' => σ' = [some (.ref l), some (.int a), some (.int b), some (.int c), some (.int p), some (.int v)] ∧ Same H4 H', ?_, ?_⟩
  · exact ⟨_, rfl, rfl, _, rfl, iteDF (fun z => by have := int_inj z; omega) ⟨_, rfl, _, rfl, _, rfl, b, a, p, v, rfl, b0, a0, by omega, hv.sym, fun H6 g6 => ⟨_, rfl, rfl, _, rfl, iteNS rfl ⟨rfl, g5.trans g6⟩⟩⟩⟩
  rintro _ H6 ⟨rfl, g6⟩
  refine ⟨fun σ' H' => σ' = [some (.ref l), some (.int a), some (.int b), some (.int c), some (.int p), some (.int v)] ∧ Same H4 H', ?_, ?_⟩
  · refine ⟨_, rfl, _, rfl, _, rfl, _, _, rfl, rfl, mulS (by omega) (by omega), _, rfl, a, b * c, p, v * w, rfl, a0, Int.mul_ne_zero b0 c0, by omega, hv.mul b0 c0 hw, fun H7 g7 => ?_⟩
    refine ⟨_, rfl, _, rfl, _, rfl, _, rfl, a, c, p, w, rfl, a0, c0, by omega, hw, fun H8 g8 => ⟨_, _, rfl, rfl, mulS (by omega) (by omega), rfl, _, rfl, iteNS rfl ?_⟩⟩
    refine ⟨_, rfl, _, rfl, _, rfl, _, _, rfl, rfl, mulS (by omega) (by omega), _, rfl, _, _, rfl, rfl, mulS (by omega) (by omega), _, rfl, a, b * c * c, p, v, rfl, a0, Int.mul_ne_zero (Int.mul_ne_zero b0 c0) c0, by omega, hv.sq b0 c0 hw, fun H9 g9 => ⟨_, rfl, rfl, _, rfl, iteNS rfl ⟨rfl, g6.trans (g7.trans (g8.trans g9))⟩⟩⟩
  rintro _ H9 ⟨rfl, g9⟩
  refine ⟨fun σ' H' => σ' = [some (.ref l), some (.int a), some (.int b), some (.int c), some (.int p), some (.int v)] ∧ Same H4 H', ?_, ?_⟩
  · refine ⟨_, rfl, _, rfl, _, _, rfl, rfl, _, rfl, a, 0 - a, p, 1, rfl, a0, by omega, by omega, at_neg gp a0, fun H10 g10 => ⟨rfl, _, rfl, iteNS rfl ?_⟩⟩
    refine ⟨_, rfl, rfl, _, rfl, ?_⟩
    refine ite2 (fun c1 => ?_) (fun c1 => iteF ⟨rfl, g9.trans g10⟩)
    have a1 : a ≠ 1 := fun z => neT c1 (congrArg V.int z)
    refine ⟨_, rfl, _, rfl, _, _, rfl, rfl, _, rfl, a, 1 - a, p, 1, rfl, a0, by omega, by omega, at_less gp a0 a1, fun H11 g11 => ⟨rfl, _, rfl, iteNS rfl ⟨rfl, g9.trans (g10.trans g11)⟩⟩⟩
  rintro _ H11 ⟨rfl, g11⟩
  refine ⟨_, rfl, _, rfl, a, b, 0, _, rfl, a0, b0, by omega, .inl ⟨rfl, rfl⟩, fun H12 g12 => ?_⟩
  refine ⟨_, rfl, (by show 2 ≤ sizeLine; decide), fun l2 hl2 => ?_⟩
  have g13 := same_new hl2 (.lst [.int 1, .int (-1)])
  have hS13 := ((g11.trans g12).trans g13).seq hS4
  have fin : ∀ k : Bool, k = decide (a < 0 ∧ b < 0) → atI [V.int 1, V.int (-1)] (if k = true then 1 else 0) = some (.int (if a < 0 ∧ b < 0 then -1 else 1)) := fun k hk => by
    subst hk
    by_cases c : a < 0 ∧ b < 0
    · rw [if_pos (decide_eq_true c), if_pos c]; rfl
    · rw [if_neg (by rw [decide_eq_false c]; decide), if_neg c]; rfl
  refine ⟨_, rfl, _, _, rfl, rfl, _, rfl, ?_⟩
  refine ite2 (fun c2 => ?_) (fun c2 => ?_)
  · have c2' : a < 0 := decT c2
    refine ⟨_, rfl, _, _, rfl, rfl, .inr ⟨_, rfl, ?_⟩⟩
    refine ⟨l2, _, _, _, rfl, rfl, SqL.of upd_same, fin (decide (b < 0)) (by by_cases z : b < 0 <;> simp [z, c2']), rfl, _, rfl, iteNS rfl ?_⟩
    exact ⟨_, rfl, _, rfl, _, rfl, l, ns, _, rfl, hS13, by decide, a, b, _, rfl, a0, b0, fun H14 g14 => q _⟩
  · have c2' : ¬ a < 0 := decF c2
    refine .inr ⟨false, rfl, ?_⟩
    refine ⟨l2, _, _, _, rfl, rfl, SqL.of upd_same, fin false (by simp [c2']), rfl, _, rfl, iteNS rfl ?_⟩
    exact ⟨_, rfl, _, rfl, _, rfl, l, ns, _, rfl, hS13, by decide, a, b, _, rfl, a0, b0, fun H14 g14 => q _⟩

end
theorem all_mk {l : PySem.W.OpenLaw} {w : World} {K : PySem.W.Frag} {h : Heap} {mg : Str → Option Value} {fa qce qc0 qc1 qc2 qc3 qc4 qc5 qc6 qc7 qc8 qc9 qc10 qc11 qc12 qc13 qc14 : Addr} (X : K.In h) (G : h.Ns mainGlobals mg) (hfa : mg "law" = some (.ref fa))
    {f1 f2 f3 f4 f5 f6 f7 f8 f9 f10 f11 f12 f13 f14 f15 f16 f17 f18 f19 f20 f21 f22 : Addr} {od1 an1 od2 an2 od3 an3 od4 an4 od5 an5 od6 an6 od7 an7 od8 an8 od9 an9 od10 an10 od11 an11 od12 an12 od13 an13 od14 an14 od15 an15 od16 an16 od17 an17 od18 an18 od19 an19 od20 an20 od21 an21 od22 an22 : Option Addr} {sl1 sl2 sl3 sl4 sl5 sl6 sl7 sl8 sl9 sl10 sl11 sl12 sl13 sl14 sl15 sl16 sl17 sl18 sl19 sl20 sl21 sl22 : Array (Option Value)} {oc1 kV1 dc1 pm1 cd1 ct1 oc2 kV2 dc2 pm2 cd2 ct2 oc3 kV3 dc3 pm3 cd3 ct3 oc4 kV4 dc4 pm4 cd4 ct4 oc5 kV5 dc5 pm5 cd5 ct5 oc6 kV6 dc6 pm6 cd6 ct6 oc7 kV7 dc7 pm7 cd7 ct7 oc8 kV8 dc8 pm8 cd8 ct8 oc9 kV9 dc9 pm9 cd9 ct9 oc10 kV10 dc10 pm10 cd10 ct10 oc11 kV11 dc11 pm11 cd11 ct11 oc12 kV12 dc12 pm12 cd12 ct12 oc13 kV13 dc13 pm13 cd13 ct13 oc14 kV14 dc14 pm14 cd14 ct14 oc15 kV15 dc15 pm15 cd15 ct15 oc16 kV16 dc16 pm16 cd16 ct16 oc17 kV17 dc17 pm17 cd17 ct17 oc18 kV18 dc18 pm18 cd18 ct18 oc19 kV19 dc19 pm19 cd19 ct19 oc20 kV20 dc20 pm20 cd20 ct20 oc21 kV21 dc21 pm21 cd21 ct21 oc22 kV22 dc22 pm22 cd22 ct22 : Value}
    (a1 : PySem.W.nsIn K mainGlobals "taken_out" = some (some (.ref f1))) (l1 : K.lookup f1 = some ⟨oc1, od1, .func (PySem.W.fnOf "taken_out" "taken_out" (defArgs s_taken_out) (defBody s_taken_out) (defScope s_taken_out) .none kV1 dc1 pm1 an1 cd1 ct1), sl1⟩) (g1 : PySem.W.codeIn K cd1 "taken_out" = true) (k1 : PySem.W.keepIn K (.ref f1) = true)
    (a2 : PySem.W.nsIn K mainGlobals "divisor_after" = some (some (.ref f2))) (l2 : K.lookup f2 = some ⟨oc2, od2, .func (PySem.W.fnOf "divisor_after" "divisor_after" (defArgs s_divisor_after) (defBody s_divisor_after) (defScope s_divisor_after) .none kV2 dc2 pm2 an2 cd2 ct2), sl2⟩) (g2 : PySem.W.codeIn K cd2 "divisor_after" = true) (k2 : PySem.W.keepIn K (.ref f2) = true)
    (a3 : PySem.W.nsIn K mainGlobals "prime_parts" = some (some (.ref f3))) (l3 : K.lookup f3 = some ⟨oc3, od3, .func (PySem.W.fnOf "prime_parts" "prime_parts" (defArgs s_prime_parts) (defBody s_prime_parts) (defScope s_prime_parts) .none kV3 dc3 pm3 an3 cd3 ct3), sl3⟩) (g3 : PySem.W.codeIn K cd3 "prime_parts" = true) (k3 : PySem.W.keepIn K (.ref f3) = true)
    (a4 : PySem.W.nsIn K mainGlobals "is_prime" = some (some (.ref f4))) (l4 : K.lookup f4 = some ⟨oc4, od4, .func (PySem.W.fnOf "is_prime" "is_prime" (defArgs s_is_prime) (defBody s_is_prime) (defScope s_is_prime) .none kV4 dc4 pm4 an4 cd4 ct4), sl4⟩) (g4 : PySem.W.codeIn K cd4 "is_prime" = true) (k4 : PySem.W.keepIn K (.ref f4) = true)
    (a5 : PySem.W.nsIn K mainGlobals "sign_of_two" = some (some (.ref f5))) (l5 : K.lookup f5 = some ⟨oc5, od5, .func (PySem.W.fnOf "sign_of_two" "sign_of_two" (defArgs s_sign_of_two) (defBody s_sign_of_two) (defScope s_sign_of_two) .none kV5 dc5 pm5 an5 cd5 ct5), sl5⟩) (g5 : PySem.W.codeIn K cd5 "sign_of_two" = true) (k5 : PySem.W.keepIn K (.ref f5) = true)
    (a6 : PySem.W.nsIn K mainGlobals "sign_of_turn" = some (some (.ref f6))) (l6 : K.lookup f6 = some ⟨oc6, od6, .func (PySem.W.fnOf "sign_of_turn" "sign_of_turn" (defArgs s_sign_of_turn) (defBody s_sign_of_turn) (defScope s_sign_of_turn) .none kV6 dc6 pm6 an6 cd6 ct6), sl6⟩) (g6 : PySem.W.codeIn K cd6 "sign_of_turn" = true) (k6 : PySem.W.keepIn K (.ref f6) = true)
    (a7 : PySem.W.nsIn K mainGlobals "sign_by" = some (some (.ref f7))) (l7 : K.lookup f7 = some ⟨oc7, od7, .func (PySem.W.fnOf "sign_by" "sign_by" (defArgs s_sign_by) (defBody s_sign_by) (defScope s_sign_by) .none kV7 dc7 pm7 an7 cd7 ct7), sl7⟩) (g7 : PySem.W.codeIn K cd7 "sign_by" = true) (k7 : PySem.W.keepIn K (.ref f7) = true)
    (a8 : PySem.W.nsIn K mainGlobals "sign_at_two" = some (some (.ref f8))) (l8 : K.lookup f8 = some ⟨oc8, od8, .func (PySem.W.fnOf "sign_at_two" "sign_at_two" (defArgs s_sign_at_two) (defBody s_sign_at_two) (defScope s_sign_at_two) .none kV8 dc8 pm8 an8 cd8 ct8), sl8⟩) (g8 : PySem.W.codeIn K cd8 "sign_at_two" = true) (k8 : PySem.W.keepIn K (.ref f8) = true)
    (a9 : PySem.W.nsIn K mainGlobals "sign_at_odd" = some (some (.ref f9))) (l9 : K.lookup f9 = some ⟨oc9, od9, .func (PySem.W.fnOf "sign_at_odd" "sign_at_odd" (defArgs s_sign_at_odd) (defBody s_sign_at_odd) (defScope s_sign_at_odd) .none kV9 dc9 pm9 an9 cd9 ct9), sl9⟩) (g9 : PySem.W.codeIn K cd9 "sign_at_odd" = true) (k9 : PySem.W.keepIn K (.ref f9) = true)
    (a10 : PySem.W.nsIn K mainGlobals "sign_at" = some (some (.ref f10))) (l10 : K.lookup f10 = some ⟨oc10, od10, .func (PySem.W.fnOf "sign_at" "sign_at" (defArgs s_sign_at) (defBody s_sign_at) (defScope s_sign_at) .none kV10 dc10 pm10 an10 cd10 ct10), sl10⟩) (g10 : PySem.W.codeIn K cd10 "sign_at" = true) (k10 : PySem.W.keepIn K (.ref f10) = true)
    (a11 : PySem.W.nsIn K mainGlobals "pair_sign" = some (some (.ref f11))) (l11 : K.lookup f11 = some ⟨oc11, od11, .func (PySem.W.fnOf "pair_sign" "pair_sign" (defArgs s_pair_sign) (defBody s_pair_sign) (defScope s_pair_sign) .none kV11 dc11 pm11 an11 cd11 ct11), sl11⟩) (g11 : PySem.W.codeIn K cd11 "pair_sign" = true) (k11 : PySem.W.keepIn K (.ref f11) = true)
    (a12 : PySem.W.nsIn K mainGlobals "_law_cell_at" = some (some (.ref f12))) (l12 : K.lookup f12 = some ⟨oc12, od12, .func (PySem.W.fnOf "_law_cell_at" "_law_cell_at" (defArgs s_cell_at) (defBody s_cell_at) (defScope s_cell_at) .none kV12 dc12 pm12 an12 cd12 ct12), sl12⟩) (g12 : PySem.W.codeIn K cd12 "_law_cell_at" = true) (k12 : PySem.W.keepIn K (.ref f12) = true)
    (a13 : PySem.W.nsIn K mainGlobals "_law_churn" = some (some (.ref f13))) (l13 : K.lookup f13 = some ⟨oc13, od13, .func (PySem.W.fnOf "_law_churn" "_law_churn" (defArgs s_churn) (defBody s_churn) (defScope s_churn) .none kV13 dc13 pm13 an13 cd13 ct13), sl13⟩) (g13 : PySem.W.codeIn K cd13 "_law_churn" = true) (k13 : PySem.W.keepIn K (.ref f13) = true)
    (a14 : PySem.W.nsIn K mainGlobals "_law_whole" = some (some (.ref f14))) (l14 : K.lookup f14 = some ⟨oc14, od14, .func (PySem.W.fnOf "_law_whole" "_law_whole" (defArgs s_whole) (defBody s_whole) (defScope s_whole) .none kV14 dc14 pm14 an14 cd14 ct14), sl14⟩) (g14 : PySem.W.codeIn K cd14 "_law_whole" = true) (k14 : PySem.W.keepIn K (.ref f14) = true)
    (a15 : PySem.W.nsIn K mainGlobals "_law_primes" = some (some (.ref f15))) (l15 : K.lookup f15 = some ⟨oc15, od15, .func (PySem.W.fnOf "_law_primes" "_law_primes" (defArgs s_primes) (defBody s_primes) (defScope s_primes) .none kV15 dc15 pm15 an15 cd15 ct15), sl15⟩) (g15 : PySem.W.codeIn K cd15 "_law_primes" = true) (k15 : PySem.W.keepIn K (.ref f15) = true)
    (a16 : PySem.W.nsIn K mainGlobals "_law_number" = some (some (.ref f16))) (l16 : K.lookup f16 = some ⟨oc16, od16, .func (PySem.W.fnOf "_law_number" "_law_number" (defArgs s_number) (defBody s_number) (defScope s_number) .none kV16 dc16 pm16 an16 cd16 ct16), sl16⟩) (g16 : PySem.W.codeIn K cd16 "_law_number" = true) (k16 : PySem.W.keepIn K (.ref f16) = true)
    (a17 : PySem.W.nsIn K mainGlobals "_law_place" = some (some (.ref f17))) (l17 : K.lookup f17 = some ⟨oc17, od17, .func (PySem.W.fnOf "_law_place" "_law_place" (defArgs s_place) (defBody s_place) (defScope s_place) .none kV17 dc17 pm17 an17 cd17 ct17), sl17⟩) (g17 : PySem.W.codeIn K cd17 "_law_place" = true) (k17 : PySem.W.keepIn K (.ref f17) = true)
    (a18 : PySem.W.nsIn K mainGlobals "_law_sign" = some (some (.ref f18))) (l18 : K.lookup f18 = some ⟨oc18, od18, .func (PySem.W.fnOf "_law_sign" "_law_sign" (defArgs s_sign) (defBody s_sign) (defScope s_sign) .none kV18 dc18 pm18 an18 cd18 ct18), sl18⟩) (g18 : PySem.W.codeIn K cd18 "_law_sign" = true) (k18 : PySem.W.keepIn K (.ref f18) = true)
    (a19 : PySem.W.nsIn K mainGlobals "_law_alone" = some (some (.ref f19))) (l19 : K.lookup f19 = some ⟨oc19, od19, .func (PySem.W.fnOf "_law_alone" "_law_alone" (defArgs s_alone) (defBody s_alone) (defScope s_alone) .none kV19 dc19 pm19 an19 cd19 ct19), sl19⟩) (g19 : PySem.W.codeIn K cd19 "_law_alone" = true) (k19 : PySem.W.keepIn K (.ref f19) = true)
    (a20 : PySem.W.nsIn K mainGlobals "_law_refused" = some (some (.ref f20))) (l20 : K.lookup f20 = some ⟨oc20, od20, .func (PySem.W.fnOf "_law_refused" "_law_refused" (defArgs s_refused) (defBody s_refused) (defScope s_refused) .none kV20 dc20 pm20 an20 cd20 ct20), sl20⟩) (g20 : PySem.W.codeIn K cd20 "_law_refused" = true) (k20 : PySem.W.keepIn K (.ref f20) = true)
    (a21 : PySem.W.nsIn K mainGlobals "_law_odd_places" = some (some (.ref f21))) (l21 : K.lookup f21 = some ⟨oc21, od21, .func (PySem.W.fnOf "_law_odd_places" "_law_odd_places" (defArgs s_odd_places) (defBody s_odd_places) (defScope s_odd_places) .none kV21 dc21 pm21 an21 cd21 ct21), sl21⟩) (g21 : PySem.W.codeIn K cd21 "_law_odd_places" = true) (k21 : PySem.W.keepIn K (.ref f21) = true)
    (a22 : PySem.W.nsIn K mainGlobals "law" = some (some (.ref f22))) (l22 : K.lookup f22 = some ⟨oc22, od22, .func (PySem.W.fnOf "law" "law" (defArgs s_law) (defBody s_law) (defScope s_law) .none kV22 dc22 pm22 an22 cd22 ct22), sl22⟩) (g22 : PySem.W.codeIn K cd22 "law" = true) (k22 : PySem.W.keepIn K (.ref f22) = true)
    (xm_CurveError : PySem.W.nsIn K mainGlobals "CurveError" = some (some (.ref qce)))
    (xm_BadPlace : PySem.W.nsIn K mainGlobals "BadPlace" = some (some (.ref qc0)))
    (xm_Flat : PySem.W.nsIn K mainGlobals "Flat" = some (some (.ref qc1)))
    (xm_NoBack : PySem.W.nsIn K mainGlobals "NoBack" = some (some (.ref qc2)))
    (xm_NoJoin : PySem.W.nsIn K mainGlobals "NoJoin" = some (some (.ref qc3)))
    (xm_NoLine : PySem.W.nsIn K mainGlobals "NoLine" = some (some (.ref qc4)))
    (xm_NoName : PySem.W.nsIn K mainGlobals "NoName" = some (some (.ref qc5)))
    (xm_NoNumber : PySem.W.nsIn K mainGlobals "NoNumber" = some (some (.ref qc6)))
    (xm_NoPair : PySem.W.nsIn K mainGlobals "NoPair" = some (some (.ref qc7)))
    (xm_NoPlace : PySem.W.nsIn K mainGlobals "NoPlace" = some (some (.ref qc8)))
    (xm_NoRow : PySem.W.nsIn K mainGlobals "NoRow" = some (some (.ref qc9)))
    (xm_NoSign : PySem.W.nsIn K mainGlobals "NoSign" = some (some (.ref qc10)))
    (xm_NoText : PySem.W.nsIn K mainGlobals "NoText" = some (some (.ref qc11)))
    (xm_NoVertex : PySem.W.nsIn K mainGlobals "NoVertex" = some (some (.ref qc12)))
    (xm_NotPlain : PySem.W.nsIn K mainGlobals "NotPlain" = some (some (.ref qc13)))
    (xm_OffCurve : PySem.W.nsIn K mainGlobals "OffCurve" = some (some (.ref qc14)))
    (xi_ce : PySem.W.kitOne K (.ref qc6) (.ref qce) = some true)
    (xi_0 : PySem.W.kitOne K (.ref qc6) (.ref qc0) = some false)
    (xi_1 : PySem.W.kitOne K (.ref qc6) (.ref qc1) = some false)
    (xi_2 : PySem.W.kitOne K (.ref qc6) (.ref qc2) = some false)
    (xi_3 : PySem.W.kitOne K (.ref qc6) (.ref qc3) = some false)
    (xi_4 : PySem.W.kitOne K (.ref qc6) (.ref qc4) = some false)
    (xi_5 : PySem.W.kitOne K (.ref qc6) (.ref qc5) = some false)
    (xi_6 : PySem.W.kitOne K (.ref qc6) (.ref qc6) = some true)
    (xi_7 : PySem.W.kitOne K (.ref qc6) (.ref qc7) = some false)
    (xi_8 : PySem.W.kitOne K (.ref qc6) (.ref qc8) = some false)
    (xi_9 : PySem.W.kitOne K (.ref qc6) (.ref qc9) = some false)
    (xi_10 : PySem.W.kitOne K (.ref qc6) (.ref qc10) = some false)
    (xi_11 : PySem.W.kitOne K (.ref qc6) (.ref qc11) = some false)
    (xi_12 : PySem.W.kitOne K (.ref qc6) (.ref qc12) = some false)
    (xi_13 : PySem.W.kitOne K (.ref qc6) (.ref qc13) = some false)
    (xi_14 : PySem.W.kitOne K (.ref qc6) (.ref qc14) = some false)
    (xi_ve : PySem.W.kitOne K (.ref qc6) (.type "ValueError") = some true)
    (xe0 : (PySem.W.clsIn K qc6).isSome = true)
    (xe1 : PySem.W.findIn K (.ref qc6) "__getattribute__" = some (some (.builtin "BaseException.__getattribute__")))
    (xe2 : PySem.W.findIn K (.ref qc6) "__getattr__" = some none)
    (xe3 : PySem.W.findIn K (.ref qc6) "__class__" = some (some (.builtin "object.__class__")))
    (xe4 : PySem.W.specialIn K (.builtin "object.__class__") "__get__" = some (some (.builtin "getset_descriptor.__get__")))
    (xe5 : PySem.W.takesIn K (.builtin "object.__class__") = some true)
    (xe6 : PySem.W.mroIn K qc6 (.type "object") = some true)
    (xe7 : PySem.W.mroIn K qc6 (.type "BaseException") = some true)
    (xx_NoNumber : PySem.W.excIn K qc6 bmVE "ValueError.__new__" = true)
    (xi_ce_2 : PySem.W.kitOne K (.ref qc8) (.ref qce) = some true)
    (xi_0_2 : PySem.W.kitOne K (.ref qc8) (.ref qc0) = some false)
    (xi_1_2 : PySem.W.kitOne K (.ref qc8) (.ref qc1) = some false)
    (xi_2_2 : PySem.W.kitOne K (.ref qc8) (.ref qc2) = some false)
    (xi_3_2 : PySem.W.kitOne K (.ref qc8) (.ref qc3) = some false)
    (xi_4_2 : PySem.W.kitOne K (.ref qc8) (.ref qc4) = some false)
    (xi_5_2 : PySem.W.kitOne K (.ref qc8) (.ref qc5) = some false)
    (xi_6_2 : PySem.W.kitOne K (.ref qc8) (.ref qc6) = some false)
    (xi_7_2 : PySem.W.kitOne K (.ref qc8) (.ref qc7) = some false)
    (xi_8_2 : PySem.W.kitOne K (.ref qc8) (.ref qc8) = some true)
    (xi_9_2 : PySem.W.kitOne K (.ref qc8) (.ref qc9) = some false)
    (xi_10_2 : PySem.W.kitOne K (.ref qc8) (.ref qc10) = some false)
    (xi_11_2 : PySem.W.kitOne K (.ref qc8) (.ref qc11) = some false)
    (xi_12_2 : PySem.W.kitOne K (.ref qc8) (.ref qc12) = some false)
    (xi_13_2 : PySem.W.kitOne K (.ref qc8) (.ref qc13) = some false)
    (xi_14_2 : PySem.W.kitOne K (.ref qc8) (.ref qc14) = some false)
    (xi_ve_2 : PySem.W.kitOne K (.ref qc8) (.type "ValueError") = some true)
    (xe0_2 : (PySem.W.clsIn K qc8).isSome = true)
    (xe1_2 : PySem.W.findIn K (.ref qc8) "__getattribute__" = some (some (.builtin "BaseException.__getattribute__")))
    (xe2_2 : PySem.W.findIn K (.ref qc8) "__getattr__" = some none)
    (xe3_2 : PySem.W.findIn K (.ref qc8) "__class__" = some (some (.builtin "object.__class__")))
    (xe4_2 : PySem.W.specialIn K (.builtin "object.__class__") "__get__" = some (some (.builtin "getset_descriptor.__get__")))
    (xe5_2 : PySem.W.takesIn K (.builtin "object.__class__") = some true)
    (xe6_2 : PySem.W.mroIn K qc8 (.type "object") = some true)
    (xe7_2 : PySem.W.mroIn K qc8 (.type "BaseException") = some true)
    (xx_NoPlace : PySem.W.excIn K qc8 bmVE "ValueError.__new__" = true)
    (xx_CurveError : PySem.W.excIn K qce bmVE "ValueError.__new__" = true)
    (xu_NoNumber : PySem.W.mroIn K qc6 (.ref qce) = some true)
    (xu_NoPlace : PySem.W.mroIn K qc8 (.ref qce) = some true)
    (xi_ib : PySem.W.kitOne K (.type "int") (.type "bool") = some false)
    (xz_isinstance : PySem.W.nsIn K mainGlobals "isinstance" = some none)
    (xz_int : PySem.W.nsIn K mainGlobals "int" = some none)
    (xz_bool : PySem.W.nsIn K mainGlobals "bool" = some none)
    (xz_len : PySem.W.nsIn K mainGlobals "len" = some none)
    (xz_range : PySem.W.nsIn K mainGlobals "range" = some none)
    (xz_ValueError : PySem.W.nsIn K mainGlobals "ValueError" = some none)
    : ∃ fd : FuncData, (∀ (s : Shared) (v : Value), BindsTo s fd ⟨[v], []⟩ [("_law_script", v)]) ∧ ∀ base : Heap, K.In base → base.Ns mainGlobals mg → FnOk l.prog w K mg base CX0 8 fa fd ["_law_script"] (spLaw K) := by
  have e := hfa.symm.trans (PySem.W.mg_of X G a22)
  cases e
  have T : Txt K mg ⟨qce, qc0, qc1, qc2, qc3, qc4, qc5, qc6, qc7, qc8, qc9, qc10, qc11, qc12, qc13, qc14⟩ := ⟨PySem.W.mg_of X G xm_CurveError, PySem.W.mg_of X G xm_BadPlace, PySem.W.mg_of X G xm_Flat, PySem.W.mg_of X G xm_NoBack, PySem.W.mg_of X G xm_NoJoin, PySem.W.mg_of X G xm_NoLine, PySem.W.mg_of X G xm_NoName, PySem.W.mg_of X G xm_NoNumber, PySem.W.mg_of X G xm_NoPair, PySem.W.mg_of X G xm_NoPlace, PySem.W.mg_of X G xm_NoRow, PySem.W.mg_of X G xm_NoSign, PySem.W.mg_of X G xm_NoText, PySem.W.mg_of X G xm_NoVertex, PySem.W.mg_of X G xm_NotPlain, PySem.W.mg_of X G xm_OffCurve, xi_ce, xi_0, xi_1, xi_2, xi_3, xi_4, xi_5, xi_6, xi_7, xi_8, xi_9, xi_10, xi_11, xi_12, xi_13, xi_14, xi_ve, xe0, xe1, xe2, xe3, xe4, xe5, xe6, xe7, xx_NoNumber, xi_ce_2, xi_0_2, xi_1_2, xi_2_2, xi_3_2, xi_4_2, xi_5_2, xi_6_2, xi_7_2, xi_8_2, xi_9_2, xi_10_2, xi_11_2, xi_12_2, xi_13_2, xi_14_2, xi_ve_2, xe0_2, xe1_2, xe2_2, xe3_2, xe4_2, xe5_2, xe6_2, xe7_2, xx_NoPlace, xx_CurveError, xu_NoNumber, xu_NoPlace, xi_ib, PySem.W.mg_none_of X G xz_isinstance, PySem.W.mg_none_of X G xz_int, PySem.W.mg_none_of X G xz_bool, PySem.W.mg_none_of X G xz_len, PySem.W.mg_none_of X G xz_range, PySem.W.mg_none_of X G xz_ValueError⟩
  have F1 := fun_mk (st := s_taken_out) l1 g1 k1
  have b1 := F1.binds (ps := ["number", "prime"]) fun _ _ _ _ _ _ => byL2 fun _ _ => rfl
  have F2 := fun_mk (st := s_divisor_after) l2 g2 k2
  have b2 := F2.binds (ps := ["divisor"]) fun _ _ _ _ _ _ => byL1 fun _ => rfl
  have F3 := fun_mk (st := s_prime_parts) l3 g3 k3
  have b3 := F3.binds (ps := ["number"]) fun _ _ _ _ _ _ => byL1 fun _ => rfl
  have F4 := fun_mk (st := s_is_prime) l4 g4 k4
  have b4 := F4.binds (ps := ["number"]) fun _ _ _ _ _ _ => byL1 fun _ => rfl
  have F5 := fun_mk (st := s_sign_of_two) l5 g5 k5
  have b5 := F5.binds (ps := ["odd"]) fun _ _ _ _ _ _ => byL1 fun _ => rfl
  have F6 := fun_mk (st := s_sign_of_turn) l6 g6 k6
  have b6 := F6.binds (ps := ["one", "other"]) fun _ _ _ _ _ _ => byL2 fun _ _ => rfl
  have F7 := fun_mk (st := s_sign_by) l7 g7 k7
  have b7 := F7.binds (ps := ["number", "n"]) fun _ _ _ _ _ _ => byL2 fun _ _ => rfl
  have F8 := fun_mk (st := s_sign_at_two) l8 g8 k8
  have b8 := F8.binds (ps := ["one", "other"]) fun _ _ _ _ _ _ => byL2 fun _ _ => rfl
  have F9 := fun_mk (st := s_sign_at_odd) l9 g9 k9
  have b9 := F9.binds (ps := ["one", "other", "prime"]) fun _ _ _ _ _ _ => byL3 fun _ _ _ => rfl
  have F10 := fun_mk (st := s_sign_at) l10 g10 k10
  have b10 := F10.binds (ps := ["a", "b", "place"]) fun _ _ _ _ _ _ => byL3 fun _ _ _ => rfl
  have F11 := fun_mk (st := s_pair_sign) l11 g11 k11
  have b11 := F11.binds (ps := ["a", "b", "place"]) fun _ _ _ _ _ _ => byL3 fun _ _ _ => rfl
  have F12 := fun_mk (st := s_cell_at) l12 g12 k12
  have b12 := F12.binds (ps := ["_law_script", "_law_k"]) fun _ _ _ _ _ _ => byL2 fun _ _ => rfl
  have F13 := fun_mk (st := s_churn) l13 g13 k13
  have b13 := F13.binds (ps := ["_law_cell", "_law_turn"]) fun _ _ _ _ _ _ => byL2 fun _ _ => rfl
  have F14 := fun_mk (st := s_whole) l14 g14 k14
  have b14 := F14.binds (ps := ["_law_found"]) fun _ _ _ _ _ _ => byL1 fun _ => rfl
  have F15 := fun_mk (st := s_primes) l15 g15 k15
  have b15 := F15.binds (ps := []) fun _ _ _ _ _ _ => byL0 rfl
  have F16 := fun_mk (st := s_number) l16 g16 k16
  have b16 := F16.binds (ps := ["_law_cell", "_law_turn", "_law_most"]) fun _ _ _ _ _ _ => byL3 fun _ _ _ => rfl
  have F17 := fun_mk (st := s_place) l17 g17 k17
  have b17 := F17.binds (ps := ["_law_cell", "_law_number_here"]) fun _ _ _ _ _ _ => byL2 fun _ _ => rfl
  have F18 := fun_mk (st := s_sign) l18 g18 k18
  have b18 := F18.binds (ps := ["_law_a", "_law_b", "_law_place_here"]) fun _ _ _ _ _ _ => byL3 fun _ _ _ => rfl
  have F19 := fun_mk (st := s_alone) l19 g19 k19
  have b19 := F19.binds (ps := ["_law_e", "_law_sort"]) fun _ _ _ _ _ _ => byL2 fun _ _ => rfl
  have F20 := fun_mk (st := s_refused) l20 g20 k20
  have b20 := F20.binds (ps := ["_law_a", "_law_b", "_law_place_here"]) fun _ _ _ _ _ _ => byL3 fun _ _ _ => rfl
  have F21 := fun_mk (st := s_odd_places) l21 g21 k21
  have b21 := F21.binds (ps := ["_law_a", "_law_b", "_law_cell"]) fun _ _ _ _ _ _ => byL3 fun _ _ _ => rfl
  have F22 := fun_mk (st := s_law) l22 g22 k22
  refine ⟨PySem.W.fnOf "law" "law" (defArgs s_law) (defBody s_law) (defScope s_law) .none kV22 dc22 pm22 an22 cd22 ct22, fun s v => .of_eq rfl, fun base _ _ => ?_⟩
  have H_taken_out : Has l.prog w K mg base CX0 1 "taken_out" ["number", "prime"] (spTaken) := ⟨f1, _, ok_taken_out F1 T , b1, k1, PySem.W.mg_of X G a1⟩
  have H_divisor_after : Has l.prog w K mg base CX0 1 "divisor_after" ["divisor"] (spAfter) := ⟨f2, _, ok_divisor_after F2 T , b2, k2, PySem.W.mg_of X G a2⟩
  have H_prime_parts : Has l.prog w K mg base CX0 2 "prime_parts" ["number"] (spParts0) := ⟨f3, _, ok_prime_parts F3 T H_divisor_after H_taken_out, b3, k3, PySem.W.mg_of X G a3⟩
  have H_is_prime : Has l.prog w K mg base CX0 3 "is_prime" ["number"] (spIsPrime) := ⟨f4, _, ok_is_prime F4 T H_prime_parts, b4, k4, PySem.W.mg_of X G a4⟩
  have H_sign_of_two : Has l.prog w K mg base CX0 1 "sign_of_two" ["odd"] (spTwoI) := ⟨f5, _, ok_sign_of_two F5 T , b5, k5, PySem.W.mg_of X G a5⟩
  have H_sign_of_turn : Has l.prog w K mg base CX0 1 "sign_of_turn" ["one", "other"] (spTurnI) := ⟨f6, _, ok_sign_of_turn F6 T , b6, k6, PySem.W.mg_of X G a6⟩
  have H_sign_by : Has l.prog w K mg base CX0 2 "sign_by" ["number", "n"] (spSign) := ⟨f7, _, ok_sign_by F7 T H_taken_out H_sign_of_two H_sign_of_turn, b7, k7, PySem.W.mg_of X G a7⟩
  have H_sign_at_two : Has l.prog w K mg base CX0 2 "sign_at_two" ["one", "other"] (spAtTwo) := ⟨f8, _, ok_sign_at_two F8 T H_sign_of_two H_sign_of_turn, b8, k8, PySem.W.mg_of X G a8⟩
  have H_sign_at_odd : Has l.prog w K mg base CX0 3 "sign_at_odd" ["one", "other", "prime"] (spAtOdd) := ⟨f9, _, ok_sign_at_odd F9 T H_sign_by, b9, k9, PySem.W.mg_of X G a9⟩
  have H_sign_at : Has l.prog w K mg base CX0 4 "sign_at" ["a", "b", "place"] (spAt) := ⟨f10, _, ok_sign_at F10 T H_taken_out H_sign_at_two H_sign_at_odd, b10, k10, PySem.W.mg_of X G a10⟩
  have H_pair_sign : Has l.prog w K mg base (XF l.prog w) 5 "pair_sign" ["a", "b", "place"] (spPairX qc6 qc8) := ⟨f11, _, ok_pair_sign F11 T H_is_prime H_sign_at, b11, k11, PySem.W.mg_of X G a11⟩
  have H_cell_at : Has l.prog w K mg base CX0 1 "_law_cell_at" ["_law_script", "_law_k"] (spCell K) := ⟨f12, _, ok_cell_at F12 T , b12, k12, PySem.W.mg_of X G a12⟩
  have H_churn : Has l.prog w K mg base CX0 1 "_law_churn" ["_law_cell", "_law_turn"] (spChurn) := ⟨f13, _, ok_churn F13 T , b13, k13, PySem.W.mg_of X G a13⟩
  have H_whole : Has l.prog w K mg base CX0 1 "_law_whole" ["_law_found"] (spWhole) := ⟨f14, _, ok_whole F14 T , b14, k14, PySem.W.mg_of X G a14⟩
  have H_primes : Has l.prog w K mg base CX0 1 "_law_primes" [] (spPrimes) := ⟨f15, _, ok_primes F15 T , b15, k15, PySem.W.mg_of X G a15⟩
  have H_number : Has l.prog w K mg base CX0 2 "_law_number" ["_law_cell", "_law_turn", "_law_most"] (spNumber) := ⟨f16, _, ok_number F16 T H_churn, b16, k16, PySem.W.mg_of X G a16⟩
  have H_place : Has l.prog w K mg base CX0 2 "_law_place" ["_law_cell", "_law_number_here"] (spPlace) := ⟨f17, _, ok_place F17 T H_churn H_primes, b17, k17, PySem.W.mg_of X G a17⟩
  have H_sign : Has l.prog w K mg base CX0 6 "_law_sign" ["_law_a", "_law_b", "_law_place_here"] (spAt) := ⟨f18, _, ok_sign F18 T H_pair_sign H_whole, b18, k18, PySem.W.mg_of X G a18⟩
  have H_alone : Has l.prog w K mg base CX0 1 "_law_alone" ["_law_e", "_law_sort"] (spAloneT qc6 qc8) := ⟨f19, _, ok_alone F19 T , b19, k19, PySem.W.mg_of X G a19⟩
  have H_refused : Has l.prog w K mg base CX0 6 "_law_refused" ["_law_a", "_law_b", "_law_place_here"] (spRefused) := ⟨f20, _, ok_refused F20 T H_pair_sign H_alone, b20, k20, PySem.W.mg_of X G a20⟩
  have H_odd_places : Has l.prog w K mg base CX0 7 "_law_odd_places" ["_law_a", "_law_b", "_law_cell"] (spOddPl) := ⟨f21, _, ok_odd_places F21 T H_churn H_primes H_refused, b21, k21, PySem.W.mg_of X G a21⟩
  exact ok_law F22 T H_cell_at H_number H_place H_sign H_odd_places
theorem walk {l : PySem.W.OpenLaw} {q : Program} {loose : List Str} {XP : (Str → Option Value) → Heap → Prop} {YP : World → Heap → Prop} {d : DefRec} {K : Params → PySem.W.Frag} (hn : l.most = some 63) (hdf : d.params.defaults = [])
    (hY : ∀ (w : World) (h : Heap), YP w h → (K w.params).In h)
    (F : ∀ (w : World) (mg : Str → Option Value) (fa : Addr) (h : Heap), (K w.params).In h → h.Ns mainGlobals mg → mg d.name = some (.ref fa) →
      ∃ fd : FuncData, (∀ (s : Shared) (u : Value), BindsTo s fd ⟨[u], []⟩ [("_law_script", u)]) ∧ ∀ base : Heap, (K w.params).In base → base.Ns mainGlobals mg → FnOk l.prog w (K w.params) mg base CX0 8 fa fd ["_law_script"] (spLaw (K w.params))) :
    PySem.W.WalkO q loose XP YP l.row.toRowW d [] (fun f vs => PySem.call f vs) :=
  L2.walk_b (n := 63) (k := 8) (x := "_law_script") (CX := fun _ => CX0) (sp := fun w => spLaw (K w.params)) hn (by decide) hdf ⟨rfl, by decide, by decide⟩ hY F (fun _ _ a ns hl hb hS => ⟨a, ns, rfl, hS, hl, hb, fun _ => rfl⟩) fun _ _ _ _ _ z => z
end K17
def PySem.W.Fast.tw13831857489065344380 : Unit := ()
def PySem.W.Fast.tw9176775713336305262 : Unit := ()
def PySem.W.Fast.tw17569111519213104888 : Unit := ()
def PySem.W.Fast.tw16174950522740269735 : Unit := ()
def PySem.W.Fast.tw12947069121566729349 : Unit := ()
def PySem.W.Fast.tw16049614401048761053 : Unit := ()
def PySem.W.Fast.tw10140612093930421333 : Unit := ()
def PySem.W.Fast.tw1527391354947253145 : Unit := ()
def PySem.W.Fast.tw16234583273952933270 : Unit := ()
def PySem.W.Fast.tw14247953262418235810 : Unit := ()
def PySem.W.Fast.tw13733251543092523751 : Unit := ()
def PySem.W.Fast.tw17592763026138042191 : Unit := ()
def PySem.W.Fast.tw12375919454800638133 : Unit := ()
def PySem.W.Fast.tw4526590269299915875 : Unit := ()
def PySem.W.Fast.tw6235435276600067354 : Unit := ()
def PySem.W.Fast.tw8451020051186434309 : Unit := ()
def PySem.W.Fast.tw4905696253851275544 : Unit := ()
def PySem.W.Fast.tw8049352043972963141 : Unit := ()
def PySem.W.Fast.tw7796294289232806930 : Unit := ()
def PySem.W.Fast.tw15283936908810269217 : Unit := ()
def PySem.W.Fast.tw8949839560731548535 : Unit := ()
def PySem.W.Fast.tw13218597030508063808 : Unit := ()
def PySem.W.Fast.tw14942592176910303362 : Unit := ()
open PySem PySem.W PyProof.Rows
set_option maxRecDepth 100000 in
set_option maxHeartbeats 0 in
theorem PySem.Challenge.cw_conicplaces_k17_pair_signs_holds : PySem.Challenge.rw_conicplaces_k17_pair_signs.Holds := by
  w_on; o_law; k_head; (case hw => w_witness2)
  k_fill
  refine K17.walk (l := PySem.Challenge.rw_conicplaces_k17_pair_signs) rfl rfl (fun w h Y => PySem.W.kIn_of Y) ?F
  case F =>
    intro w mg fa h KX G hmg
    refine' K17.all_mk KX G hmg ?a1 ?l1 ?g1 ?k1 ?a2 ?l2 ?g2 ?k2 ?a3 ?l3 ?g3 ?k3 ?a4 ?l4 ?g4 ?k4 ?a5 ?l5 ?g5 ?k5 ?a6 ?l6 ?g6 ?k6 ?a7 ?l7 ?g7 ?k7 ?a8 ?l8 ?g8 ?k8 ?a9 ?l9 ?g9 ?k9 ?a10 ?l10 ?g10 ?k10 ?a11 ?l11 ?g11 ?k11 ?a12 ?l12 ?g12 ?k12 ?a13 ?l13 ?g13 ?k13 ?a14 ?l14 ?g14 ?k14 ?a15 ?l15 ?g15 ?k15 ?a16 ?l16 ?g16 ?k16 ?a17 ?l17 ?g17 ?k17 ?a18 ?l18 ?g18 ?k18 ?a19 ?l19 ?g19 ?k19 ?a20 ?l20 ?g20 ?k20 ?a21 ?l21 ?g21 ?k21 ?a22 ?l22 ?g22 ?k22 ?xm_CurveError ?xm_BadPlace ?xm_Flat ?xm_NoBack ?xm_NoJoin ?xm_NoLine ?xm_NoName ?xm_NoNumber ?xm_NoPair ?xm_NoPlace ?xm_NoRow ?xm_NoSign ?xm_NoText ?xm_NoVertex ?xm_NotPlain ?xm_OffCurve ?xi_ce ?xi_0 ?xi_1 ?xi_2 ?xi_3 ?xi_4 ?xi_5 ?xi_6 ?xi_7 ?xi_8 ?xi_9 ?xi_10 ?xi_11 ?xi_12 ?xi_13 ?xi_14 ?xi_ve ?xe0 ?xe1 ?xe2 ?xe3 ?xe4 ?xe5 ?xe6 ?xe7 ?xx_NoNumber ?xi_ce_2 ?xi_0_2 ?xi_1_2 ?xi_2_2 ?xi_3_2 ?xi_4_2 ?xi_5_2 ?xi_6_2 ?xi_7_2 ?xi_8_2 ?xi_9_2 ?xi_10_2 ?xi_11_2 ?xi_12_2 ?xi_13_2 ?xi_14_2 ?xi_ve_2 ?xe0_2 ?xe1_2 ?xe2_2 ?xe3_2 ?xe4_2 ?xe5_2 ?xe6_2 ?xe7_2 ?xx_NoPlace ?xx_CurveError ?xu_NoNumber ?xu_NoPlace ?xi_ib ?xz_isinstance ?xz_int ?xz_bool ?xz_len ?xz_range ?xz_ValueError
    (case a1 => k_is)
    (case l1 => k_is)
    (case g1 => k_is)
    (case k1 => k_is)
    (case a2 => k_is)
    (case l2 => k_is)
    (case g2 => k_is)
    (case k2 => k_is)
    (case a3 => k_is)
    (case l3 => k_is)
    (case g3 => k_is)
    (case k3 => k_is)
    (case a4 => k_is)
    (case l4 => k_is)
    (case g4 => k_is)
    (case k4 => k_is)
    (case a5 => k_is)
    (case l5 => k_is)
    (case g5 => k_is)
    (case k5 => k_is)
    (case a6 => k_is)
    (case l6 => k_is)
    (case g6 => k_is)
    (case k6 => k_is)
    (case a7 => k_is)
    (case l7 => k_is)
    (case g7 => k_is)
    (case k7 => k_is)
    (case a8 => k_is)
    (case l8 => k_is)
    (case g8 => k_is)
    (case k8 => k_is)
    (case a9 => k_is)
    (case l9 => k_is)
    (case g9 => k_is)
    (case k9 => k_is)
    (case a10 => k_is)
    (case l10 => k_is)
    (case g10 => k_is)
    (case k10 => k_is)
    (case a11 => k_is)
    (case l11 => k_is)
    (case g11 => k_is)
    (case k11 => k_is)
    (case a12 => k_is)
    (case l12 => k_is)
    (case g12 => k_is)
    (case k12 => k_is)
    (case a13 => k_is)
    (case l13 => k_is)
    (case g13 => k_is)
    (case k13 => k_is)
    (case a14 => k_is)
    (case l14 => k_is)
    (case g14 => k_is)
    (case k14 => k_is)
    (case a15 => k_is)
    (case l15 => k_is)
    (case g15 => k_is)
    (case k15 => k_is)
    (case a16 => k_is)
    (case l16 => k_is)
    (case g16 => k_is)
    (case k16 => k_is)
    (case a17 => k_is)
    (case l17 => k_is)
    (case g17 => k_is)
    (case k17 => k_is)
    (case a18 => k_is)
    (case l18 => k_is)
    (case g18 => k_is)
    (case k18 => k_is)
    (case a19 => k_is)
    (case l19 => k_is)
    (case g19 => k_is)
    (case k19 => k_is)
    (case a20 => k_is)
    (case l20 => k_is)
    (case g20 => k_is)
    (case k20 => k_is)
    (case a21 => k_is)
    (case l21 => k_is)
    (case g21 => k_is)
    (case k21 => k_is)
    (case a22 => k_is)
    (case l22 => k_is)
    (case g22 => k_is)
    (case k22 => k_is)
    (case xm_CurveError => k_is)
    (case xm_BadPlace => k_is)
    (case xm_Flat => k_is)
    (case xm_NoBack => k_is)
    (case xm_NoJoin => k_is)
    (case xm_NoLine => k_is)
    (case xm_NoName => k_is)
    (case xm_NoNumber => k_is)
    (case xm_NoPair => k_is)
    (case xm_NoPlace => k_is)
    (case xm_NoRow => k_is)
    (case xm_NoSign => k_is)
    (case xm_NoText => k_is)
    (case xm_NoVertex => k_is)
    (case xm_NotPlain => k_is)
    (case xm_OffCurve => k_is)
    (case xi_ce => kernel_rfl)
    (case xi_0 => kernel_rfl)
    (case xi_1 => kernel_rfl)
    (case xi_2 => kernel_rfl)
    (case xi_3 => kernel_rfl)
    (case xi_4 => kernel_rfl)
    (case xi_5 => kernel_rfl)
    (case xi_6 => kernel_rfl)
    (case xi_7 => kernel_rfl)
    (case xi_8 => kernel_rfl)
    (case xi_9 => kernel_rfl)
    (case xi_10 => kernel_rfl)
    (case xi_11 => kernel_rfl)
    (case xi_12 => kernel_rfl)
    (case xi_13 => kernel_rfl)
    (case xi_14 => kernel_rfl)
    (case xi_ve => kernel_rfl)
    (case xe0 => kernel_rfl)
    (case xe1 => kernel_rfl)
    (case xe2 => kernel_rfl)
    (case xe3 => kernel_rfl)
    (case xe4 => kernel_rfl)
    (case xe5 => kernel_rfl)
    (case xe6 => kernel_rfl)
    (case xe7 => kernel_rfl)
    (case xx_NoNumber => kernel_rfl)
    (case xi_ce_2 => kernel_rfl)
    (case xi_0_2 => kernel_rfl)
    (case xi_1_2 => kernel_rfl)
    (case xi_2_2 => kernel_rfl)
    (case xi_3_2 => kernel_rfl)
    (case xi_4_2 => kernel_rfl)
    (case xi_5_2 => kernel_rfl)
    (case xi_6_2 => kernel_rfl)
    (case xi_7_2 => kernel_rfl)
    (case xi_8_2 => kernel_rfl)
    (case xi_9_2 => kernel_rfl)
    (case xi_10_2 => kernel_rfl)
    (case xi_11_2 => kernel_rfl)
    (case xi_12_2 => kernel_rfl)
    (case xi_13_2 => kernel_rfl)
    (case xi_14_2 => kernel_rfl)
    (case xi_ve_2 => kernel_rfl)
    (case xe0_2 => kernel_rfl)
    (case xe1_2 => kernel_rfl)
    (case xe2_2 => kernel_rfl)
    (case xe3_2 => kernel_rfl)
    (case xe4_2 => kernel_rfl)
    (case xe5_2 => kernel_rfl)
    (case xe6_2 => kernel_rfl)
    (case xe7_2 => kernel_rfl)
    (case xx_NoPlace => kernel_rfl)
    (case xx_CurveError => kernel_rfl)
    (case xu_NoNumber => kernel_rfl)
    (case xu_NoPlace => kernel_rfl)
    (case xi_ib => kernel_rfl)
    (case xz_isinstance => k_is)
    (case xz_int => k_is)
    (case xz_bool => k_is)
    (case xz_len => k_is)
    (case xz_range => k_is)
    (case xz_ValueError => k_is)
