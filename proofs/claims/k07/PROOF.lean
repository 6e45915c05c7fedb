import PyProof.Rows.All
import Wide.All
import OpenK.AllK
import Wide.FinOn
import Lean
import PyProof.EqAt
import PyProof.EqKinds
import PyProof.TupleCall
import PyProof.CompFree
import PyProof.ConsumeWalk
import PyProof.CompMap
import KE.IntBitsLaws
import KE.KDictSum
import PyProof.Rows.EqDataRows
import PyProof.Rows.SortWalk
import KE.KLcPair
import PyProof.Cells
import PyProof.SumAny
import PyProof.ZipIter
import PyProof.Rows.ZipGen
import PyProof.Rows.FactsT2
import PyProof.WalkInts
import PyProof.SeqI3
import KE.KEqSeq
import PyProof.Rows.Range3
import PyProof.Rows.ChunkLeaf
import PyProof.InstStoreFacts
import PyProof.ExcClass3
import PyProof.ExcInit
import PySem.Challenge.RW_conicplaces_k07_rests_joined
set_option Elab.async false
set_option linter.all false
set_option maxRecDepth 100000
set_option maxHeartbeats 4000000
namespace L2
open PySem PySem.Spec PyProof.Rows

abbrev Key := Sum Int Str
def keyIs : Key → Value → Bool
  | .inl k, v => Value.isInt k v
  | .inr x, v => Value.isStrOf x v
def keyH (w : World) : Key → Int
  | .inl k => hashInt k
  | .inr x => hashStr w x
theorem keyIs_shape : ∀ {k : Key} {v : Value}, keyIs k v = true → (∃ i t, k = Sum.inl i ∧ v = Value.int i t) ∨ (∃ x t, k = Sum.inr x ∧ v = Value.str x t)
  | .inl i, v, h => by
    obtain ⟨t, e⟩ := Value.isInt_shape (k := i) (v := v) h
    exact .inl ⟨i, t, rfl, e⟩
  | .inr x, v, h => by
    obtain ⟨t, e⟩ := Value.isStrOf_shape (x := x) (v := v) h
    exact .inr ⟨x, t, rfl, e⟩
theorem key_ll (a b : Int) : decide ((Sum.inl a : Key) = Sum.inl b) = (a == b) := by
  by_cases e : a = b
  · subst e; simp
  · have h : ¬ (Sum.inl a : Key) = Sum.inl b := fun q => e (Sum.inl.inj q)
    rw [decide_eq_false h]
    exact (beq_eq_false_iff_ne.mpr e).symm
theorem key_rr (a b : Str) : decide ((Sum.inr a : Key) = Sum.inr b) = decide (a = b) := by
  by_cases e : a = b
  · subst e; simp
  · have h : ¬ (Sum.inr a : Key) = Sum.inr b := fun q => e (Sum.inr.inj q)
    rw [decide_eq_false h, decide_eq_false e]
theorem key_lr (a : Int) (b : Str) : decide ((Sum.inl a : Key) = Sum.inr b) = false := decide_eq_false (fun q => nomatch q)
theorem key_rl (a : Str) (b : Int) : decide ((Sum.inr a : Key) = Sum.inl b) = false := decide_eq_false (fun q => nomatch q)

def mixKind (prog : Program) (w : World) : PySem.KeyKind prog w Key where
  is := keyIs
  hash := keyH w
  inj := fun v a b ha hb => by
    rcases keyIs_shape ha with ⟨i, t, rfl, rfl⟩ | ⟨x, t, rfl, rfl⟩
    · rcases keyIs_shape hb with ⟨j, u, rfl, e⟩ | ⟨y, u, rfl, e⟩
      · injection e with e1 _; rw [e1]
      · exact nomatch e
    · rcases keyIs_shape hb with ⟨j, u, rfl, e⟩ | ⟨y, u, rfl, e⟩
      · exact nomatch e
      · injection e with e1 _; rw [e1]
  byValue := fun k v h => by
    rcases keyIs_shape h with ⟨i, t, rfl, rfl⟩ | ⟨x, t, rfl, rfl⟩ <;> rfl
  pyHash := fun hv h => by
    rcases keyIs_shape hv with ⟨i, t, rfl, rfl⟩ | ⟨x, t, rfl, rfl⟩
    · exact wpAny_pyHash_int h
    · exact wpAny_pyHash_str h
  eqBool := fun hu hv h => by
    rcases keyIs_shape hu with ⟨i, t, rfl, rfl⟩ | ⟨x, t, rfl, rfl⟩
    · rcases keyIs_shape hv with ⟨j, u, rfl, rfl⟩ | ⟨y, u, rfl, rfl⟩
      · rw [key_ll] at h; exact wpAny_eqBool_int h
      · rw [key_lr] at h; exact SeqAt.EqAt.int_str i t y u _ _ _ _ h
    · rcases keyIs_shape hv with ⟨j, u, rfl, rfl⟩ | ⟨y, u, rfl, rfl⟩
      · rw [key_rl] at h; exact SeqAt.EqAt.str_int x t j u _ _ _ _ h
      · rw [key_rr] at h; exact wpAny_eqBool_str h
  «strs» := fun k x t v h => by
    rcases keyIs_shape h with ⟨i, u, rfl, e⟩ | ⟨y, u, rfl, e⟩
    · exact nomatch e
    · injection e with e1 _
      subst e1
      cases v <;> rfl

end L2

namespace L2
open PySem PySem.Spec PyProof.Rows

inductive V where
  | non | bl (b : Bool) | int (i : Int) | str (x : Str) | byt (b : Array UInt8) | flt (b : UInt64) | ref (a : Addr) | ty (n : String)
  deriving DecidableEq

def RelV : V → Value → Prop
  | .non, u => u = Value.none
  | .bl b, u => u = Value.bool b
  | .int i, u => ∃ t, u = Value.int i t
  | .str x, u => ∃ t, u = Value.str x t
  | .byt b, u => ∃ t, u = Value.bytes b t
  | .flt b, u => ∃ t, u = Value.float b t
  | .ref a, u => u = Value.ref a
  | .ty n, u => u = Value.type n

abbrev Vals : List V → List Value → Prop := Paired RelV
theorem Vals.length {xs : List V} {us : List Value} (r : Vals xs us) : xs.length = us.length := Paired.length r
theorem Vals.get : ∀ {xs : List V} {us : List Value} {i : Nat} {x : V}, Vals xs us → xs[i]? = some x → ∃ u, us[i]? = some u ∧ RelV x u
  | _, _, _, _, .nil, e => by simp at e
  | _, _, 0, _, .cons r _, e => by simp at e; subst e; exact ⟨_, rfl, r⟩
  | _, _, i + 1, x, .cons _ t, e => by
    obtain ⟨u, h1, h2⟩ := Vals.get (i := i) (x := x) t (by simpa using e)
    exact ⟨u, by simpa using h1, h2⟩
theorem Vals.append : ∀ {xs ys : List V} {us ws : List Value}, Vals xs us → Vals ys ws → Vals (xs ++ ys) (us ++ ws)
  | _, _, _, _, .nil, s => s
  | _, _, _, _, .cons r t, s => .cons r (Vals.append t s)
def RelO : Option V → Option Value → Prop
  | some v, some u => RelV v u
  | none, none => True
  | _, _ => False
def KV {κ : Type} : List (κ × V) → List (κ × Value) → Prop := Paired fun (p : κ × V) (q : κ × Value) => p.1 = q.1 ∧ RelV p.2 q.2

def kV : Key → V
  | .inl i => .int i
  | .inr x => .str x

inductive HO where
  /-- a list -/
  | lst (xs : List V)
  /-- a tuple (never changes) -/
  | tup (xs : List V)
  /-- a dict whose keys are ints and texts; one whose keys are tuples of ints and texts (the empty one is both) -/
  | dK (kvs : List (Key × V)) | dT (kvs : List (List Key × V))
  /-- a set of ints: its members, its size -/
  | set (S : Int → Bool) (n : Nat)
  /-- an instance of the class at C, its dict at dx, its attributes -/
  | ins (C dx : Addr) (fs : List (Str × V))
  /-- the dict of the instance at x -/
  | own (x : Addr)
  /-- the dict of an exception -/
  | xd (fs : List (Str × V))
  /-- a bound method, f of x -/
  | met (f x : Addr)
  /-- a range object lo, lo + 1, .. below hi -/
  | rng (lo hi : Int)
  /-- a thing that is known to the object (the script; a dict while a loop walks it): read, never written while it is so -/
  | frz (o : Obj) (u : HO)
  /-- a code object's table -/
  | tbl (ps : Array Value)
  /-- any other thing, by what is true of its one object (a def of one's own: SetO a S n := HO.ext fun h => ..) -/
  | ext (φ : Heap → Prop)

abbrev Hp := Addr → Option HO
def upd (H : Hp) (a : Addr) (o : HO) : Hp := fun b => if b = a then some o else H b
theorem upd_same {H : Hp} {a : Addr} {o : HO} : upd H a o a = some o := by unfold upd; rw [if_pos rfl]
theorem upd_ne {H : Hp} {a b : Addr} {o : HO} (h : b ≠ a) : upd H a o b = H b := by unfold upd; rw [if_neg h]
theorem ne_of_none {H : Hp} {a b : Addr} {o : HO} (h : H a = some o) (h' : H b = none) : a ≠ b := by
  intro e; subst e; rw [h] at h'; cases h'

section
variable (P : Program) (w : World)
def ObjOk (H : Hp) (h : Heap) (a : Addr) : HO → Prop
  | .lst xs => xs.length ≤ sizeLine ∧ ∃ (its : List Value) (n : Nat), Vals xs its ∧ h.get? a = some { cls := .type "list", data := .seq its.toArray n }
  | .tup xs => xs.length ≤ sizeLine ∧ ∃ its : List Value, Vals xs its ∧ IsTup h a its.toArray
  | .dK kvs => kvs.length ≤ sizeLine ∧ (a == sysModules) = false ∧ ∃ vs, KV kvs vs ∧ h.DictOf (mixKind P w) a vs
  | .dT kvs => kvs.length ≤ sizeLine ∧ (a == sysModules) = false ∧ ∃ xs : List (List Key × Addr × Value),
      Paired (fun (p : List Key × V) (q : List Key × Addr × Value) => p.1 = q.1 ∧ H q.2.1 = some (.tup (p.1.map kV)) ∧ RelV p.2 q.2.2) kvs xs ∧
      ∃ o es ep, h.get? a = some o ∧ o.ExactDict ∧ o.data = .dict es ep ∧ es.toList = xs.map (entryOfKey (tupleKind (mixKind P w))) ∧ (xs.map (·.1)).Nodup
  | .set S n => h.SetOf (intKind P w) a S n
  | .ins C dx fs => H dx = some (.own a) ∧ fs.length ≤ 1000 ∧ dx ≠ a ∧ h.get? a = some (PySem.W.instObj C dx) ∧
      ∃ mA, h.Ns1 dx mA ∧ (∀ f, RelO (fs.lookup f) (mA f)) ∧ PySem.Within mA (fs.map (·.1))
  | .own _ => ∃ o, h.get? a = some o
  | .xd fs => ∃ mA, h.Ns1 a mA ∧ ∀ f, RelO (fs.lookup f) (mA f)
  | .rng lo hi => ∃ t u v, h.get? a = some { cls := .type "range", data := .fields #[.int lo t, .int hi u, .int 1 v] }
  | .frz o u => h.get? a = some o ∧ ObjOk H h a u
  | .tbl ps => h.get? a = some { cls := .none, data := .fields ps }
  | .met f x => h.get? a = some (PySem.W.methodObj (.ref f) (.ref x))
  | .ext φ => φ h ∧ (∃ o, h.get? a = some o) ∧ ∀ h1 h2 : Heap, φ h1 → (∀ o, h1.get? a = some o → h2.get? a = some o) → φ h2
def HOk (H : Hp) (h : Heap) : Prop := ∀ a o, H a = some o → ObjOk P w H h a o
end

section
variable {P : Program} {w : World} {H H' : Hp} {h h' : Heap} {a : Addr} {o : HO}
theorem ObjOk.lt (x : ObjOk P w H h a o) : a < h.objs.size := by
  cases o with
  | lst xs => obtain ⟨_, _, _, _, e⟩ := x; exact Heap.lt_size e
  | tup xs => obtain ⟨_, _, _, p⟩ := x; exact p.lt
  | dK kvs => obtain ⟨_, _, _, _, o, _, _, e, _⟩ := x; exact Heap.lt_size e
  | dT kvs => obtain ⟨_, _, _, _, o, _, _, e, _⟩ := x; exact Heap.lt_size e
  | set S n => obtain ⟨o, _, _, _, e, _⟩ := x; exact Heap.lt_size e
  | ins C dx fs => obtain ⟨_, _, _, e, _⟩ := x; exact Heap.lt_size e
  | own y => obtain ⟨_, e⟩ := x; exact Heap.lt_size e
  | xd fs => obtain ⟨_, ⟨_, _, _, e, _⟩, _⟩ := x; exact Heap.lt_size e
  | rng lo hi => obtain ⟨_, _, _, e⟩ := x; exact Heap.lt_size e
  | frz ob u => obtain ⟨e, _⟩ := x; exact Heap.lt_size e
  | tbl ps => exact Heap.lt_size (show h.get? a = some _ from x)
  | met f y => exact Heap.lt_size (show h.get? a = some _ from x)
  | ext φ => obtain ⟨_, ⟨_, e⟩, _⟩ := x; exact Heap.lt_size e
theorem Paired.mapP {α β : Type} {F G : α → β → Prop} : ∀ {l₁ : List α} {l₂ : List β}, Paired F l₁ l₂ → (∀ a b, F a b → G a b) → Paired G l₁ l₂
  | _, _, .nil, _ => .nil
  | _, _, .cons r t, f => .cons (f _ _ r) (Paired.mapP t f)
theorem ObjOk.stay (x : ObjOk P w H h a o) (k : ∀ b u, (b = a ∨ H b = some (.own a)) → h.get? b = some u → h'.get? b = some u)
    (ho : ∀ b, H b = some (.own a) → H' b = some (.own a)) (ht : ∀ b xs, H b = some (.tup xs) → H' b = some (.tup xs)) : ObjOk P w H' h' a o := by
  induction o with
  | lst xs => obtain ⟨z, its, n, r, e⟩ := x; exact ⟨z, its, n, r, k _ _ (.inl rfl) e⟩
  | tup xs => obtain ⟨z, its, r, ob, e, c⟩ := x; exact ⟨z, its, r, ob, k _ _ (.inl rfl) e, c⟩
  | dK kvs => obtain ⟨z, y, vs, r, ob, es, ep, e, c⟩ := x; exact ⟨z, y, vs, r, ob, es, ep, k _ _ (.inl rfl) e, c⟩
  | dT kvs =>
    obtain ⟨z, y, xs, r, ob, es, ep, e, c⟩ := x
    exact ⟨z, y, xs, Paired.mapP r fun p q z => ⟨z.1, ht _ _ z.2.1, z.2.2⟩, ob, es, ep, k _ _ (.inl rfl) e, c⟩
  | set S n => obtain ⟨ob, es, ep, t, e, c⟩ := x; exact ⟨ob, es, ep, t, k _ _ (.inl rfl) e, c⟩
  | ins C dx fs =>
    obtain ⟨d, z, ne, e, mA, ⟨od, es, ep, e2, c⟩, r⟩ := x
    exact ⟨ho _ d, z, ne, k _ _ (.inl rfl) e, mA, ⟨od, es, ep, k _ _ (.inr d) e2, c⟩, r⟩
  | own y => obtain ⟨ob, e⟩ := x; exact ⟨ob, k _ _ (.inl rfl) e⟩
  | xd fs => obtain ⟨mA, ⟨od, es, ep, e, c⟩, r⟩ := x; exact ⟨mA, ⟨od, es, ep, k _ _ (.inl rfl) e, c⟩, r⟩
  | rng lo hi => obtain ⟨t, u, v, e⟩ := x; exact ⟨t, u, v, k _ _ (.inl rfl) e⟩
  | frz ob u ih => obtain ⟨e, q⟩ := x; exact ⟨k _ _ (.inl rfl) e, ih q⟩
  | tbl ps =>
    have e : h.get? a = some { cls := .none, data := .fields ps } := x
    show h'.get? a = some { cls := .none, data := .fields ps }
    exact k a _ (.inl rfl) e
  | met f y =>
    have e : h.get? a = some (PySem.W.methodObj (.ref f) (.ref y)) := x
    show h'.get? a = some (PySem.W.methodObj (.ref f) (.ref y))
    exact k a _ (.inl rfl) e
  | ext φ => obtain ⟨p, ⟨o, e⟩, st⟩ := x; exact ⟨st _ _ p fun o q => k _ _ (.inl rfl) q, ⟨o, k _ _ (.inl rfl) e⟩, st⟩
theorem HOk.lt (x : HOk P w H h) (e : H a = some o) : a < h.objs.size := (x a o e).lt
theorem HOk.fresh (x : HOk P w H h) (e : h.objs.size ≤ a) : H a = none := by
  cases q : H a with
  | none => rfl
  | some u => exact absurd (Nat.lt_of_lt_of_le (x.lt q) e) (Nat.lt_irrefl _)
theorem HOk.kept (x : HOk P w H h) (k : ∀ b u, h.get? b = some u → h'.get? b = some u) : HOk P w H h' := fun a o e =>
  (x a o e).stay (fun b u _ q => k b u q) (fun _ q => q) fun _ _ q => q
theorem HOk.laid (x : HOk P w H h) (k : ∀ b u, h.get? b = some u → h'.get? b = some u) (hp : h.objs.size ≤ a) (new : ObjOk P w (upd H a o) h' a o) : HOk P w (upd H a o) h' := fun b u e => by
  have hn := x.fresh hp
  by_cases hb : b = a
  · subst hb; rw [upd_same] at e; cases e; exact new
  · rw [upd_ne hb] at e
    exact (x b u e).stay (fun c v _ q => k c v q) (fun c q => by rw [upd_ne (ne_of_none q hn)]; exact q) fun c xs q => by rw [upd_ne (ne_of_none q hn)]; exact q
end

def Rd (H : Hp) (a : Addr) (u : HO) : Prop := H a = some u ∨ ∃ o, H a = some (.frz o u)
theorem Rd.ok {P : Program} {w : World} {H : Hp} {h : Heap} {a : Addr} {u : HO} (r : Rd H a u) (x : HOk P w H h) : ObjOk P w H h a u := by
  rcases r with r | ⟨o, r⟩
  · exact x a u r
  · obtain ⟨_, q⟩ := x a _ r
    exact q
def Mut : Option HO → Prop
  | some (.lst _) => True
  | some (.dK _) => True
  | some (.dT _) => True
  | some (.set _ _) => True
  | some (.ins _ _ _) => True
  | some (.ext _) => True
  | _ => False
section
variable {P : Program} {w : World} {H : Hp} {h h' : Heap} {x e : Addr} {o' : HO}
theorem HOk.write (ok : HOk P w H h) (mu : Mut (H x)) (he : e = x ∨ H e = some (.own x)) (k : ∀ b u, b ≠ e → h.get? b = some u → h'.get? b = some u) (heo : ∃ u, h'.get? e = some u)
    (new : ObjOk P w (upd H x o') h' x o') : HOk P w (upd H x o') h' := fun b u q => by
  have nown : ∀ c y, H c = some (.own y) → c ≠ x := fun c y r z => by subst z; rw [r] at mu; exact mu
  have ntup : ∀ c xs, H c = some (.tup xs) → c ≠ x := fun c xs r z => by subst z; rw [r] at mu; exact mu
  by_cases hb : b = x
  · subst hb; rw [upd_same] at q; cases q; exact new
  · rw [upd_ne hb] at q
    by_cases hbe : b = e
    · have q' : H b = some (.own x) := by
        rcases he with z | z
        · exact absurd (hbe.trans z) hb
        · rw [hbe]; exact z
      rw [q] at q'; cases q'
      obtain ⟨v, hv⟩ := heo
      exact ⟨v, by rw [hbe]; exact hv⟩
    · refine (ok b u q).stay (fun c v hc r => k c v ?_ r) (fun c r => by rw [upd_ne (nown c b r)]; exact r) fun c xs r => by rw [upd_ne (ntup c xs r)]; exact r
      rcases hc with rfl | hc
      · exact hbe
      · rintro rfl
        rcases he with z | z
        · exact nown c b hc z
        · rw [hc] at z; cases z; exact hb rfl
end

structure Un (fs ex : List Addr) (H H' : Hp) (h h' : Heap) : Prop where
  keep : ∀ b o, h.get? b = some o → H b = none → b ∉ fs → b ∉ ex → h'.get? b = some o
  slot : ∀ b o, h.get? b = some o → H b = none → b ∈ fs → b ∉ ex → ∃ sl, h'.get? b = some { o with slots := sl }
  free : ∀ b o, h.get? b = some o → H b = none → b ∉ ex → H' b = none
  there : ∀ b o, h.get? b = some o → b ∉ ex → ∃ o', h'.get? b = some o'
  tups : ∀ b xs, H b = some (.tup xs) → H' b = some (.tup xs)
  frzs : ∀ b o u, H b = some (.frz o u) → H' b = some (.frz o u)
  tbls : ∀ b ps, H b = some (.tbl ps) → ∃ more, H' b = some (.tbl (ps ++ more))
section
variable {fs fs' ex ex' : List Addr} {H H1 H2 : Hp} {h h1 h2 h' : Heap} {a x e : Addr} {o : HO}
theorem Un.any (u : Un fs ex H H1 h h1) {b : Addr} {ob : Obj} (q : h.get? b = some ob) (n : H b = none) (hx : b ∉ ex) : ∃ sl, h1.get? b = some { ob with slots := sl } := by
  by_cases hb : b ∈ fs
  · exact u.slot b ob q n hb hx
  · exact ⟨ob.slots, u.keep b ob q n hb hx⟩
theorem Un.kept (k : ∀ b u, h.get? b = some u → h'.get? b = some u) : Un fs ex H H h h' :=
  ⟨fun b ob q _ _ _ => k b ob q, fun b ob q _ _ _ => ⟨ob.slots, k b ob q⟩, fun _ _ _ n _ => n, fun b ob q _ => ⟨ob, k b ob q⟩, fun _ _ q => q, fun _ _ _ q => q, fun _ ps q => ⟨#[], by rw [q]; simp⟩⟩
theorem Un.refl : Un fs ex H H h h := Un.kept fun _ _ q => q
theorem Un.laid (k : ∀ b u, h.get? b = some u → h'.get? b = some u) (hp : h.objs.size ≤ a) (hn : H a = none) : Un fs ex H (upd H a o) h h' where
  keep := fun b u q _ _ _ => k b u q
  slot := fun b u q _ _ _ => ⟨u.slots, k b u q⟩
  free := fun b u q n _ => by rw [upd_ne (Nat.ne_of_lt (Nat.lt_of_lt_of_le (Heap.lt_size q) hp))]; exact n
  there := fun b u q _ => ⟨u, k b u q⟩
  tups := fun b xs q => by rw [upd_ne (ne_of_none q hn)]; exact q
  frzs := fun b u xs q => by rw [upd_ne (ne_of_none q hn)]; exact q
  tbls := fun b ps q => ⟨#[], by rw [upd_ne (ne_of_none q hn), q]; simp⟩
theorem Un.write (mu : Mut (H x)) (he : e = x ∨ H e = some (.own x)) (k : ∀ b u, b ≠ e → h.get? b = some u → h'.get? b = some u) (heo : ∃ u, h'.get? e = some u) : Un fs ex H (upd H x o) h h' := by
  have hx : ∀ b, H b = none → b ≠ x := fun b n z => by subst z; rw [n] at mu; exact mu
  have hb : ∀ b, H b = none → b ≠ e := fun b n z => by
    subst z
    rcases he with r | r
    · exact hx b n r
    · rw [n] at r; cases r
  have hm : ∀ b u, H b = some u → ¬ Mut (some u) → b ≠ x := fun b u q nm z => by subst z; rw [q] at mu; exact nm mu
  refine ⟨fun b u q n _ _ => k b u (hb b n) q, fun b u q n _ _ => ⟨u.slots, k b u (hb b n) q⟩, fun b u q n _ => by rw [upd_ne (hx b n)]; exact n, fun b u q _ => ?_,
    fun b xs q => by rw [upd_ne (hm b _ q fun z => z)]; exact q, fun b u xs q => by rw [upd_ne (hm b _ q fun z => z)]; exact q, fun b ps q => ⟨#[], by rw [upd_ne (hm b _ q fun z => z), q]; simp⟩⟩
  by_cases hbe : b = e
  · subst hbe; exact heo
  · exact ⟨u, k b u hbe q⟩
end

def trk (h : Heap) (H : Hp) : List Addr := (List.range h.objs.size).filter fun a => (H a).isSome
def hidT (h : Heap) (H : Hp) : Heap := PySem.W.hideAll h (trk h H)
theorem hidT_size (h : Heap) (H : Hp) : (hidT h H).objs.size = h.objs.size := PySem.W.hideAll_size _ _
theorem hidT_get {h : Heap} {H : Hp} {b : Addr} {o : Obj} (e : h.get? b = some o) (n : H b = none) : (hidT h H).get? b = some o :=
  PySem.W.hideAll_get _ e fun hm => by
    have q : (H b).isSome = true := (List.mem_filter.mp hm).2
    rw [n] at q; simp at q
theorem of_hidT {h : Heap} {H : Hp} {b : Addr} {o : Obj} (e : (hidT h H).get? b = some o) : h.get? b = some o ∧ H b = none := by
  have e' : h.get? b = some o := PySem.W.of_hideAll (trk h H) e
  refine ⟨e', ?_⟩
  cases q : H b with
  | none => rfl
  | some x =>
    have hm : b ∈ trk h H := List.mem_filter.mpr ⟨List.mem_range.mpr (Heap.lt_size e'), by simp [q]⟩
    have z : (hidT h H).get? b = none := PySem.W.hideAll_none (trk h H) hm
    rw [z] at e; cases e

def allNews (g h : Heap) (L : Addr) : List (Addr × Obj) := (List.range h.objs.size).filterMap fun a => if a = L ∨ (g.get? a).isSome = true then none else (h.get? a).map fun o => (a, o)
def rest (g h : Heap) (L d : Addr) : List (Addr × Obj) := (allNews g h L).filter fun p => decide (p.1 ≠ d)
end L2

namespace L2
open PySem PySem.Spec PyProof.Rows

structure Mod (K : PySem.W.Frag) (mg : Str → Option Value) (base : Heap) : Prop where
  kin : K.In base
  glob : base.Ns mainGlobals mg
  blt : ∃ mb, base.Ns builtinsNs mb ∧ ∀ x : Str, x ≠ "__name__" → mb x = bootBuiltins x
  nolimit : base.NoLimit

structure Cx where
  prog : Program
  w : World
  K : PySem.W.Frag
  mg : Str → Option Value
  base : Heap
  A : Around
  N : List Str
  s₀ : Shared
  H₀ : Hp
  env : Env
  outer : List Env
  stack : List Env
  ex : List Addr
  fn : Str → Bool
  calm : Bool
  pn : List (Addr × Obj)
  xe : Value → Shared → Prop
def frs (l : List Env) : List Addr := l.filterMap (·.frame)
abbrev Cx.fs (X : Cx) : List Addr := frs X.outer

def Vis (sc : Scope) (x : Str) : Prop := sc.names.lookup x = some .local ∨ sc.names.lookup x = some .cell ∨ sc.names.lookup x = some .free
def Loc (sc : Scope) (x : Str) : Prop := sc.names.lookup x = some .local ∨ sc.names.lookup x = some .cell
def Look (env : Env) (h : Heap) (m : Str → Option Value) (x : Str) (u : Value) : Prop :=
  (env.kindOf x = some .local ∧ m x = some u) ∨ ((env.kindOf x = some .cell ∨ env.kindOf x = some .free) ∧ ∃ c, env.cells.lookup x = some c ∧ h.IsCell c (some u))

structure Cx.Ok (X : Cx) : Prop where
  mod : Mod X.K X.mg X.base
  kind : X.env.scope.kind = .function
  glob : X.env.globals = mainGlobals
  blt : X.env.builtins = builtinsNs
  above : X.s₀.heap.objs.size ≤ X.env.locals
  inj : ∀ x y c, X.env.cells.lookup x = some c → X.env.cells.lookup y = some c → x = y
  has : ∀ x, (X.env.kindOf x = some .cell ∨ X.env.kindOf x = some .free) → ∃ c, X.env.cells.lookup x = some c
  cab : ∀ x c, X.fn x = true → X.env.cells.lookup x = some c → X.s₀.heap.objs.size ≤ c
  hd : X.calm = true → X.A.handled = none
  frames : X.A.frames = some X.stack
  stk : X.stack = X.outer ∨ (X.stack = X.env :: X.outer ∧ X.env.frame = some X.env.locals)
  exf : ∀ b ∈ X.ex, b ≠ X.env.locals ∧ ∀ x c, X.env.cells.lookup x = some c → c ≠ b
  bs : ∀ b o, X.base.get? b = some o → X.s₀.heap.get? b = some o ∧ X.H₀ b = none
  bsz : X.base.objs.size ≤ X.s₀.heap.objs.size
  noex : ∀ b o, X.base.get? b = some o → b ∉ X.ex
  exfs : ∀ b ∈ X.ex, b ∉ X.fs
  funs : X.s₀.heap.FunFrames X.base X.outer
  frf : ∀ b ∈ X.fs, X.H₀ b = none

structure Inv (X : Cx) (pins : List (Addr × Obj)) (σ : List (Option V)) (H : Hp) (s : Shared) : Prop where
  ok : X.Ok
  os : s.os = X.s₀.os
  bare : AllBare s.gens
  base : Un X.fs X.ex X.H₀ H X.s₀.heap s.heap
  loc : ∃ m, s.heap.Ns X.env.locals m ∧ ∀ (i : Nat) (x : Str) (v : V), X.N[i]? = some x → σ[i]? = some (some v) → Vis X.env.scope x → ∃ u, RelV v u ∧ Look X.env s.heap m x u
  cell : ∀ x c, X.env.cells.lookup x = some c → ∃ v, s.heap.IsCell c v
  free : H X.env.locals = none
  freeC : ∀ x c, X.env.cells.lookup x = some c → H c = none
  pin : ∀ p ∈ X.pn ++ pins, s.heap.get? p.1 = some p.2 ∧ H p.1 = none ∧ p.1 ≠ X.env.locals ∧ p.1 ∉ X.fs ∧ ∀ v, p.2.data ≠ .cell v
  hok : HOk X.prog X.w H s.heap
  len : σ.length = X.N.length

section
variable {X : Cx} {pins : List (Addr × Obj)} {σ : List (Option V)} {H H' : Hp} {s : Shared} {h' : Heap}

theorem Cx.Ok.nofr (ok : X.Ok) {b : Addr} {o : Obj} (e : X.base.get? b = some o) : b ∉ X.fs := fun hb => by
  have := (ok.funs.mem hb).1
  rw [e] at this; cases this
theorem Inv.bs (I : Inv X pins σ H s) : ∀ b o, X.base.get? b = some o → s.heap.get? b = some o ∧ H b = none := fun b o e =>
  ⟨I.base.keep b o (I.ok.bs b o e).1 (I.ok.bs b o e).2 (I.ok.nofr e) (I.ok.noex b o e), I.base.free b o (I.ok.bs b o e).1 (I.ok.bs b o e).2 (I.ok.noex b o e)⟩
theorem Inv.bk (I : Inv X pins σ H s) : ∀ b o, X.base.get? b = some o → s.heap.get? b = some o := fun b o e => (I.bs b o e).1
theorem Inv.mod (I : Inv X pins σ H s) : Mod X.K X.mg X.base := I.ok.mod
theorem Inv.kIn (I : Inv X pins σ H s) : X.K.In s.heap := I.ok.mod.kin.keeps I.bk
theorem Inv.lt (I : Inv X pins σ H s) : X.env.locals < s.heap.objs.size := let ⟨_, hn, _⟩ := I.loc; hn.lt
theorem Inv.sz (I : Inv X pins σ H s) : X.s₀.heap.objs.size ≤ s.heap.objs.size := Nat.le_trans I.ok.above (Nat.le_of_lt I.lt)
theorem Inv.cne (I : Inv X pins σ H s) : ∀ x c, X.env.cells.lookup x = some c → c ≠ X.env.locals := fun x c e z => by
  obtain ⟨v, o, ho, hd⟩ := I.cell x c e
  obtain ⟨m, ⟨o', es, ep, ho', hd', _⟩, _⟩ := I.loc
  rw [z, ho'] at ho; cases ho; rw [hd'] at hd; cases hd
theorem Inv.funs (I : Inv X pins σ H s) : s.heap.FunFrames X.base X.outer := by
  have all : ∀ (l : List Env), (∀ b ∈ frs l, b ∈ X.fs) → X.s₀.heap.FunFrames X.base l → s.heap.FunFrames X.base l := by
    intro l
    induction l with
    | nil => intro _ _; trivial
    | cons env r ih =>
      intro hs hl
      obtain ⟨hk, ⟨L, o, hf, hn, ho, hd⟩, hr⟩ := hl
      have hL : L ∈ X.fs := hs L (by unfold frs; rw [List.filterMap_cons, hf]; exact List.mem_cons_self)
      obtain ⟨sl, e⟩ := I.base.slot L o ho (I.ok.frf L hL) hL fun z => I.ok.exfs L z hL
      exact ⟨hk, ⟨L, _, hf, hn, e, hd⟩, ih (fun b hb => hs b (by unfold frs; rw [List.filterMap_cons, hf]; exact List.mem_cons_of_mem _ hb)) hr⟩
  exact all X.outer (fun _ hb => hb) I.ok.funs

theorem Inv.stack (I : Inv X pins σ H s) : s.heap.FunFrames X.base X.stack := by
  rcases I.ok.stk with e | ⟨e, hf⟩
  · rw [e]; exact I.funs
  · rw [e]
    obtain ⟨m, hn, _⟩ := I.loc
    refine .cons (by rw [I.ok.kind]; decide) hf hn ?_ I.funs
    exact Heap.get?_none_of_le (Nat.le_trans I.ok.bsz I.ok.above)
theorem Inv.stkSub (I : Inv X pins σ H s) : ∀ b ∈ frs X.stack, b ∈ X.env.locals :: X.fs := fun b hb => by
  rcases I.ok.stk with e | ⟨e, hf⟩
  · rw [e] at hb; exact List.mem_cons_of_mem _ hb
  · rw [e] at hb
    unfold frs at hb
    rw [List.filterMap_cons, hf] at hb
    exact hb
theorem Inv.stkFree (I : Inv X pins σ H s) : ∀ b ∈ frs X.stack, H b = none := fun b hb => by
  rcases List.mem_cons.mp (I.stkSub b hb) with e | hb
  · rw [e]; exact I.free
  · obtain ⟨_, o, ho, _⟩ := I.ok.funs.mem hb
    exact I.base.free b o ho (I.ok.frf b hb) fun z => I.ok.exfs b z hb

theorem Inv.step {g' : Array GenState} {t' : Nat} {d' : Drawn} {ch : List Addr} (I : Inv X pins σ H s)
    (hch : ∀ b ∈ ch, (b ∈ X.ex ∨ X.s₀.heap.objs.size ≤ b) ∧ b ≠ X.env.locals ∧ (∀ x c, X.env.cells.lookup x = some c → c ≠ b) ∧ ∀ p ∈ X.pn ++ pins, p.1 ≠ b)
    (keep : ∀ b o, b ≠ X.env.locals → b ∉ X.fs → b ∉ ch → s.heap.get? b = some o → H b = none → h'.get? b = some o)
    (slot : ∀ b o, b ≠ X.env.locals → b ∈ X.fs → b ∉ ch → s.heap.get? b = some o → H b = none → ∃ sl, h'.get? b = some { o with slots := sl }) (free : ∀ b o, b ∉ ch → s.heap.get? b = some o → H b = none → H' b = none)
    (there : ∀ b o, b ∉ ch → s.heap.get? b = some o → ∃ o', h'.get? b = some o')
    (tups : ∀ b xs, H b = some (.tup xs) → H' b = some (.tup xs)) (frzs : ∀ b o u, H b = some (.frz o u) → H' b = some (.frz o u)) (tbls : ∀ b ps, H b = some (.tbl ps) → ∃ more, H' b = some (.tbl (ps ++ more)))
    (ns : ∀ m, s.heap.Ns X.env.locals m → h'.Ns X.env.locals m) (hok : HOk X.prog X.w H' h') (hg : AllBare g') :
    Inv X pins σ H' { s with heap := h', gens := g', drawn := d', toks := t' } := by
  have neL : ∀ b o, X.s₀.heap.get? b = some o → b ≠ X.env.locals := fun b o e => Nat.ne_of_lt (Nat.lt_of_lt_of_le (Heap.lt_size e) I.ok.above)
  have neC : ∀ b o, X.s₀.heap.get? b = some o → b ∉ X.ex → b ∉ ch := fun b o e hx hb => by
    rcases (hch b hb).1 with z | z
    · exact hx z
    · exact absurd (Nat.lt_of_lt_of_le (Heap.lt_size e) z) (Nat.lt_irrefl _)
  have cellK : ∀ x c, X.env.cells.lookup x = some c → ∀ v, s.heap.IsCell c v → h'.IsCell c v := fun x c e v ⟨o, ho, hd⟩ => by
    have nch : c ∉ ch := fun z => (hch c z).2.2.1 x c e rfl
    by_cases hc : c ∈ X.fs
    · obtain ⟨sl, q⟩ := slot c o (I.cne x c e) hc nch ho (I.freeC x c e)
      exact ⟨_, q, hd⟩
    · exact ⟨o, keep c o (I.cne x c e) hc nch ho (I.freeC x c e), hd⟩
  refine ⟨I.ok, I.os, hg, ⟨fun b o e n hb hx => ?_, fun b o e n hb hx => ?_, fun b o e n hx => ?_, fun b o e hx => ?_, fun b xs e => tups b xs (I.base.tups b xs e), fun b o xs e => frzs b o xs (I.base.frzs b o xs e), fun b ps e => ?_⟩, ?_, fun x c e => ?_, ?_, fun x c e => ?_, fun p hp => ?_, hok, I.len⟩
  · exact keep b o (neL b o e) hb (neC b o e hx) (I.base.keep b o e n hb hx) (I.base.free b o e n hx)
  · obtain ⟨sl, e1⟩ := I.base.slot b o e n hb hx
    obtain ⟨sl', e2⟩ := slot b _ (neL b o e) hb (neC b o e hx) e1 (I.base.free b o e n hx)
    exact ⟨sl', e2⟩
  · obtain ⟨o', e1⟩ := I.base.there b o e hx
    exact free b o' (neC b o e hx) e1 (I.base.free b o e n hx)
  · obtain ⟨o', e1⟩ := I.base.there b o e hx
    exact there b o' (neC b o e hx) e1
  · obtain ⟨m1, e1⟩ := I.base.tbls b ps e
    obtain ⟨m2, e2⟩ := tbls b _ e1
    exact ⟨m1 ++ m2, by rw [e2, Array.append_assoc]⟩
  · obtain ⟨m, hn, hl⟩ := I.loc
    refine ⟨m, ns m hn, fun i x v e1 e2 e3 => ?_⟩
    obtain ⟨u, r, l⟩ := hl i x v e1 e2 e3
    refine ⟨u, r, ?_⟩
    rcases l with l | ⟨k, c, e, z⟩
    · exact .inl l
    · exact .inr ⟨k, c, e, cellK x c e _ z⟩
  · obtain ⟨v, z⟩ := I.cell x c e
    exact ⟨v, cellK x c e v z⟩
  · obtain ⟨m, ⟨o, _, _, ho, _⟩, _⟩ := I.loc
    exact free _ o (fun z => (hch _ z).2.1 rfl) ho I.free
  · obtain ⟨v, o, ho, hd⟩ := I.cell x c e
    exact free c o (fun z => (hch c z).2.2.1 x c e rfl) ho (I.freeC x c e)
  · obtain ⟨e, n, ne, nf, d⟩ := I.pin p hp
    have nch : p.1 ∉ ch := fun z => (hch p.1 z).2.2.2 p hp rfl
    exact ⟨keep p.1 p.2 ne nf nch e n, free p.1 p.2 nch e n, ne, nf, d⟩
theorem Inv.un {t' : Nat} (I : Inv X pins σ H s) (u : Un X.fs [] H H' s.heap h') (hok : HOk X.prog X.w H' h') : Inv X pins σ H' { s with heap := h', toks := t' } := by
  obtain ⟨m, ⟨o, es, ep, ho, r⟩, _⟩ := id I.loc
  obtain ⟨sl, hL⟩ := u.any ho I.free (by simp)
  exact I.step (g' := s.gens) (d' := s.drawn) (ch := []) (fun _ z => nomatch z) (fun b o _ hb _ e n => u.keep b o e n hb (by simp)) (fun b o _ hb _ e n => u.slot b o e n hb (by simp)) (fun b o _ e n => u.free b o e n (by simp)) (fun b o _ e => u.there b o e (by simp)) u.tups u.frzs u.tbls (fun m' hm => by
    obtain ⟨o', es', ep', ho', r'⟩ := hm
    rw [ho] at ho'; cases ho'
    exact ⟨_, es', ep', hL, r'⟩) hok I.bare
theorem Inv.call {g' : Array GenState} {t' : Nat} {d' : Drawn} {ch : List Addr} (I : Inv X pins σ H s) (u : Un (frs X.stack) ch H H' s.heap h') (hok : HOk X.prog X.w H' h') (hg : AllBare g')
    (hch : ∀ b ∈ ch, (b ∈ X.ex ∨ X.s₀.heap.objs.size ≤ b) ∧ b ≠ X.env.locals ∧ (∀ x c, X.env.cells.lookup x = some c → c ≠ b) ∧ ∀ p ∈ X.pn ++ pins, p.1 ≠ b) :
    Inv X pins σ H' { s with heap := h', gens := g', drawn := d', toks := t' } := by
  obtain ⟨m, ⟨o, es, ep, ho, r⟩, _⟩ := id I.loc
  obtain ⟨sl, hL⟩ := u.any ho I.free fun z => (hch _ z).2.1 rfl
  exact I.step (ch := ch) hch (fun b o hL hb hc e n => u.keep b o e n (fun z => (List.mem_cons.mp (I.stkSub b z)).elim hL hb) hc) (fun b o _ _ hc e n => u.any e n hc) (fun b o hc e n => u.free b o e n hc) (fun b o hc e => u.there b o e hc) u.tups u.frzs u.tbls (fun m' hm => by
    obtain ⟨o', es', ep', ho', r'⟩ := hm
    rw [ho] at ho'; cases ho'
    exact ⟨_, es', ep', hL, r'⟩) hok hg
theorem Inv.tok (I : Inv X pins σ H s) (t : Nat) : Inv X pins σ H { s with toks := t } := I.un (h' := s.heap) (t' := t) Un.refl I.hok
theorem Inv.kept {t' : Nat} (I : Inv X pins σ H s) (k : ∀ b u, s.heap.get? b = some u → h'.get? b = some u) : Inv X pins σ H { s with heap := h', toks := t' } := I.un (Un.kept k) (I.hok.kept k)
theorem Inv.laid {a : Addr} {o : HO} {t' : Nat} (I : Inv X pins σ H s) (k : ∀ b u, s.heap.get? b = some u → h'.get? b = some u) (hp : s.heap.objs.size ≤ a) (new : ObjOk X.prog X.w (upd H a o) h' a o) :
    Inv X pins σ (upd H a o) { s with heap := h', toks := t' } := I.un (Un.laid k hp (I.hok.fresh hp)) (I.hok.laid k hp new)
theorem Inv.write {x e : Addr} {o : HO} {t' : Nat} (I : Inv X pins σ H s) (mu : Mut (H x)) (he : e = x ∨ H e = some (.own x)) (k : ∀ b u, b ≠ e → s.heap.get? b = some u → h'.get? b = some u) (heo : ∃ u, h'.get? e = some u)
    (new : ObjOk X.prog X.w (upd H x o) h' x o) : Inv X pins σ (upd H x o) { s with heap := h', toks := t' } := I.un (Un.write mu he k heo) (I.hok.write mu he k heo new)
theorem nodup_ix {N : List Str} (hN : N.Nodup) {i j : Nat} {x : Str} (a : N[i]? = some x) (b : N[j]? = some x) : i = j := by
  obtain ⟨h1, e1⟩ := List.getElem?_eq_some_iff.mp a
  obtain ⟨h2, e2⟩ := List.getElem?_eq_some_iff.mp b
  exact (List.getElem_inj hN).mp (e1.trans e2.symm)

theorem store_ok2 {M : Model} {A : Around} {E : Value → Shared → Prop} {i : Nat} {x : Str} {v : V} {u : Value} {Q : Unit → Shared → Prop} (I : Inv X pins σ H s) (hN : X.N.Nodup) (hi : X.N[i]? = some x) (hx : Loc X.env.scope x) (r : RelV v u)
    (h : ∀ s', Inv X pins (σ.set i (some v)) H s' → (∃ a, Heap.SameBut a s.heap s'.heap ∧ (a = X.env.locals ∨ X.env.cells.lookup x = some a)) → Q () s') (hf : X.fn x = true ∨ X.env.scope.names.lookup x = some .local := by first | exact .inl rfl | exact .inr rfl | assumption) : wpAny M A (storeName X.env x u) Q E s := by
  obtain ⟨m, hn, hl⟩ := id I.loc
  have hcls : (X.env.scope.kind == .class || (X.env.scope.kind == .module && X.env.locals != X.env.globals)) = false := by rw [I.ok.kind]; rfl
  have hiσ : i < σ.length := by rw [I.len]; exact (List.getElem?_eq_some_iff.mp hi).1
  have cne := I.cne
  have tracked : ∀ {a : Addr} {h' : Heap}, (∃ o, s.heap.get? a = some o ∧ H a = none) → Heap.SameBut a s.heap h' → HOk X.prog X.w H h' := fun {a h'} ha hs b ob e => by
    obtain ⟨_, _, hfree⟩ := ha
    refine (I.hok b ob e).stay (fun c w' hc q => (hs.2 c ?_).trans q) (fun _ q => q) fun _ _ q => q
    rintro rfl
    rcases hc with rfl | hc
    · rw [hfree] at e; cases e
    · rw [hfree] at hc; cases hc
  rcases hx with hk | hk
  · refine wpAny_storeName_local hk hn (fun h' hn' hs => ?_) hcls
    obtain ⟨oL, _, _, hoL, _⟩ := id hn
    refine h _ ⟨I.ok, I.os, I.bare, ⟨fun b o e n hb hx => ?_, fun b o e n hb hx => ?_, I.base.free, fun b o e hx => ?_, I.base.tups, I.base.frzs, I.base.tbls⟩, ⟨_, hn', fun j y v' e1 e2 e3 => ?_⟩, fun y c e => ?_, I.free, I.freeC, fun p hp => ?_, tracked ⟨oL, hoL, I.free⟩ hs, by simpa using I.len⟩ ⟨_, hs, .inl rfl⟩
    · exact (hs.2 b (Nat.ne_of_lt (Nat.lt_of_lt_of_le (Heap.lt_size e) I.ok.above))).trans (I.base.keep b o e n hb hx)
    · obtain ⟨sl, e1⟩ := I.base.slot b o e n hb hx
      exact ⟨sl, (hs.2 b (Nat.ne_of_lt (Nat.lt_of_lt_of_le (Heap.lt_size e) I.ok.above))).trans e1⟩
    · obtain ⟨o', e1⟩ := I.base.there b o e hx
      exact ⟨o', (hs.2 b (Nat.ne_of_lt (Nat.lt_of_lt_of_le (Heap.lt_size e) I.ok.above))).trans e1⟩
    · by_cases hj : j = i
      · subst hj
        rw [hi] at e1; cases e1
        rw [List.getElem?_set_self hiσ] at e2
        cases e2
        exact ⟨u, r, .inl ⟨hk, by simp⟩⟩
      · rw [List.getElem?_set_ne (Ne.symm hj)] at e2
        obtain ⟨u', r', q⟩ := hl j y v' e1 e2 e3
        refine ⟨u', r', ?_⟩
        rcases q with ⟨k, e⟩ | ⟨k, c, e, z⟩
        · refine .inl ⟨k, ?_⟩
          have : y ≠ x := fun e => hj (nodup_ix hN e1 (e ▸ hi))
          simp [this, e]
        · exact .inr ⟨k, c, e, z.sameBut hs (cne y c e)⟩
    · obtain ⟨w', z⟩ := I.cell y c e
      exact ⟨w', z.sameBut hs (cne y c e)⟩
    · obtain ⟨e, n, ne, nf, d⟩ := I.pin p hp
      exact ⟨(hs.2 p.1 ne).trans e, n, ne, nf, d⟩
  · have hfn : X.fn x = true := by
      rcases hf with z | z
      · exact z
      · rw [z] at hk; cases hk
    obtain ⟨c, hc⟩ := I.ok.has x (.inl hk)
    obtain ⟨w', z⟩ := I.cell x c hc
    refine wpAny_storeName_cell I.ok.kind hk hc z (fun h' hc' hs => ?_)
    obtain ⟨oc, hoc, hocd⟩ := id z
    refine h { s with heap := h' } ⟨I.ok, I.os, I.bare, ⟨fun b o e n hb hx => ?_, fun b o e n hb hx => ?_, I.base.free, fun b o e hx => ?_, I.base.tups, I.base.frzs, I.base.tbls⟩, ⟨m, hn.sameBut hs (Ne.symm (cne x c hc)), fun j y v' e1 e2 e3 => ?_⟩, fun y c' e => ?_, I.free, I.freeC, fun p hp => ?_, tracked ⟨oc, hoc, I.freeC x c hc⟩ hs, by simpa using I.len⟩ ⟨c, hs, .inr hc⟩
    · exact (hs.2 b (Nat.ne_of_lt (Nat.lt_of_lt_of_le (Heap.lt_size e) (I.ok.cab x c hfn hc)))).trans (I.base.keep b o e n hb hx)
    · obtain ⟨sl, e1⟩ := I.base.slot b o e n hb hx
      exact ⟨sl, (hs.2 b (Nat.ne_of_lt (Nat.lt_of_lt_of_le (Heap.lt_size e) (I.ok.cab x c hfn hc)))).trans e1⟩
    · obtain ⟨o', e1⟩ := I.base.there b o e hx
      exact ⟨o', (hs.2 b (Nat.ne_of_lt (Nat.lt_of_lt_of_le (Heap.lt_size e) (I.ok.cab x c hfn hc)))).trans e1⟩
    · by_cases hj : j = i
      · subst hj
        rw [hi] at e1; cases e1
        rw [List.getElem?_set_self hiσ] at e2
        cases e2
        exact ⟨u, r, .inr ⟨.inl hk, c, hc, hc'⟩⟩
      · rw [List.getElem?_set_ne (Ne.symm hj)] at e2
        obtain ⟨u', r', q⟩ := hl j y v' e1 e2 e3
        refine ⟨u', r', ?_⟩
        rcases q with q | ⟨k, c', e, z'⟩
        · exact .inl q
        · refine .inr ⟨k, c', e, z'.sameBut hs ?_⟩
          rintro rfl
          exact hj (nodup_ix hN e1 (I.ok.inj _ _ _ e hc ▸ hi))
    · by_cases hcc : c' = c
      · subst hcc; exact ⟨_, hc'⟩
      · obtain ⟨w2, z2⟩ := I.cell y c' e
        exact ⟨w2, z2.sameBut hs hcc⟩
    · obtain ⟨e, n, ne, nf, d⟩ := I.pin p hp
      refine ⟨(hs.2 p.1 ?_).trans e, n, ne, nf, d⟩
      intro q
      rw [q, hoc] at e
      have q' : oc = p.2 := Option.some.inj e
      exact d w' (by rw [← q']; exact hocd)
theorem store_ok {M : Model} {A : Around} {E : Value → Shared → Prop} {i : Nat} {x : Str} {v : V} {u : Value} {Q : Unit → Shared → Prop} (I : Inv X pins σ H s) (hN : X.N.Nodup) (hi : X.N[i]? = some x) (hx : Loc X.env.scope x) (r : RelV v u)
    (h : ∀ s', Inv X pins (σ.set i (some v)) H s' → Q () s') (hf : X.fn x = true ∨ X.env.scope.names.lookup x = some .local := by first | exact .inl rfl | exact .inr rfl | assumption) : wpAny M A (storeName X.env x u) Q E s :=
  store_ok2 I hN hi hx r (fun s' I' _ => h s' I') hf
theorem Inv.call' {s' : Shared} {ch : List Addr} (I : Inv X pins σ H s) (ho : s'.os = s.os) (u : Un (frs X.stack) ch H H' s.heap s'.heap) (hok : HOk X.prog X.w H' s'.heap) (hg : AllBare s'.gens)
    (hch : ∀ b ∈ ch, (b ∈ X.ex ∨ X.s₀.heap.objs.size ≤ b) ∧ b ≠ X.env.locals ∧ (∀ x c, X.env.cells.lookup x = some c → c ≠ b) ∧ ∀ p ∈ X.pn ++ pins, p.1 ≠ b) : Inv X pins σ H' s' := by
  obtain ⟨h', g', d', t', o'⟩ := s'
  have e : o' = s.os := ho
  subst e
  exact I.call (g' := g') (t' := t') (d' := d') u hok hg hch
end

abbrev XK := Value → Option Addr → Hp → Prop
abbrev St := List (Option V)
abbrev VK := V → Hp → Prop
abbrev TE := St → Hp → VK → Prop
abbrev TT := St → Hp → (Bool → Hp → Prop) → Prop
abbrev TA := St → Hp → (List V → Hp → Prop) → Prop
structure Ends where
  nx : St → Hp → Prop
  rt : VK
  bk : St → Hp → Prop := fun _ _ => False
  ct : St → Hp → Prop := fun _ _ => False
abbrev TS := Ends → St → Hp → Prop

def EP (X : Cx) (pins : List (Addr × Obj)) (σ : St) (Q : VK) (u : Value) (s' : Shared) : Prop := ∃ v H', Inv X pins σ H' s' ∧ RelV v u ∧ Q v H'
def TP (X : Cx) (pins : List (Addr × Obj)) (σ : St) (Q : Bool → Hp → Prop) (b : Bool) (s' : Shared) : Prop := ∃ H', Inv X pins σ H' s' ∧ Q b H'
def AP (X : Cx) (pins : List (Addr × Obj)) (σ : St) (Q : List V → Hp → Prop) (us : List Value) (s' : Shared) : Prop := ∃ vs H', Inv X pins σ H' s' ∧ Vals vs us ∧ Q vs H'
def SP (X : Cx) (pins : List (Addr × Obj)) (D : Ends) (f : Flow) (s' : Shared) : Prop :=
  match f with
  | .next => ∃ σ' H', Inv X pins σ' H' s' ∧ D.nx σ' H'
  | .brk => ∃ σ' H', Inv X pins σ' H' s' ∧ D.bk σ' H'
  | .cont => ∃ σ' H', Inv X pins σ' H' s' ∧ D.ct σ' H'
  | .ret u => ∃ v σ' H', Inv X pins σ' H' s' ∧ RelV v u ∧ D.rt v H'

def PE (X : Cx) (e : Expr) (t : TE) : Prop :=
  ∀ (pins : List (Addr × Obj)) (s : Shared) (σ : St) (H : Hp) (Q : VK), Inv X pins σ H s → t σ H Q → wpAny (model X.prog X.w) X.A (eval e X.env) (EP X pins σ Q) X.xe s
def PT (X : Cx) (e : Expr) (t : TT) : Prop :=
  ∀ (pins : List (Addr × Obj)) (s : Shared) (σ : St) (H : Hp) (Q : Bool → Hp → Prop), Inv X pins σ H s → t σ H Q → wpAny (model X.prog X.w) X.A (isTrue e X.env (eval e X.env)) (TP X pins σ Q) X.xe s
def PW (X : Cx) (e : Expr) (t : TT) : Prop :=
  ∀ (whole : Sem Value) (pins : List (Addr × Obj)) (s : Shared) (σ : St) (H : Hp) (Q : Bool → Hp → Prop), Inv X pins σ H s → t σ H Q → wpAny (model X.prog X.w) X.A (isTrue e X.env whole) (TP X pins σ Q) X.xe s
theorem PW.pt {X : Cx} {e : Expr} {t : TT} (h : PW X e t) : PT X e t := h _
def PA (X : Cx) (es : List Expr) (t : TA) : Prop :=
  ∀ (pos : Pos) (pins : List (Addr × Obj)) (s : Shared) (σ : St) (H : Hp) (Q : List V → Hp → Prop), Inv X pins σ H s → t σ H Q → wpAny (model X.prog X.w) X.A (spliced (backTo pos (starEach es X.env))) (AP X pins σ Q) X.xe s
def PS (X : Cx) (st : Stmt) (t : TS) : Prop :=
  ∀ (pins : List (Addr × Obj)) (s : Shared) (σ : St) (H : Hp) (D : Ends), Inv X pins σ H s → t D σ H → wpAny (model X.prog X.w) X.A (exec st X.env) (SP X pins D) X.xe s
def PSs (X : Cx) (st : List Stmt) (t : TS) : Prop :=
  ∀ (pins : List (Addr × Obj)) (s : Shared) (σ : St) (H : Hp) (D : Ends), Inv X pins σ H s → t D σ H → wpAny (model X.prog X.w) X.A (execs st X.env) (SP X pins D) X.xe s
theorem thn {α : Type} {t : Sem α} {Q Q' : α → Shared → Prop} {M : Model} {A : Around} {E : Value → Shared → Prop} {s : Shared} (h : wpAny M A t Q E s) (hQ : ∀ a s, Q a s → Q' a s) : wpAny M A t Q' E s := wpAny_mono h hQ fun _ _ x => x
end L2

namespace L2
open PySem PySem.Spec PyProof.Rows
section
variable {X : Cx}

def tVar (i : Nat) : TE := fun σ H Q => ∃ v, σ[i]? = some (some v) ∧ Q v H
def tC (v : V) : TE := fun _ H Q => Q v H
theorem pe_var {i : Nat} {x : Str} {pos : Pos} (hN : X.N[i]? = some x) (hv : Vis X.env.scope x) (hd : (x == ("__debug__" : Str)) = false := by decide) (hcd : (x == ("__classdict__" : Str)) = false := by decide) : PE X (.Name x pos) (tVar i) := by
  intro pins s σ H Q I h
  obtain ⟨v, e, h⟩ := h
  obtain ⟨m, hn, hl⟩ := I.loc
  obtain ⟨u, r, l⟩ := hl i x v hN e hv
  have fin : EP X pins σ Q u s := ⟨v, H, I, r, h⟩
  rcases l with ⟨hk, hm⟩ | ⟨hk, c, hc, hcell⟩
  · exact wpAny_Name (wpAny_loadName_local I.ok.kind hk hn hm fin) hd
  · rcases hk with hk | hk
    · exact wpAny_Name (wpAny_loadName_cell I.ok.kind hk hc hcell fin) hd
    · exact wpAny_Name (wpAny_loadName_free I.ok.kind hk hc hcell fin hcd) hd
theorem pe_int {i j pos} : PE X (.Constant (.int i) j pos) (tC (.int i)) := fun _ _ _ H _ I h => wpAny_Constant_int ⟨.int i, H, I.tok _, ⟨_, rfl⟩, h⟩
theorem pe_bl {b j pos} : PE X (.Constant (.bool b) j pos) (tC (.bl b)) := fun _ _ _ H _ I h => Constant_bool ⟨.bl b, H, I, rfl, h⟩
theorem pe_str {x j pos} : PE X (.Constant (.str x) j pos) (tC (.str x)) := fun _ _ _ H _ I h => Calls.Constant_str ⟨.str x, H, I.tok _, ⟨_, rfl⟩, h⟩

def Gl (X : Cx) (x : Str) : Prop := X.env.kindOf x = some .globalImplicit
theorem ld_glob {E : Value → Shared → Prop} {pins : List (Addr × Obj)} {s : Shared} {σ : St} {H : Hp} {x : Str} {u : Value} {pos : Pos} {Q : Value → Shared → Prop} (I : Inv X pins σ H s) (hg : Gl X x) (hm : X.mg x = some u) (h : Q u s)
    (hd : (x == ("__debug__" : Str)) = false := by decide) : wpAny (model X.prog X.w) X.A (eval (.Name x pos) X.env) Q E s :=
  Calls.Name_function_global I.ok.kind hg (Calls.loadGlobal_global (by rw [I.ok.glob]; exact I.mod.glob.keeps I.bk) hm h) hd
theorem ld_blt {E : Value → Shared → Prop} {pins : List (Addr × Obj)} {s : Shared} {σ : St} {H : Hp} {x : Str} {u : Value} {pos : Pos} {Q : Value → Shared → Prop} (I : Inv X pins σ H s) (hg : Gl X x) (hm : X.mg x = none) (hv : bootBuiltins x = some u) (h : Q u s)
    (hn : x ≠ "__name__" := by decide) (hd : (x == ("__debug__" : Str)) = false := by decide) : wpAny (model X.prog X.w) X.A (eval (.Name x pos) X.env) Q E s := by
  obtain ⟨mb, h1, h2⟩ := I.mod.blt
  exact Calls.Name_function_global I.ok.kind hg (Calls.loadGlobal_builtin (by rw [I.ok.glob]; exact I.mod.glob.keeps I.bk) hm (by rw [I.ok.blt]; exact h1.keeps I.bk) ((h2 x hn).trans hv) h) hd
theorem pe_glob {x : Str} {v : V} {u : Value} {pos : Pos} (hg : Gl X x) (hm : X.mg x = some u) (r : RelV v u) (hd : (x == ("__debug__" : Str)) = false := by decide) : PE X (.Name x pos) (tC v) :=
  fun _ _ _ H _ I h => ld_glob I hg hm ⟨v, H, I, r, h⟩ hd
theorem pe_bltn {x : Str} {v : V} {u : Value} {pos : Pos} (hg : Gl X x) (hm : X.mg x = none) (hv : bootBuiltins x = some u) (r : RelV v u) (hn : x ≠ "__name__" := by decide) (hd : (x == ("__debug__" : Str)) = false := by decide) : PE X (.Name x pos) (tC v) :=
  fun _ _ _ H _ I h => ld_blt I hg hm hv ⟨v, H, I, r, h⟩ hn hd

def t2I (ta tb : TE) (k : Int → Int → Hp → Prop) : St → Hp → Prop := fun σ H => ta σ H fun x H1 => tb σ H1 fun y H2 => ∃ i j, x = .int i ∧ y = .int j ∧ k i j H2
def tAdd (ta tb : TE) : TE := fun σ H Q => t2I ta tb (fun i j H2 => Q (.int (i + j)) H2) σ H
def tSub (ta tb : TE) : TE := fun σ H Q => t2I ta tb (fun i j H2 => Q (.int (i - j)) H2) σ H
def tMul (ta tb : TE) : TE := fun σ H Q => t2I ta tb (fun i j H2 => (-(2 ^ 64) < i ∧ i < 2 ^ 64) ∧ Q (.int (i * j)) H2) σ H
variable {a b : Expr} {ta tb : TE} {pos : Pos}
def PC (X : Cx) (op : CmpOp) (a b : Expr) (t : TE) : Prop :=
  ∀ (pins : List (Addr × Obj)) (s : Shared) (σ : St) (H : Hp) (Q : VK), Inv X pins σ H s → t σ H Q →
    wpAny (model X.prog X.w) X.A (eval a X.env) (fun v s₁ => wpAny (model X.prog X.w) X.A (eval b X.env) (fun u s₂ => wpAny (model X.prog X.w) X.A (compareOp op v u) (EP X pins σ Q) X.xe s₂) X.xe s₁) X.xe s
def tCmp (p : Int → Int → Bool) (ta tb : TE) : TE := fun σ H Q => t2I ta tb (fun i j H2 => Q (.bl (p i j)) H2) σ H
abbrev tLt : TE → TE → TE := tCmp fun i j => decide (i < j)
abbrev tLe : TE → TE → TE := tCmp fun i j => decide (i ≤ j)
abbrev tGt : TE → TE → TE := tCmp fun i j => decide (j < i)
abbrev tGe : TE → TE → TE := tCmp fun i j => decide (j ≤ i)
abbrev tEqI : TE → TE → TE := tCmp fun i j => decide (i = j)
abbrev tNeI : TE → TE → TE := tCmp fun i j => !decide (i = j)
def tIsN (ta : TE) : TE := fun σ H Q => ta σ H fun x H1 => Q (.bl (decide (x = .non))) H1
def tNotN (ta : TE) : TE := fun σ H Q => ta σ H fun x H1 => Q (.bl (!decide (x = .non))) H1
def tB (t : TE) : TT := fun σ H Q => t σ H fun x H1 => ∃ c, x = .bl c ∧ Q c H1
theorem pt_val {e : Expr} {t : TE} (h : PE X e t) (he : ∀ whole, isTrue e X.env whole = (do let v ← whole; standAt e.pos; holding [v] (truthy v)) := by intro _; rfl) : PT X e (tB t) := by
  intro pins s σ H Q I hw
  refine isTrue_plain (thn (h pins s σ H _ I hw) fun v s1 ⟨x, H1, I1, r1, q1⟩ => ?_) (he _)
  obtain ⟨d, rfl, q⟩ := q1
  cases r1
  exact wpAny_truthy_bool ⟨H1, I1, q⟩

variable {tA tB' : TT} {rest : List Expr}
def tAnd (t u : TT) : TT := fun σ H Q => t σ H fun c H1 => if c = true then u σ H1 Q else Q false H1
def tOr (t u : TT) : TT := fun σ H Q => t σ H fun c H1 => if c = true then Q true H1 else u σ H1 Q
def tNot (t : TT) : TT := fun σ H Q => t σ H fun c H1 => Q (!c) H1
theorem pw_or1 (ha : PT X a tA) : PW X (.BoolOp .Or [a] pos) tA := by
  intro wh pins s σ H Q I h
  refine isTrue_or (thn (ha pins s σ H Q I h) fun c s1 e => ?_)
  cases c with
  | false => exact isTrue_or_nil e
  | true => exact e
theorem pw_or (ha : PT X a tA) (hb : PW X (.BoolOp .Or (b :: rest) pos) tB') : PW X (.BoolOp .Or (a :: b :: rest) pos) (tOr tA tB') := by
  intro wh pins s σ H Q I h
  refine isTrue_or (thn (ha pins s σ H _ I h) fun c s1 ⟨H1, I1, q1⟩ => ?_)
  cases c with
  | true => exact ⟨H1, I1, q1⟩
  | false => exact hb wh pins s1 σ H1 Q I1 q1
theorem pt_not (ha : PT X a tA) : PT X (.UnaryOp .Not a pos) (tNot tA) := by
  intro pins s σ H Q I h
  exact isTrue_not (ha pins s σ H (fun c H1 => Q (!c) H1) I h)
def tAndV (ta tb : TE) : TE := fun σ H Q => ta σ H fun x H1 => ∃ c, x = .bl c ∧ if c = true then tb σ H1 Q else Q (.bl false) H1
def tOrV (ta tb : TE) : TE := fun σ H Q => ta σ H fun x H1 => ∃ c, x = .bl c ∧ if c = true then Q (.bl true) H1 else tb σ H1 Q
def tNotV (ta : TE) : TE := fun σ H Q => ta σ H fun x H1 => ∃ c, x = .bl c ∧ Q (.bl (!c)) H1
theorem pe_one {op} {t : TE} (h : PE X a t) : PE X (.BoolOp op [a] pos) t := fun pins s σ H Q I hw => BoolOp_one (h pins s σ H Q I hw)
theorem pe_and (ha : PE X a ta) (hb : PE X (.BoolOp .And (b :: rest) pos) tb) : PE X (.BoolOp .And (a :: b :: rest) pos) (tAndV ta tb) := by
  intro pins s σ H Q I h
  refine BoolOp_and (thn (ha pins s σ H _ I h) fun v s1 ⟨x, H1, I1, r1, q1⟩ => ?_)
  obtain ⟨c, rfl, q1⟩ := q1
  cases r1
  refine wpAny_truthy_bool ?_
  cases c with
  | true => exact hb pins s1 σ H1 Q I1 q1
  | false => exact ⟨.bl false, H1, I1, rfl, q1⟩
theorem pe_not (ha : PE X a ta) : PE X (.UnaryOp .Not a pos) (tNotV ta) := by
  intro pins s σ H Q I h
  refine UnaryOp_ (thn (ha pins s σ H _ I h) fun v s1 ⟨x, H1, I1, r1, q1⟩ => ?_)
  obtain ⟨c, rfl, q1⟩ := q1
  cases r1
  exact not_of (wpAny_truthy_bool ⟨.bl (!c), H1, I1, rfl, q1⟩)
def tIf (t : TT) (ta tb : TE) : TE := fun σ H Q => t σ H fun c H1 => if c = true then ta σ H1 Q else tb σ H1 Q
end
end L2

namespace L2
open PySem PySem.Spec PyProof.Rows

def SqL (K : PySem.W.Frag) (H : Hp) (a : Addr) (xs : List V) : Prop :=
  Rd H a (.lst xs) ∨
    ∃ (o : Obj) (its : Array Value) (n : Nat), K.lookup a = some o ∧ o.cls = .type "list" ∧ o.dict = none ∧ o.data = .seq its n ∧ its.size ≤ sizeLine ∧ Vals xs its.toList
def SqT (K : PySem.W.Frag) (H : Hp) (a : Addr) (xs : List V) : Prop :=
  Rd H a (.tup xs) ∨
    ∃ (o : Obj) (its : Array Value) (n : Nat), K.lookup a = some o ∧ o.cls = .type "tuple" ∧ o.data = .seq its n ∧ its.size ≤ sizeLine ∧ Vals xs its.toList
def absV : Value → Option V
  | .none => some .non
  | .bool b => some (.bl b)
  | .int i _ => some (.int i)
  | .str x _ => some (.str x)
  | .bytes b _ => some (.byt b)
  | .float b _ => some (.flt b)
  | .ref a => some (.ref a)
  | .type n => some (.ty n)
  | _ => none
section
variable {X : Cx} {pins : List (Addr × Obj)} {σ : St} {H : Hp} {s : Shared} {a : Addr} {xs ys : List V}
theorem SqL.of {K : PySem.W.Frag} (h : H a = some (.lst xs)) : SqL K H a xs := .inl (.inl h)
theorem SqT.of {K : PySem.W.Frag} (h : H a = some (.tup xs)) : SqT K H a xs := .inl (.inl h)
theorem Inv.list (I : Inv X pins σ H s) (h : SqL X.K H a xs) : ∃ its : List Value, Vals xs its ∧ PlainL s.heap a its.toArray ∧ xs.length ≤ sizeLine := by
  rcases h with h | ⟨o, its, n, hk, hc, hd, hs, hz, r⟩
  · obtain ⟨z, its, n, r, e⟩ := h.ok I.hok
    exact ⟨its, r, ⟨_, n, e, rfl, rfl, rfl⟩, z⟩
  · refine ⟨its.toList, r, ⟨o, n, I.kIn a o hk, hc, hd, by simpa using hs⟩, ?_⟩
    have e := r.length
    simp only [Array.length_toList] at e
    omega
theorem Inv.tuple (I : Inv X pins σ H s) (h : SqT X.K H a xs) : ∃ its : List Value, Vals xs its ∧ IsTup s.heap a its.toArray ∧ xs.length ≤ sizeLine := by
  rcases h with h | ⟨o, its, n, hk, hc, hs, hz, r⟩
  · obtain ⟨z, its, r, p⟩ := h.ok I.hok
    exact ⟨its, r, p, z⟩
  · refine ⟨its.toList, r, ⟨o, I.kIn a o hk, hc, n, by simpa using hs⟩, ?_⟩
    have e := r.length
    simp only [Array.length_toList] at e
    omega
end

abbrev Cx.wish (X : Cx) (E : Value → Shared → Prop) : Cx := { X with xe := E }
abbrev Cx.nox (X : Cx) : Cx := X.wish fun _ _ => False
theorem Cx.Ok.wish {X : Cx} (ok : X.Ok) (E : Value → Shared → Prop) : (X.wish E).Ok :=
  ⟨ok.mod, ok.kind, ok.glob, ok.blt, ok.above, ok.inj, ok.has, ok.cab, ok.hd, ok.frames, ok.stk, ok.exf, ok.bs, ok.bsz, ok.noex, ok.exfs, ok.funs, ok.frf⟩
theorem Cx.Ok.unwish {X : Cx} {E : Value → Shared → Prop} (ok : (X.wish E).Ok) : X.Ok :=
  ⟨ok.mod, ok.kind, ok.glob, ok.blt, ok.above, ok.inj, ok.has, ok.cab, ok.hd, ok.frames, ok.stk, ok.exf, ok.bs, ok.bsz, ok.noex, ok.exfs, ok.funs, ok.frf⟩
section
variable {X : Cx} {pins : List (Addr × Obj)} {σ : St} {H : Hp} {s : Shared} {E : Value → Shared → Prop}
theorem Inv.wish (I : Inv X pins σ H s) (E : Value → Shared → Prop) : Inv (X.wish E) pins σ H s := ⟨I.ok.wish E, I.os, I.bare, I.base, I.loc, I.cell, I.free, I.freeC, I.pin, I.hok, I.len⟩
theorem Inv.unwish (I : Inv (X.wish E) pins σ H s) : Inv X pins σ H s := ⟨I.ok.unwish, I.os, I.bare, I.base, I.loc, I.cell, I.free, I.freeC, I.pin, I.hok, I.len⟩
theorem SP.unwish {D : Ends} {f : Flow} {s' : Shared} (h : SP (X.wish E) pins D f s') : SP X pins D f s' := by
  cases f with
  | next => obtain ⟨σ', H', I, q⟩ := h; exact ⟨σ', H', I.unwish, q⟩
  | brk => obtain ⟨σ', H', I, q⟩ := h; exact ⟨σ', H', I.unwish, q⟩
  | cont => obtain ⟨σ', H', I, q⟩ := h; exact ⟨σ', H', I.unwish, q⟩
  | ret u => obtain ⟨v, σ', H', I, r, q⟩ := h; exact ⟨v, σ', H', I.unwish, r, q⟩
theorem PSs.nox {st : List Stmt} {t : TS} (h : PSs X.nox st t) : PSs X st t := fun pins s σ H D I hw =>
  wpAny_mono (h pins s σ H D (I.wish _) hw) (fun _ _ q => q.unwish) fun _ _ z => False.elim z
end

section
variable {X : Cx} {st : Stmt} {rest : List Stmt} {t u : TS} {e : Expr} {te : TE} {pos : Pos}
def tNext : TS := fun D σ H => D.nx σ H
def tSeq (t u : TS) : TS := fun D σ H => t { D with nx := u D } σ H
theorem pss_nil : PSs X [] tNext := fun _ _ σ H _ I h => wpAny_execs_nil ⟨σ, H, I, h⟩
theorem pss_cons (h1 : PS X st t) (h2 : PSs X rest u) : PSs X (st :: rest) (tSeq t u) := by
  intro pins s σ H D I h
  refine wpAny_execs_cons (thn (h1 pins s σ H { D with nx := u D } I h) fun f s1 q => ?_)
  cases f with
  | next =>
    obtain ⟨σ', H', I', q⟩ := q
    exact h2 pins s1 σ' H' D I' q
  | ret v => exact q
  | brk => exact q
  | cont => exact q
theorem pss_one (h1 : PS X st t) : PSs X [st] t := by
  intro pins s σ H D I h
  refine wpAny_execs_cons (thn (h1 pins s σ H D I h) fun f s1 q => ?_)
  cases f with
  | next => exact wpAny_execs_nil q
  | ret v => exact q
  | brk => exact q
  | cont => exact q
def tBreak : TS := fun D σ H => D.bk σ H
def tCont : TS := fun D σ H => D.ct σ H
theorem Inv.quiet {pins : List (Addr × Obj)} {σ : St} {H : Hp} {s : Shared} (I : Inv X pins σ H s) : interactive X.env = false := by simp [interactive, I.ok.kind]
def tDrop (te : TE) : TS := fun D σ H => te σ H fun _ H1 => D.nx σ H1
theorem ps_expr (he : PE X e te) (hs : swapsWith e none pos.line X.env = pure false := by rfl) : PS X (.Expr e pos) (tDrop te) := by
  intro pins s σ H D I h
  exact wpAny_Expr_any (thn (he pins s σ H _ I h) fun v s1 ⟨x, H1, I1, r1, q1⟩ => ⟨σ, H1, I1, q1⟩) I.quiet hs
def tRet (te : TE) : TS := fun D σ H => te σ H D.rt
theorem ps_ret (he : PE X e te) : PS X (.Return (some e) pos) (tRet te) := by
  intro pins s σ H D I h
  exact wpAny_Return_some (thn (he pins s σ H _ I h) fun v s1 ⟨x, H1, I1, r1, q1⟩ => ⟨x, σ, H1, I1, r1, q1⟩)
def tRetN : TS := fun D _ H => D.rt .non H
def tIfS (c : TT) (t u : TS) : TS := fun D σ H => c σ H fun b H1 => if b = true then t D σ H1 else u D σ H1
theorem ps_if {c : Expr} {a b : List Stmt} {tc : TT} (hc : PT X c tc) (ha : PSs X a t) (hb : PSs X b u) : PS X (.If c a b pos) (tIfS tc t u) := by
  intro pins s σ H D I h
  refine wpAny_If (thn (hc pins s σ H _ I h) fun d s1 ⟨H1, I1, q1⟩ => ?_)
  cases d with
  | true => exact ha pins s1 σ H1 D I1 q1
  | false => exact hb pins s1 σ H1 D I1 q1
def tNever : TS := fun _ _ _ => False
end

abbrev TG := V → St → Hp → (St → Hp → Prop) → Prop
abbrev TGs := List V → St → Hp → (St → Hp → Prop) → Prop
def PG (X : Cx) (target : Expr) (t : TG) : Prop :=
  ∀ (pins : List (Addr × Obj)) (s : Shared) (σ : St) (H : Hp) (v : V) (u : Value) (Q : St → Hp → Prop), Inv X pins σ H s → RelV v u → t v σ H Q →
    wpAny (model X.prog X.w) X.A (assign target X.env u) (fun _ s' => ∃ σ' H', Inv X pins σ' H' s' ∧ Q σ' H') X.xe s
def PGs (X : Cx) (ts : List Expr) (t : TGs) : Prop :=
  ∀ (pins : List (Addr × Obj)) (s : Shared) (σ : St) (H : Hp) (vs : List V) (us : List Value) (Q : St → Hp → Prop), Inv X pins σ H s → Vals vs us → t vs σ H Q →
    wpAny (model X.prog X.w) X.A (assignInOrder ((assignEach ts X.env).map (·.2)) us) (fun _ s' => ∃ σ' H', Inv X pins σ' H' s' ∧ Q σ' H') X.xe s
abbrev TSet := V → V → V → Hp → (Hp → Prop) → Prop
def PSet (X : Cx) (t : TSet) : Prop :=
  ∀ (pins : List (Addr × Obj)) (s : Shared) (σ : St) (H : Hp) (o i v : V) (ov iv u : Value) (Q : Hp → Prop), Inv X pins σ H s → RelV o ov → RelV i iv → RelV v u → t o i v H Q →
    wpAny (model X.prog X.w) X.A (setItem ov iv u) (fun _ s' => ∃ H', Inv X pins σ H' s' ∧ Q H') X.xe s
abbrev TIp := V → V → Hp → VK → Prop
def PIp (X : Cx) (op : Operator) (t : TIp) : Prop :=
  ∀ (pins : List (Addr × Obj)) (s : Shared) (σ : St) (H : Hp) (x y : V) (v u : Value) (Q : VK), Inv X pins σ H s → RelV x v → RelV y u → t x y H Q →
    wpAny (model X.prog X.w) X.A (inplaceOp op v u) (EP X pins σ Q) X.xe s
section
variable {X : Cx} {pos : Pos}
def gName (i : Nat) : TG := fun v σ H Q => Q (σ.set i (some v)) H
theorem pg_name {i : Nat} {x : Str} (hN : X.N.Nodup) (hi : X.N[i]? = some x) (hx : Loc X.env.scope x) (hf : X.fn x = true ∨ X.env.scope.names.lookup x = some .local := by first | exact .inl rfl | exact .inr rfl | assumption) : PG X (.Name x pos) (gName i) := by
  intro pins s σ H v u Q I r h
  exact wpAny_assign_Name (store_ok I hN hi hx r (fun s' I' => ⟨_, H, I', h⟩) hf)
def gNil : TGs := fun vs σ H Q => vs = [] ∧ Q σ H
def gCons (t : TG) (u : TGs) : TGs := fun vs σ H Q => ∃ v r, vs = v :: r ∧ t v σ H fun σ' H' => u r σ' H' Q
theorem pgs_nil : PGs X [] gNil := by
  intro pins s σ H vs us Q I r h
  obtain ⟨e, h⟩ := h
  subst e
  cases r
  exact assignInOrder_nil ⟨σ, H, I, h⟩
theorem pgs_cons {e : Expr} {es : List Expr} {t : TG} {u : TGs} (h1 : PG X e t) (h2 : PGs X es u)
    (hs : (assignEach (e :: es) X.env).map (·.2) = assign e X.env :: (assignEach es X.env).map (·.2) := by rfl) : PGs X (e :: es) (gCons t u) := by
  intro pins s σ H vs us Q I r h
  obtain ⟨v, vr, e1, h⟩ := h
  subst e1
  cases r with
  | cons r rr =>
    rw [hs]
    refine assignInOrder_cons (thn (h1 pins s σ H _ _ _ I r h) fun _ s1 ⟨σ1, H1, I1, q1⟩ => ?_)
    exact h2 pins s1 σ1 H1 _ _ Q I1 rr q1
def gTup (K : PySem.W.Frag) (n : Nat) (t : TGs) : TG := fun v σ H Q => ∃ a xs, v = .ref a ∧ SqT K H a xs ∧ xs.length = n ∧ t xs σ H Q
theorem pg_tup {es : List Expr} {k : Nat} {t : TGs} {n : Nat} (hc : X.calm = true) (h : PGs X es t)
    (hn : (assignEach es X.env).length = n := by rfl) (hst : (assignEach es X.env).findIdx? (·.1) = none := by rfl) : PG X (.Tuple es k pos) (gTup X.K n t) := by
  intro pins s σ H v u Q I r hw
  obtain ⟨a, xs, e1, hq, hl, hw⟩ := hw
  subst e1
  cases r
  obtain ⟨its, rv, ht, hz⟩ := I.tuple hq
  refine assign_Tuple_tuple (I.ok.hd hc) ht (by simp [hn, ← hl, rv.length]) hst fun h' hx => ?_
  have I1 : Inv X pins σ H { s with heap := h' } := I.kept (t' := s.toks) fun b o e => hx b o (Nat.ne_of_lt (Heap.lt_size e)) e
  exact h pins _ σ H xs _ Q I1 (by simpa using rv) hw
def gSub (to ti : TE) (t : TSet) : TG := fun v σ H Q => to σ H fun o H1 => ti σ H1 fun i H2 => t o i v H2 fun H3 => Q σ H3
def tAsg (te : TE) (g : TG) : TS := fun D σ H => te σ H fun x H1 => g x σ H1 D.nx
theorem ps_asg {tg e : Expr} {te : TE} {g : TG} (he : PE X e te) (hg : PG X tg g) (hs : swapsWithSole [tg] e pos.line X.env = pure false := by rfl) (hw : swappedStores [tg] e X.env = pure none := by rfl)
    (h1 : (assignEach [tg] X.env).map (·.2) = [assign tg X.env] := by rfl) : PS X (.Assign [tg] e pos) (tAsg te g) := by
  intro pins s σ H D I h
  refine wpAny_Assign_stores (thn (he pins s σ H _ I h) fun v s1 ⟨x, H1, I1, r1, q1⟩ => ?_) hs hw
  rw [h1]
  exact thn (hg pins s1 σ H1 x v _ I1 r1 q1) fun _ s2 q => q
theorem ps_set {i : Nat} {x : Str} {e : Expr} {te : TE} {pos' : Pos} (hN : X.N.Nodup) (hi : X.N[i]? = some x) (hx : Loc X.env.scope x) (he : PE X e te) (hs : swapsWith e (some (.Name x pos')) pos.line X.env = pure false := by rfl) (hf : X.fn x = true ∨ X.env.scope.names.lookup x = some .local := by first | exact .inl rfl | exact .inr rfl | assumption) :
    PS X (.Assign [.Name x pos'] e pos) (tAsg te (gName i)) := by
  intro pins s σ H D I h
  refine wpAny_Assign_Name (thn (he pins s σ H _ I h) fun v s1 ⟨y, H1, I1, r1, q1⟩ => ?_) hs
  exact store_ok I1 hN hi hx r1 (fun s2 I2 => ⟨_, H1, I2, q1⟩) hf
def tPar (i j : Nat) (ta : TA) : TS := fun D σ H => ta σ H fun vs H1 => ∃ v w, vs = [v, w] ∧ D.nx ((σ.set i (some v)).set j (some w)) H1
theorem ps_par {i j : Nat} {x y : Str} {a b : Expr} {ta : TA} {px py pt : Pos} {kt k2 pt2} (hc : X.calm = true) (hN : X.N.Nodup) (hi : X.N[i]? = some x) (hj : X.N[j]? = some y) (hij : i ≠ j)
    (hx : X.env.scope.names.lookup x = some .local) (hy : X.env.scope.names.lookup y = some .local) (ha : PA X [a, b] ta)
    (hw : swappedStores [.Tuple [.Name x px, .Name y py] kt pt] (.Tuple [a, b] k2 pt2) X.env = pure (some [x, y]))
    (hs : swapsWithSole [.Tuple [.Name x px, .Name y py] kt pt] (.Tuple [a, b] k2 pt2) pos.line X.env = pure false := by rfl) :
    PS X (.Assign [.Tuple [.Name x px, .Name y py] kt pt] (.Tuple [a, b] k2 pt2) pos) (tPar i j ta) := by
  intro pins s σ H D I h
  rw [exec_Assign_arm]
  refine wpAny_bind (wpAny_standAt ?_)
  rw [hs]
  refine wpAny_bind (wpAny_pure ?_)
  rw [if_neg (by decide)]
  refine wpAny_bind (Tuple_ (thn (ha _ pins s σ H _ I h) fun us s1 ⟨vs, H1, I1, r1, q1⟩ => ?_))
  obtain ⟨v, w, e1, q1⟩ := q1
  subst e1
  obtain ⟨u1, u2, rfl, rv, rw'⟩ : ∃ u1 u2, us = [u1, u2] ∧ RelV v u1 ∧ RelV w u2 := by
    cases r1 with
    | cons p q =>
      cases q with
      | cons p' q' =>
        cases q'
        exact ⟨_, _, rfl, p, p'⟩
  refine wpAny_newObj_type ?_ (by show 2 ≤ sizeLine; decide)
  have I2 : Inv X pins σ H1 { s1 with heap := s1.heap.push { cls := .type "tuple", data := .seq [u1, u2].toArray } } := I1.kept (t' := s1.toks) fun b o e => Heap.get?_push_of_some _ e
  rw [hw]
  refine wpAny_bind (wpAny_pure ?_)
  show wpAny (model X.prog X.w) X.A (do rule "assign.swapped-stores"; let items ← unpackItems (.ref s1.heap.objs.size) 2 none; assignInOrder [fun v => bindName X.env y v, fun v => bindName X.env x v] items.reverse; pure Flow.next) _ _ _
  refine wpAny_bind (wpAny_rule (wpAny_bind (unpackItems_tuple (items := #[u1, u2]) (I.ok.hd hc) (IsTup.new s1.heap _) fun h' hx' => ?_)))
  have I3 := I2.kept (h' := h') (t' := s1.toks) fun b o e => hx' b o (Nat.ne_of_lt (Heap.lt_size e)) e
  show wpAny _ _ (assignInOrder [fun v => bindName X.env y v, fun v => bindName X.env x v] [u2, u1] >>= fun _ => pure Flow.next) _ _ _
  refine wpAny_bind (assignInOrder_cons (wpAny_bindName (store_ok I3 hN hj (.inl hy) rw' (fun s2 I4 => ?_) (.inr hy))))
  refine assignInOrder_cons (wpAny_bindName (store_ok I4 hN hi (.inl hx) rv (fun s3 I5 => assignInOrder_nil (wpAny_pure ?_)) (.inr hx)))
  rw [List.set_comm _ _ (Ne.symm hij)] at I5
  exact ⟨_, H1, I5, q1⟩
def tAug (i : Nat) (te : TE) (ti : TIp) : TS := fun D σ H => ∃ x, σ[i]? = some (some x) ∧ te σ H fun y H1 => ti x y H1 fun z H2 => D.nx (σ.set i (some z)) H2
def tAugS (to ti te : TE) (tget : V → V → Hp → VK → Prop) (tip : TIp) (tset : TSet) : TS := fun D σ H => to σ H fun o H1 => ti σ H1 fun i H2 => tget o i H2 fun x H3 => te σ H3 fun y H4 => tip x y H4 fun z H5 => tset o i z H5 fun H6 => D.nx σ H6
def PGet (X : Cx) (t : V → V → Hp → VK → Prop) : Prop :=
  ∀ (pins : List (Addr × Obj)) (s : Shared) (σ : St) (H : Hp) (o i : V) (ov iv : Value) (Q : VK), Inv X pins σ H s → RelV o ov → RelV i iv → t o i H Q →
    wpAny (model X.prog X.w) X.A (getItem ov iv) (EP X pins σ Q) X.xe s
def ipI (f : Int → Int → Int) : TIp := fun x y H Q => ∃ i j, x = .int i ∧ y = .int j ∧ Q (.int (f i j)) H
end

section
variable {X : Cx} {pos : Pos}
def tWhile (c : TT) (tb : TS) : TS := fun D σ H => ∃ W : Nat → St → Hp → Prop, (∃ m, W m σ H) ∧ ∀ m σ H, W m σ H →
  c σ H fun b H1 => if b = true then ∃ N : St → Hp → Prop, (∀ σ' H', N σ' H' → ∃ m', m' < m ∧ W m' σ' H') ∧ tb { D with nx := N, ct := N, bk := D.nx } σ H1 else D.nx σ H1
theorem ps_while {c : Expr} {body : List Stmt} {tc : TT} {tb : TS} (hp : PassesOwn (model X.prog X.w) X.A X.env X.xe) (hc : PT X c tc) (hb : PSs X body tb) : PS X (.While c body [] pos) (tWhile tc tb) := by
  intro pins s σ H D I h
  obtain ⟨W, ⟨m0, w0⟩, turn⟩ := h
  refine wpAny_While (codeAny_whileLoop (fun n s' => ∃ σ' H', Inv X pins σ' H' s' ∧ W n σ' H') ?_ m0 ⟨σ, H, I, w0⟩)
  rintro n s1 ⟨σ1, H1, I1, w1⟩
  refine wpAny_passesOwn hp (thn (hc pins s1 σ1 H1 _ I1 (turn n σ1 H1 w1)) fun b s2 ⟨H2, I2, q2⟩ => ?_)
  cases b with
  | true =>
    obtain ⟨N, hN, q2⟩ := q2
    rw [if_pos rfl]
    refine wpAny_passesOwn hp (thn (hb pins s2 σ1 H2 _ I2 q2) fun f s3 q3 => ?_)
    cases f with
    | next =>
      obtain ⟨σ3, H3, I3, n3⟩ := q3
      obtain ⟨m', hm, w3⟩ := hN σ3 H3 n3
      exact ⟨m', hm, σ3, H3, I3, w3⟩
    | cont =>
      obtain ⟨σ3, H3, I3, n3⟩ := q3
      obtain ⟨m', hm, w3⟩ := hN σ3 H3 n3
      exact ⟨m', hm, σ3, H3, I3, w3⟩
    | brk => exact q3
    | ret v => exact q3
  | false =>
    rw [if_neg Bool.false_ne_true]
    exact wpAny_execs_nil ⟨σ1, H2, I2, q2⟩
end

structure It where
  go : Nat → Hp → Prop
  yld : Nat → Hp → V → Hp → Prop
  stop : Nat → Hp → Prop
def FpOk (X : Cx) (pins : List (Addr × Obj)) (H : Hp) (b : Addr) : Prop :=
  H b = none ∧ b ≠ X.env.locals ∧ b ∉ X.fs ∧ (b ∈ X.ex ∨ X.s₀.heap.objs.size ≤ b) ∧ (∀ x c, X.env.cells.lookup x = some c → c ≠ b) ∧ ∀ p ∈ X.pn ++ pins, p.1 ≠ b
structure Turn (P : Program) (w : World) (K : PySem.W.Frag) (tg : Expr) (J : It) (fp : List Addr) (it : Addr) (tn : Nat → Heap → Prop) : Prop where
  mem : it ∈ fp
  obj : ∀ i h, tn i h → ∀ b ∈ fp, ∃ o, h.get? b = some o ∧ ∀ v, o.data ≠ .cell v
  keep : ∀ i h h', tn i h → (∀ b ∈ fp, ∀ o, h.get? b = some o → h'.get? b = some o) → tn i h'
  item : ∀ (X : Cx), X.prog = P → X.w = w → X.K = K → X.calm = true → ∀ (i : Nat) (pins : List (Addr × Obj)) (s : Shared) (σ : St) (H : Hp) (E : Value → Shared → Prop), Inv X pins σ H s → (∀ b ∈ fp, FpOk X pins H b) → tn i s.heap → J.go i H →
    wpAny (model P w) X.A (pyNext (.ref it)) (fun r s1 => ∃ u, r = some u ∧
      wpAny (model P w) X.A (letOwnedTupleGo tg (.ref it) u) (fun _ s2 => ∃ x H', Inv X pins σ H' s2 ∧ RelV x u ∧ J.yld i H x H' ∧ tn (i + 1) s2.heap ∧ ∀ b ∈ fp, H' b = none) E s1) E s
  done : ∀ (X : Cx), X.prog = P → X.w = w → X.K = K → X.calm = true → ∀ (i : Nat) (pins : List (Addr × Obj)) (s : Shared) (σ : St) (H : Hp) (E : Value → Shared → Prop), Inv X pins σ H s → (∀ b ∈ fp, FpOk X pins H b) → tn i s.heap → J.stop i H →
    wpAny (model P w) X.A (pyNext (.ref it)) (fun r s1 => r = none ∧ Inv X pins σ H s1) E s
  self : ∀ (A : Around) (i : Nat) (s : Shared) (Q : Value → Shared → Prop) (E : Value → Shared → Prop), tn i s.heap → Q (.ref it) s → wpAny (model P w) A (pyIter (.ref it)) Q E s
abbrev TI := St → Hp → (It → Hp → Prop) → Prop
def PIE (X : Cx) (pins : List (Addr × Obj)) (σ : St) (tg : Expr) (R : It → Hp → Prop) (itv : Value) (s2 : Shared) : Prop :=
  ∃ (it : Addr) (fp : List Addr) (tn : Nat → Heap → Prop) (J : It) (H' : Hp), itv = .ref it ∧ Inv X pins σ H' s2 ∧ Turn X.prog X.w X.K tg J fp it tn ∧ tn 0 s2.heap ∧ (∀ b ∈ fp, FpOk X pins H' b) ∧ R J H'
def PI (X : Cx) (tg iter : Expr) (wi : TI) : Prop :=
  ∀ (pins : List (Addr × Obj)) (s : Shared) (σ : St) (H : Hp) (R : It → Hp → Prop), Inv X pins σ H s → wi σ H R →
    wpAny (model X.prog X.w) X.A (eval iter X.env) (fun v s1 => wpAny (model X.prog X.w) X.A (pyIter v) (PIE X pins σ tg R) X.xe s1) X.xe s

def Itl (K : PySem.W.Frag) (a : Addr) : It :=
  ⟨fun i H => ∃ xs x, SqL K H a xs ∧ xs[i]? = some x, fun i H x H' => H' = H ∧ ∀ xs, SqL K H a xs → xs[i]? = some x, fun i H => ∃ xs, SqL K H a xs ∧ xs.length ≤ i⟩
def Itt (K : PySem.W.Frag) (a : Addr) : It :=
  ⟨fun i H => ∃ xs x, SqT K H a xs ∧ xs[i]? = some x, fun i H x H' => H' = H ∧ ∀ xs, SqT K H a xs → xs[i]? = some x, fun i H => ∃ xs, SqT K H a xs ∧ xs.length ≤ i⟩
def Itr (lo : Int) (n : Nat) : It := ⟨fun i _ => i < n, fun i H x H' => H' = H ∧ x = .int (lo + i), fun i _ => n ≤ i⟩
end L2

namespace L2
open PySem PySem.Spec PyProof.Rows
section
variable {X : Cx} {tg : Expr}
def iList (K : PySem.W.Frag) (tl : TE) : TI := fun σ H R => tl σ H fun x H1 => ∃ a, x = .ref a ∧ (∃ xs, SqL K H1 a xs) ∧ R (Itl K a) H1
def iTup (K : PySem.W.Frag) (tl : TE) : TI := fun σ H R => tl σ H fun x H1 => ∃ a, x = .ref a ∧ (∃ xs, SqT K H1 a xs) ∧ R (Itt K a) H1
def iRng1 (ta : TA) : TI := fun σ H R => ta σ H fun vs H1 => ∃ j : Int, vs = [.int j] ∧ -(2 ^ 62) ≤ j ∧ j < 2 ^ 62 ∧ R (Itr 0 j.toNat) H1
def iRng2 (ta : TA) : TI := fun σ H R => ta σ H fun vs H1 => ∃ i j : Int, vs = [.int i, .int j] ∧ (-(2 ^ 62) ≤ i ∧ i < 2 ^ 62 ∧ -(2 ^ 62) ≤ j ∧ j < 2 ^ 62) ∧ R (Itr i (j - i).toNat) H1
def tFor (wi : TI) (g : TG) (tb : TS) : TS := fun D σ H => wi σ H fun J H1 => ∃ W : Nat → Nat → St → Hp → Prop, (∃ m, W 0 m σ H1) ∧ ∀ i m σ H, W i m σ H →
  (J.stop i H ∧ D.nx σ H) ∨ (J.go i H ∧ ∃ N : St → Hp → Prop, (∀ σ' H', N σ' H' → ∃ m', m' < m ∧ W (i + 1) m' σ' H') ∧ ∀ x H', J.yld i H x H' → g x σ H' fun σ2 H2 => tb { D with nx := N, ct := N, bk := D.nx } σ2 H2)
def pinsAt (fp : List Addr) (h : Heap) : List (Addr × Obj) := fp.filterMap fun b => (h.get? b).map fun o => (b, o)
end

end L2

namespace L2
open PySem PySem.Spec PyProof.Rows

abbrev R2 := V → V → Hp → VK → Prop
def OpR (X : Cx) (f : Value → Value → Sem Value) (r : R2) : Prop :=
  ∀ (pins : List (Addr × Obj)) (s : Shared) (σ : St) (H : Hp) (x y : V) (v u : Value) (Q : VK), Inv X pins σ H s → RelV x v → RelV y u → r x y H Q →
    wpAny (model X.prog X.w) X.A (f v u) (EP X pins σ Q) X.xe s
def UnR (X : Cx) (f : Value → Sem Value) (r : V → Hp → VK → Prop) : Prop :=
  ∀ (pins : List (Addr × Obj)) (s : Shared) (σ : St) (H : Hp) (x : V) (v : Value) (Q : VK), Inv X pins σ H s → RelV x v → r x H Q →
    wpAny (model X.prog X.w) X.A (f v) (EP X pins σ Q) X.xe s
def CallR (X : Cx) (f : Value) (r : List V → Hp → VK → Prop) : Prop :=
  ∀ (pins : List (Addr × Obj)) (s : Shared) (σ : St) (H : Hp) (xs : List V) (us : List Value) (Q : VK), Inv X pins σ H s → Vals xs us → r xs H Q →
    wpAny (model X.prog X.w) X.A (call f us) (EP X pins σ Q) X.xe s
def TruR (X : Cx) (r : V → Hp → (Bool → Hp → Prop) → Prop) : Prop :=
  ∀ (pins : List (Addr × Obj)) (s : Shared) (σ : St) (H : Hp) (x : V) (v : Value) (Q : Bool → Hp → Prop), Inv X pins σ H s → RelV x v → r x H Q →
    wpAny (model X.prog X.w) X.A (truthy v) (TP X pins σ Q) X.xe s

def tOp (r : R2) (ta tb : TE) : TE := fun σ H Q => ta σ H fun x H1 => tb σ H1 fun y H2 => r x y H2 Q
def tUn (r : V → Hp → VK → Prop) (ta : TE) : TE := fun σ H Q => ta σ H fun x H1 => r x H1 Q
def rI (C : Int → Int → Prop) (g : Int → Int → V) : R2 := fun x y H Q => ∃ i j, x = .int i ∧ y = .int j ∧ C i j ∧ Q (g i j) H
def rI0 (g : Int → Int → V) : R2 := fun x y H Q => ∃ i j, x = .int i ∧ y = .int j ∧ Q (g i j) H
def rU (g : Int → V) : V → Hp → VK → Prop := fun x H Q => ∃ i, x = .int i ∧ Q (g i) H

section
variable {X : Cx} {a b c : Expr} {ta tb tc : TE} {pos : Pos}

theorem binT (ha : PE X a ta) (hb : PE X b tb) {pins : List (Addr × Obj)} {s : Shared} {σ : St} {H : Hp} {R : V → V → Hp → Prop} (I : Inv X pins σ H s)
    (h : ta σ H fun x H1 => tb σ H1 fun y H2 => R x y H2) {Q : Value → Shared → Prop} {f : Value → Value → Sem Value}
    (hf : ∀ v u s2 x y H2, Inv X pins σ H2 s2 → RelV x v → RelV y u → R x y H2 → wpAny (model X.prog X.w) X.A (f v u) Q X.xe s2) :
    wpAny (model X.prog X.w) X.A (eval a X.env) (fun v s₁ => wpAny (model X.prog X.w) X.A (eval b X.env) (fun u s₂ => wpAny (model X.prog X.w) X.A (f v u) Q X.xe s₂) X.xe s₁) X.xe s := by
  refine thn (ha pins s σ H _ I h) fun v s1 ⟨x, H1, I1, r1, q1⟩ => ?_
  refine thn (hb pins s1 σ H1 _ I1 q1) fun u s2 ⟨y, H2, I2, r2, q2⟩ => ?_
  exact hf v u s2 x y H2 I2 r1 r2 q2

theorem pe_op {op : Operator} {r : R2} (ho : OpR X (binaryOp op) r) (ha : PE X a ta) (hb : PE X b tb) : PE X (.BinOp a op b pos) (tOp r ta tb) := by
  intro pins s σ H Q I h
  exact wpAny_BinOp (binT ha hb I h fun v u s2 x y H2 I2 rx ry q => ho pins s2 σ H2 x y v u Q I2 rx ry q)
theorem pe_un {op : UnaryOp} {r : V → Hp → VK → Prop} (ho : UnR X (unaryOp op) r) (ha : PE X a ta) : PE X (.UnaryOp op a pos) (tUn r ta) := by
  intro pins s σ H Q I h
  exact UnaryOp_ (thn (ha pins s σ H _ I h) fun v s1 ⟨x, H1, I1, r1, q1⟩ => ho pins s1 σ H1 x v Q I1 r1 q1)
theorem opI {f : Value → Value → Sem Value} {C : Int → Int → Prop} {g : Int → Int → Int}
    (rule : ∀ (i j : Int) (t u : Tok) (s : Shared) (Q : Value → Shared → Prop) (E : Value → Shared → Prop), C i j → Q (.int (g i j) s.toks) { s with toks := s.toks + 1 } → wpAny (model X.prog X.w) X.A (f (.int i t) (.int j u)) Q E s) :
    OpR X f (rI C fun i j => .int (g i j)) := by
  intro pins s σ H x y v u Q I rx ry h
  obtain ⟨i, j, rfl, rfl, hc, q⟩ := h
  obtain ⟨t, rfl⟩ := rx
  obtain ⟨t', rfl⟩ := ry
  exact rule i j t t' s _ _ hc ⟨.int (g i j), H, I.tok _, ⟨_, rfl⟩, q⟩
theorem opI0 {f : Value → Value → Sem Value} {g : Int → Int → Int}
    (rule : ∀ (i j : Int) (t u : Tok) (s : Shared) (Q : Value → Shared → Prop) (E : Value → Shared → Prop), Q (.int (g i j) s.toks) { s with toks := s.toks + 1 } → wpAny (model X.prog X.w) X.A (f (.int i t) (.int j u)) Q E s) :
    OpR X f (rI0 fun i j => .int (g i j)) := by
  intro pins s σ H x y v u Q I rx ry h
  obtain ⟨i, j, rfl, rfl, q⟩ := h
  obtain ⟨t, rfl⟩ := rx
  obtain ⟨t', rfl⟩ := ry
  exact rule i j t t' s _ _ ⟨.int (g i j), H, I.tok _, ⟨_, rfl⟩, q⟩
theorem opB0 {f : Value → Value → Sem Value} {g : Int → Int → Bool}
    (rule : ∀ (i j : Int) (t u : Tok) (s : Shared) (Q : Value → Shared → Prop) (E : Value → Shared → Prop), Q (.bool (g i j)) s → wpAny (model X.prog X.w) X.A (f (.int i t) (.int j u)) Q E s) :
    OpR X f (rI0 fun i j => .bl (g i j)) := by
  intro pins s σ H x y v u Q I rx ry h
  obtain ⟨i, j, rfl, rfl, q⟩ := h
  obtain ⟨t, rfl⟩ := rx
  obtain ⟨t', rfl⟩ := ry
  exact rule i j t t' s _ _ ⟨.bl (g i j), H, I, rfl, q⟩

def CDiv (i j : Int) : Prop := 0 < j ∧ j < 1073741824
def CDivN (i j : Int) : Prop := j ≠ 0 ∧ j.natAbs < 1073741824
def CPow (i j : Int) : Prop := 0 ≤ j ∧ j ≤ 1000000 ∧ i.natAbs < 2 ^ 64
def CMul (i j : Int) : Prop := (-(2 ^ 64) < i ∧ i < 2 ^ 64) ∨ (-(2 ^ 64) < j ∧ j < 2 ^ 64)
theorem op_add : OpR X (binaryOp .Add) (rI0 fun i j => .int (i + j)) := opI0 fun _ _ _ _ _ _ _ q => add_int q
theorem op_sub : OpR X (binaryOp .Sub) (rI0 fun i j => .int (i - j)) := opI0 fun _ _ _ _ _ _ _ q => sub_int q
theorem op_fdiv : OpR X (binaryOp .FloorDiv) (rI CDiv fun i j => .int (i / j)) := opI fun i j _ _ _ _ _ hc q => by
  have h1 : (0 : Int) < j := hc.1
  have h2 : j < 1073741824 := hc.2
  exact floordiv_int (by omega) (by rw [Int.fdiv_eq_ediv_of_nonneg i (by omega)]; exact q) (.inl (PyProof.noPylong_small (by omega)))
theorem op_mod : OpR X (binaryOp .Mod) (rI (fun _ j => 0 < j) fun i j => .int (i % j)) := opI fun i j _ _ _ _ _ hc q => by
  have h1 : (0 : Int) < j := hc
  exact mod_int' (by omega) (by rw [Int.fmod_eq_emod_of_nonneg i (by omega)]; exact q)
theorem op_modN : OpR X (binaryOp .Mod) (rI (fun _ j => j ≠ 0) fun i j => .int (i.fmod j)) := opI fun _ _ _ _ _ _ _ hc q => mod_int' hc q
theorem op_pow : OpR X (binaryOp .Pow) (rI CPow fun i j => .int (i ^ j.toNat)) := opI fun _ _ _ _ _ _ _ hc q => pow_int_small hc.1 hc.2.1 hc.2.2 q
theorem unI {f : Value → Sem Value} {g : Int → Int}
    (rule : ∀ (i : Int) (t : Tok) (s : Shared) (Q : Value → Shared → Prop) (E : Value → Shared → Prop), Q (.int (g i) s.toks) { s with toks := s.toks + 1 } → wpAny (model X.prog X.w) X.A (f (.int i t)) Q E s) :
    UnR X f (rU fun i => .int (g i)) := by
  intro pins s σ H x v Q I rx h
  obtain ⟨i, rfl, q⟩ := h
  obtain ⟨t, rfl⟩ := rx
  exact rule i t s _ _ ⟨.int (g i), H, I.tok _, ⟨_, rfl⟩, q⟩
theorem un_neg : UnR X (unaryOp .USub) (rU fun i => .int (-i)) := unI fun _ _ _ _ _ q => neg_int q
end

def scal : V → V → Bool
  | .non, .non => true | .non, .int _ => true | .int _, .non => true | .non, .bl _ => true | .bl _, .non => true | .non, .str _ => true | .str _, .non => true
  | .int _, .int _ => true | .bl _, .bl _ => true | .str _, .str _ => true | .byt _, .byt _ => true
  | .int _, .str _ => true | .str _, .int _ => true | .bl _, .str _ => true | .str _, .bl _ => true
  | _, _ => false
def rEq : R2 := fun x y H Q => scal x y = true ∧ Q (.bl (decide (x = y))) H
def rNe : R2 := fun x y H Q => scal x y = true ∧ Q (.bl (!decide (x = y))) H

theorem dec_int {i j : Int} : decide (V.int i = V.int j) = (i == j) := by
  rw [Bool.eq_iff_iff]
  simp
theorem dec_bl {i j : Bool} : decide (V.bl i = V.bl j) = (i == j) := by
  rw [Bool.eq_iff_iff]
  simp
theorem dec_str {i j : Str} : decide (V.str i = V.str j) = (i == j) := by
  rw [Bool.eq_iff_iff]
  simp
theorem dec_byt {i j : Array UInt8} : decide (V.byt i = V.byt j) = (i.toList == j.toList) := by
  rw [Bool.eq_iff_iff]
  cases i
  cases j
  simp

section
variable {X : Cx} {a b c : Expr} {ta tb tc : TE} {pos : Pos}
theorem fin_bl {pins : List (Addr × Obj)} {σ : St} {H : Hp} {s : Shared} {Q : VK} {k k' : Bool} (I : Inv X pins σ H s) (q : Q (.bl k) H) (e : k = k') : EP X pins σ Q (.bool k') s := by
  subst e
  exact ⟨.bl k, H, I, rfl, q⟩
theorem op_eq : OpR X (compareOp .Eq) rEq := by
  intro pins s σ H x y v u Q I rx ry h
  obtain ⟨hs, q⟩ := h
  cases x with
  | non =>
    cases rx
    cases y with
    | non => cases ry; exact PySem.EqNone.eq_none_none (fin_bl I q (by simp))
    | bl j => cases ry; exact PySem.EqNone.eq_none_bool (fin_bl I q (by simp))
    | int j => obtain ⟨t', rfl⟩ := ry; exact PySem.EqNone.eq_none_int (fin_bl I q (by simp))
    | str j => obtain ⟨t', rfl⟩ := ry; exact PySem.EqNone.eq_none_str (fin_bl I q (by simp))
    | _ => exact absurd (show false = true from hs) Bool.false_ne_true
  | bl i =>
    cases rx
    cases y with
    | non => cases ry; exact PySem.EqNone.eq_bool_none (fin_bl I q (by simp))
    | bl j => cases ry; exact eq_bool (fin_bl I q dec_bl)
    | str j => obtain ⟨t', rfl⟩ := ry; exact PySem.EqMixed.eq_bool_str (fin_bl I q (by simp))
    | _ => exact absurd (show false = true from hs) Bool.false_ne_true
  | int i =>
    obtain ⟨t, rfl⟩ := rx
    cases y with
    | non => cases ry; exact PySem.EqNone.eq_int_none (fin_bl I q (by simp))
    | int j => obtain ⟨t', rfl⟩ := ry; exact eq_int (fin_bl I q dec_int)
    | str j => obtain ⟨t', rfl⟩ := ry; exact PySem.EqMixed.eq_int_str (fin_bl I q (by simp))
    | _ => exact absurd (show false = true from hs) Bool.false_ne_true
  | str i =>
    obtain ⟨t, rfl⟩ := rx
    cases y with
    | non => cases ry; exact PySem.EqNone.eq_str_none (fin_bl I q (by simp))
    | bl j => cases ry; exact PySem.EqMixed.eq_str_bool (fin_bl I q (by simp))
    | int j => obtain ⟨t', rfl⟩ := ry; exact PySem.EqMixed.eq_str_int (fin_bl I q (by simp))
    | str j => obtain ⟨t', rfl⟩ := ry; exact eq_str (fin_bl I q dec_str)
    | _ => exact absurd (show false = true from hs) Bool.false_ne_true
  | byt i =>
    obtain ⟨t, rfl⟩ := rx
    cases y with
    | byt j => obtain ⟨t', rfl⟩ := ry; exact PySem.W.eq_bytes (fin_bl I q dec_byt)
    | _ => exact absurd (show false = true from hs) Bool.false_ne_true
  | _ => cases y <;> exact absurd (show false = true from hs) Bool.false_ne_true
theorem op_ne : OpR X (compareOp .NotEq) rNe := by
  intro pins s σ H x y v u Q I rx ry h
  obtain ⟨hs, q⟩ := h
  cases x with
  | non =>
    cases rx
    cases y with
    | non => cases ry; exact PySem.EqNone.ne_none_none (fin_bl I q (by simp))
    | bl j => cases ry; exact PySem.EqNone.ne_none_bool (fin_bl I q (by simp))
    | int j => obtain ⟨t', rfl⟩ := ry; exact PySem.EqNone.ne_none_int (fin_bl I q (by simp))
    | str j => obtain ⟨t', rfl⟩ := ry; exact PySem.EqNone.ne_none_str (fin_bl I q (by simp))
    | _ => exact absurd (show false = true from hs) Bool.false_ne_true
  | bl i =>
    cases rx
    cases y with
    | non => cases ry; exact PySem.EqNone.ne_bool_none (fin_bl I q (by simp))
    | bl j => cases ry; exact ne_bool (fin_bl I q (congrArg not dec_bl))
    | str j => obtain ⟨t', rfl⟩ := ry; exact PySem.EqMixed.ne_bool_str (fin_bl I q (by simp))
    | _ => exact absurd (show false = true from hs) Bool.false_ne_true
  | int i =>
    obtain ⟨t, rfl⟩ := rx
    cases y with
    | non => cases ry; exact PySem.EqNone.ne_int_none (fin_bl I q (by simp))
    | int j => obtain ⟨t', rfl⟩ := ry; exact ne_int (fin_bl I q (congrArg not dec_int))
    | str j => obtain ⟨t', rfl⟩ := ry; exact PySem.EqMixed.ne_int_str (fin_bl I q (by simp))
    | _ => exact absurd (show false = true from hs) Bool.false_ne_true
  | str i =>
    obtain ⟨t, rfl⟩ := rx
    cases y with
    | non => cases ry; exact PySem.EqNone.ne_str_none (fin_bl I q (by simp))
    | bl j => cases ry; exact PySem.EqMixed.ne_str_bool (fin_bl I q (by simp))
    | int j => obtain ⟨t', rfl⟩ := ry; exact PySem.EqMixed.ne_str_int (fin_bl I q (by simp))
    | str j => obtain ⟨t', rfl⟩ := ry; exact ne_str (fin_bl I q (congrArg not dec_str))
    | _ => exact absurd (show false = true from hs) Bool.false_ne_true
  | byt i =>
    obtain ⟨t, rfl⟩ := rx
    cases y with
    | byt j => obtain ⟨t', rfl⟩ := ry; exact PySem.W.ne_bytes (fin_bl I q (congrArg not dec_byt))
    | _ => exact absurd (show false = true from hs) Bool.false_ne_true
  | _ => cases y <;> exact absurd (show false = true from hs) Bool.false_ne_true

theorem op_lt : OpR X (compareOp .Lt) (rI0 fun i j => .bl (decide (i < j))) := opB0 fun _ _ _ _ _ _ _ q => lt_int q
theorem op_le : OpR X (compareOp .LtE) (rI0 fun i j => .bl (decide (i ≤ j))) := opB0 fun _ _ _ _ _ _ _ q => le_int q
theorem op_gt : OpR X (compareOp .Gt) (rI0 fun i j => .bl (decide (j < i))) := opB0 fun _ _ _ _ _ _ _ q => gt_int q
def isObj : HO → Bool
  | .lst _ => true
  | .ins _ _ _ => true
  | _ => false
theorem nomark (b : Expr) {op : CmpOp} (h : op ≠ .In := by decide) (h2 : op ≠ .NotIn := by decide) : behindInMarks op b = false := by
  have e1 : (op == CmpOp.In) = false := by cases op <;> first | rfl | exact absurd rfl h
  have e2 : (op == CmpOp.NotIn) = false := by cases op <;> first | rfl | exact absurd rfl h2
  cases b <;> simp [behindInMarks, e1, e2]
theorem pe_cmpR {op : CmpOp} {r : R2} (ho : OpR X (compareOp op) r) (ha : PE X a ta) (hb : PE X b tb) (hm : behindInMarks op b = false) : PE X (.Compare a [op] [b] pos) (tOp r ta tb) := by
  intro pins s σ H Q I h
  exact wpAny_Compare1 (binT ha hb I h fun v u s2 x y H2 I2 rx ry q => ho pins s2 σ H2 x y v u Q I2 rx ry q) hm
def tTest (t : TE) : TT := fun σ H Q => t σ H fun x H' => ∃ k, x = .bl k ∧ Q k H'
theorem pt_cmpR {op : CmpOp} {r : R2} (ho : OpR X (compareOp op) r) (ha : PE X a ta) (hb : PE X b tb) (hm : behindInMarks op b = false) : PT X (.Compare a [op] [b] pos) (tTest (tOp r ta tb)) := by
  intro pins s σ H Q I h
  refine wpAny_isTrue_Compare1 (thn (ha pins s σ H _ I h) fun v s1 ⟨x, H1, I1, r1, q1⟩ => thn (hb pins s1 σ H1 _ I1 q1) fun u s2 ⟨y, H2, I2, r2, q2⟩ =>
    thn (ho pins s2 σ H2 x y v u _ I2 r1 r2 q2) fun c s3 ⟨z, H3, I3, r3, k, e, q3⟩ => ?_) hm
  subst e
  cases r3
  exact wpAny_truthy_bool ⟨H3, I3, q3⟩
def tChain (r r' : R2) (ta tb tc : TE) : TE := fun σ H Q => ta σ H fun x H1 => tb σ H1 fun y H2 => r x y H2 fun z H3 => ∃ k, z = .bl k ∧
  (if k = true then tc σ H3 fun w' H4 => r' y w' H4 Q else Q (.bl false) H3)
theorem pe_chain {op op' : CmpOp} {r r' : R2} (ho : OpR X (compareOp op) r) (ho' : OpR X (compareOp op') r') (ha : PE X a ta) (hb : PE X b tb) (hc : PE X c tc)
    (hm : lastMarks [op, op'] [b, c] = false := by with_unfolding_all rfl) : PE X (.Compare a [op, op'] [b, c] pos) (tChain r r' ta tb tc) := by
  intro pins s σ H Q I h
  refine Compare_chain (thn (ha pins s σ H _ I h) fun v s1 ⟨x, H1, I1, r1, q1⟩ => chain_link (thn (hb pins s1 σ H1 _ I1 q1) fun u s2 ⟨y, H2, I2, r2, q2⟩ =>
    thn (ho pins s2 σ H2 x y v u _ I2 r1 r2 q2) fun d s3 ⟨z, H3, I3, r3, k, e, q3⟩ => ?_)) hm
  subst e
  cases r3
  refine wpAny_truthy_bool ?_
  cases k with
  | false => exact ite_ff ⟨.bl false, H3, I3, rfl, q3⟩
  | true => exact ite_tt (chain_last (thn (hc pins s3 σ H3 _ I3 q3) fun w' s4 ⟨z', H4, I4, r4, q4⟩ => ho' pins s4 σ H4 y z' u w' Q I4 r2 r4 q4))
def TruV (K : PySem.W.Frag) (x : V) (H : Hp) (k : Bool) : Prop :=
  match x with
  | .non => k = false
  | .bl b => k = b
  | .int i => k = (i != 0)
  | .str y => y.length ≤ sizeLine ∧ k = ((y.length : Int) != 0)
  | .byt y => y.size ≤ sizeLine ∧ k = ((y.size : Int) != 0)
  | .ref p => (∃ xs, SqL K H p xs ∧ k = !xs.isEmpty) ∨ (∃ xs, SqT K H p xs ∧ k = !xs.isEmpty) ∨ ∃ kvs, H p = some (.dK kvs) ∧ k = !kvs.isEmpty
  | _ => False
theorem line63 : (sizeLine : Nat) < 2 ^ 63 := by rw [sizeLine_eq]; decide
def PlainIxT (b : Expr) : Prop := ∀ o i, subscripted b false o i = operate [o, i] (getItem o i)
theorem vals1 {x : V} {us : List Value} (r : Vals [x] us) : ∃ u, us = [u] ∧ RelV x u := by
  cases r with
  | cons r1 r2 => cases r2; exact ⟨_, rfl, r1⟩
def LenV (K : PySem.W.Frag) (x : V) (H : Hp) (n : Nat) : Prop :=
  match x with
  | .str y => y.length ≤ sizeLine ∧ n = y.length
  | .byt y => y.size ≤ sizeLine ∧ n = y.size
  | .ref p => (∃ xs, SqL K H p xs ∧ n = xs.length) ∨ ∃ xs, SqT K H p xs ∧ n = xs.length
  | _ => False
end
end L2

namespace L2
open PySem PySem.Spec PyProof.Rows

structure ObjM (h : Heap) (x dx C : Addr) (mA : Str → Option Value) : Prop where
  obj : h.get? x = some (PySem.W.instObj C dx)
  ns : h.Ns1 dx mA
  ne : dx ≠ x

theorem lookIn_ns {h : Heap} {dx : Addr} {mA : Str → Option Value} (n : h.Ns1 dx mA) : ∃ od, h.get? dx = some od ∧ ∀ name, PySem.W.lookIn name od = some (mA name) := by
  obtain ⟨o, es, ep, ho, hd, hk, _, hm⟩ := n
  refine ⟨o, ho, fun name => ?_⟩
  have e := hm name
  unfold nsFind findBy at e
  rw [← Array.find?_toList] at e
  unfold PySem.W.lookIn
  rw [hd]
  dsimp only
  split
  · rename_i y q
    rw [q] at e
    exact congrArg some e
  · rename_i q
    rw [q] at e
    have a : es.toList.any (·.refKey) = false := by
      rw [List.any_eq_false]
      intro y hy
      obtain ⟨z, t, hkey⟩ := hk y (Array.mem_toList_iff.mp hy)
      simp [DictEntry.refKey, hkey]
    have a' : ¬ es.toList.any (·.refKey) = true := by rw [a]; exact Bool.false_ne_true
    rw [if_neg a']
    exact congrArg some e

theorem ObjM.look {h : Heap} {x dx C : Addr} {mA : Str → Option Value} (I : ObjM h x dx C mA) : ∃ od, PySem.W.InstAt h x (PySem.W.instObj C dx) C (some od) ∧ ∀ name, PySem.W.lookIn name od = some (mA name) :=
  let ⟨od, ho, hl⟩ := lookIn_ns I.ns
  ⟨od, ⟨I.obj, rfl, rfl, ho⟩, hl⟩

section
variable {prog : Program} {w : World} {A : Around} {E : Value → Shared → Prop} {s : Shared} {K : PySem.W.Frag} {x dx C f : Addr} {mA : Str → Option Value} {name : Str} {v : Value}

end

def putF (f : Str) (v : V) : List (Str × V) → List (Str × V)
  | [] => [(f, v)]
  | (g, x) :: r => if g = f then (g, v) :: r else (g, x) :: putF f v r
theorem RelO.some_of {v : V} {o : Option Value} (r : RelO (some v) o) : ∃ u, o = some u ∧ RelV v u := by
  cases o with
  | none => exact (show False from r).elim
  | some u => exact ⟨u, rfl, r⟩
theorem handed_of {v : V} {u : Value} (r : RelV v u) : PySem.W.handedIn u = true := by
  cases v with
  | non => cases (show u = Value.none from r); rfl
  | bl b => cases (show u = Value.bool b from r); rfl
  | int i => obtain ⟨t, e⟩ := (show ∃ t, u = Value.int i t from r); cases e; rfl
  | str x => obtain ⟨t, e⟩ := (show ∃ t, u = Value.str x t from r); cases e; rfl
  | byt b => obtain ⟨t, e⟩ := (show ∃ t, u = Value.bytes b t from r); cases e; rfl
  | flt b => obtain ⟨t, e⟩ := (show ∃ t, u = Value.float b t from r); cases e; rfl
  | ref a => cases (show u = Value.ref a from r); rfl
  | ty n => cases (show u = Value.type n from r); rfl

section
variable {P : Program} {w : World} {H H' : Hp} {h h' : Heap} {a C dx : Addr} {fs fs' : List (Str × V)}
theorem ins_get (hok : HOk P w H h) (e : H a = some (.ins C dx fs)) : ∃ mA, ObjM h a dx C mA ∧ (∀ f, RelO (fs.lookup f) (mA f)) ∧ PySem.Within mA (fs.map (·.1)) ∧ fs.length ≤ 1000 ∧ H dx = some (.own a) := by
  obtain ⟨d, z, ne, ob, mA, n, r, q⟩ := (show ObjOk P w H h a (.ins C dx fs) from hok a _ e)
  exact ⟨mA, ⟨ob, n, ne⟩, r, q, z, d⟩
end

structure Cls (K : PySem.W.Frag) (C : Addr) : Prop where
  pg : PySem.W.plainGet K C Str.empty = true
  hd : PySem.W.hasDictIn K C = true
  po : PySem.W.plainOver K C = true
  sa : PySem.W.findIn K (.ref C) "__setattr__" = some (some (.builtin "object.__setattr__"))
theorem Cls.get {K : PySem.W.Frag} {C : Addr} (c : Cls K C) (f : Str) : PySem.W.plainGet K C f = true := c.pg
def NoAttr (K : PySem.W.Frag) (C : Addr) (f : Str) : Prop := PySem.W.findIn K (.ref C) f = some none
structure Con (K : PySem.W.Frag) (C : Addr) (f : Str) (v : V) (u : Value) : Prop where
  at_ : PySem.W.findIn K (.ref C) f = some (some u)
  rel : RelV v u
  get : PySem.W.specialIn K u "__get__" = some none
  cp : PySem.W.copiedNames.contains f = false
structure Meth (K : PySem.W.Frag) (C : Addr) (m : Str) (f : Addr) : Prop where
  at_ : PySem.W.findIn K (.ref C) m = some (some (.ref f))
  fn : PySem.W.isFn K (.ref f) = true
  kp : PySem.W.keepIn K (.ref f) = true

section
variable {X : Cx} {pins : List (Addr × Obj)} {σ : St} {H : Hp} {s : Shared} {a C dx : Addr} {fs : List (Str × V)} {f : Str} {v : V} {A : Around} {E : Value → Shared → Prop}

theorem attr_of {prog : Program} {w : World} {env : Env} {e : Expr} {f : Str} {pos : Pos} {s : Shared} {Q : Value → Shared → Prop} (hb : attributeBase e f env (eval e env) = eval e env)
    (h : wpAny (model prog w) A (eval e env) (fun o s₁ => wpAny (model prog w) A (getAttr o f true) Q E s₁) E s) : wpAny (model prog w) A (eval (.Attribute e f pos) env) Q E s :=
  Attribute_any_ h (by rw [arm_eval_Attribute, hb])
end

def tFld (K : PySem.W.Frag) (ta : TE) (f : Str) : TE := fun σ H Q => ta σ H fun x H1 => ∃ a C dx fs v, x = .ref a ∧ H1 a = some (.ins C dx fs) ∧ Cls K C ∧ NoAttr K C f ∧ fs.lookup f = some v ∧ Q v H1
def tCon (K : PySem.W.Frag) (ta : TE) (f : Str) : TE := fun σ H Q => ta σ H fun x H1 => ∃ a C dx fs v u, x = .ref a ∧ H1 a = some (.ins C dx fs) ∧ Cls K C ∧ Con K C f v u ∧ fs.lookup f = none ∧ Q v H1
def sFld (K : PySem.W.Frag) (ta tv : TE) (f : Str) : TS := fun D σ H => tv σ H fun y H1 => ta σ H1 fun x H2 => ∃ a C dx fs, x = .ref a ∧ H2 a = some (.ins C dx fs) ∧ Cls K C ∧ NoAttr K C f ∧ fs.length < 1000 ∧
  D.nx σ (upd H2 a (.ins C dx (putF f y fs)))
def InOp (X : Cx) (op : Operator) (rd : V → V → Hp → VK → Prop) : Prop :=
  ∀ (pins : List (Addr × Obj)) (s : Shared) (σ : St) (H : Hp) (x y : V) (u v : Value) (Q : VK), Inv X pins σ H s → RelV x u → RelV y v → rd x y H Q → wpAny (model X.prog X.w) X.A (inplaceOp op u v) (EP X pins σ Q) X.xe s
def sFldAug (K : PySem.W.Frag) (ta tv : TE) (rd : V → V → Hp → VK → Prop) (f : Str) : TS := fun D σ H => ta σ H fun x H1 => ∃ a C dx fs v, x = .ref a ∧ H1 a = some (.ins C dx fs) ∧ Cls K C ∧ NoAttr K C f ∧ fs.lookup f = some v ∧
  tv σ H1 fun y H2 => rd v y H2 fun z H3 => ∃ dx' fs', H3 a = some (.ins C dx' fs') ∧ fs'.length < 1000 ∧ D.nx σ (upd H3 a (.ins C dx' (putF f z fs')))

section
variable {X : Cx} {o e value : Expr} {f : Str} {pos pos' tpos : Pos} {ta tv : TE}
def rAdd : V → V → Hp → VK → Prop := fun x y H Q => ∃ i j, x = .int i ∧ y = .int j ∧ Q (.int (i + j)) H
def rSub : V → V → Hp → VK → Prop := fun x y H Q => ∃ i j, x = .int i ∧ y = .int j ∧ Q (.int (i - j)) H
end

section
variable {X : Cx} {pins : List (Addr × Obj)} {σ : St} {H : Hp} {s : Shared} {A : Around} {E : Value → Shared → Prop} {Q : Value → Shared → Prop} {c : Value} {b : Bool}
inductive TyOf (K : PySem.W.Frag) (H : Hp) : V → Value → Prop where
  | non : TyOf K H .non (.type "NoneType")
  | bl (x : Bool) : TyOf K H (.bl x) (.type "bool")
  | int (i : Int) : TyOf K H (.int i) (.type "int")
  | str (x : Str) : TyOf K H (.str x) (.type "str")
  | flt (x : UInt64) : TyOf K H (.flt x) (.type "float")
  | lst {a : Addr} {xs : List V} (e : H a = some (.lst xs)) : TyOf K H (.ref a) (.type "list")
  | frz {a : Addr} {o : Obj} {xs : List V} (e : H a = some (.frz o (.lst xs))) : TyOf K H (.ref a) (.type "list")
  | tup {a : Addr} {xs : List V} (e : H a = some (.tup xs)) : TyOf K H (.ref a) (.type "tuple")
  | dK {a : Addr} {kvs : List (Key × V)} (e : H a = some (.dK kvs)) : TyOf K H (.ref a) (.type "dict")
  | dT {a : Addr} {kvs : List (List Key × V)} (e : H a = some (.dT kvs)) : TyOf K H (.ref a) (.type "dict")
  | ins {a C dx : Addr} {fs : List (Str × V)} (e : H a = some (.ins C dx fs)) (cl : Cls K C) (ha : PySem.W.findIn K (.ref C) "__class__" = some (some (.builtin "object.__class__")))
      (hn : PySem.W.specialIn K (.builtin "object.__class__") "__get__" = some (some (.builtin "getset_descriptor.__get__"))) (htk : PySem.W.takesIn K (.builtin "object.__class__") = some true)
      (hm : PySem.W.mroIn K C (.type "object") = some true) : TyOf K H (.ref a) (.ref C)
theorem isinst_ok {x : V} {u t : Value} (I : Inv X pins σ H s) (rx : RelV x u) (ty : TyOf X.K H x t) (e : PySem.W.kitOne X.K t c = some b) (h : ∀ tk, Q (.bool b) { s with toks := tk }) :
    wpAny (model X.prog X.w) A (call (.builtin "isinstance") [u, c]) Q E s := by
  cases ty with
  | non => cases (show u = Value.none from rx); exact PySem.W.kia_one PySem.W.kitx_none I.kIn True.intro e (fun z => nomatch z) h
  | bl y => cases (show u = Value.bool y from rx); exact PySem.W.kia_one PySem.W.kitx_bool I.kIn True.intro e (fun z => nomatch z) h
  | int i => obtain ⟨t, q⟩ := (show ∃ t, u = Value.int i t from rx); cases q; exact PySem.W.kia_one PySem.W.kitx_int I.kIn True.intro e (fun z => nomatch z) h
  | str y => obtain ⟨t, q⟩ := (show ∃ t, u = Value.str y t from rx); cases q; exact PySem.W.kia_one PySem.W.kitx_str I.kIn True.intro e (fun z => nomatch z) h
  | flt y => obtain ⟨t, q⟩ := (show ∃ t, u = Value.float y t from rx); cases q; exact PySem.W.kia_one PySem.W.kitx_float I.kIn True.intro e (fun z => nomatch z) h
  | @lst a xs ea =>
    cases (show u = Value.ref a from rx)
    obtain ⟨_, _, n, _, h1⟩ := (show ObjOk X.prog X.w H s.heap a (.lst xs) from I.hok a _ ea)
    exact PySem.W.kia_one PySem.W.kitx_list I.kIn ⟨_, h1, rfl⟩ e (fun z => nomatch z) h
  | @frz a ob xs ea =>
    cases (show u = Value.ref a from rx)
    obtain ⟨_, _, _, n, _, h1⟩ := (show ObjOk X.prog X.w H s.heap a (.frz ob (.lst xs)) from I.hok a _ ea)
    exact PySem.W.kia_one PySem.W.kitx_list I.kIn ⟨_, h1, rfl⟩ e (fun z => nomatch z) h
  | @tup a xs ea =>
    cases (show u = Value.ref a from rx)
    obtain ⟨_, _, _, p⟩ := (show ObjOk X.prog X.w H s.heap a (.tup xs) from I.hok a _ ea)
    obtain ⟨o, h1, h2, _⟩ := p
    exact PySem.W.kia_one PySem.W.kitx_tuple I.kIn ⟨o, h1, h2⟩ e (fun z => nomatch z) h
  | @dK a kvs ea =>
    cases (show u = Value.ref a from rx)
    obtain ⟨_, _, vs, _, p⟩ := (show ObjOk X.prog X.w H s.heap a (.dK kvs) from I.hok a _ ea)
    obtain ⟨o, es, ep, h1, h2, _⟩ := p
    exact PySem.W.kia_one PySem.W.kitx_dict I.kIn ⟨o, h1, h2.1⟩ e (fun z => nomatch z) h
  | @dT a kvs ea =>
    cases (show u = Value.ref a from rx)
    obtain ⟨_, _, xs, _, o, es, ep, h1, h2, _⟩ := (show ObjOk X.prog X.w H s.heap a (.dT kvs) from I.hok a _ ea)
    exact PySem.W.kia_one PySem.W.kitx_dict I.kIn ⟨o, h1, h2.1⟩ e (fun z => nomatch z) h
  | @ins a C dx fs ea cl ha hn htk hm =>
    cases (show u = Value.ref a from rx)
    obtain ⟨mA, O, _⟩ := ins_get I.hok ea
    obtain ⟨od, J, _⟩ := O.look
    exact PySem.W.kia_one (PySem.W.kitx_own (cl.get _) cl.hd ha hn htk hm) I.kIn J e (fun z => nomatch z) h
end
end L2

namespace L2
open PySem PySem.Spec PyProof.Rows

structure Room (k : Nat) (A : Around) : Prop where
  hd : A.handled = none
  dp : A.depth + 3 * k + 5 < recursionLimit
  un : A.units + 16 * k + 200 < cLine
theorem Room.mono {j k : Nat} {A : Around} (r : Room k A) (h : j ≤ k) : Room j A := ⟨r.hd, by have := r.dp; omega, by have := r.un; omega⟩
theorem Room.deeper {k : Nat} {A : Around} (r : Room (k + 1) A) (env : Env) : Room k (A.deeper env) :=
  ⟨r.hd, by have := r.dp; show A.depth + 1 + 3 * k + 5 < _; omega, by have := r.un; show A.units + 3 + 16 * k + 200 < _; omega⟩
theorem make_depth {A : Around} {C : Addr} {us : List Value} {kw : List (Str × Value)} : (A.under (.builtin "type.__call__" ⟨.ref C :: us, kw⟩)).depth = A.depth + 1 := by
  first | rfl | simp [Around.under, Code.weight, Code.isCreation, Code.isGuard, Code.isCaller, Code.frames, Code.isFrame, guardIds]
theorem make_units {A : Around} {C : Addr} {us : List Value} {kw : List (Str × Value)} : (A.under (.builtin "type.__call__" ⟨.ref C :: us, kw⟩)).units = A.units + 1 := by
  first | rfl | simp [Around.under, Code.cUnits, Code.frames, Code.isFrame]
theorem Room.make {k : Nat} {A : Around} (r : Room (k + 1) A) (C : Addr) (us : List Value) (kw : List (Str × Value)) : Room k (A.under (.builtin "type.__call__" ⟨.ref C :: us, kw⟩)) :=
  ⟨r.hd, by have := r.dp; rw [make_depth]; omega, by have := r.un; rw [make_units]; omega⟩
theorem Room.depth {k : Nat} {A : Around} (r : Room k A) : A.depth < recursionLimit := by have := r.dp; omega
def tNil : TA := fun _ H Q => Q [] H
def tCons (ta : TE) (tr : TA) : TA := fun σ H Q => ta σ H fun x H1 => tr σ H1 fun xs H2 => Q (x :: xs) H2
section
variable {X : Cx} {e : Expr} {es : List Expr} {te : TE} {t : TA} {pos : Pos}
theorem pa_nil : PA X [] tNil := fun _ _ _ _ H Q I h => Calls.spliced_nil ⟨[], H, I, .nil, h⟩
theorem pa_cons (ha : PE X e te) (hr : PA X es t) (hs : starEach (e :: es) X.env = (false, eval e X.env) :: starEach es X.env := by rfl) : PA X (e :: es) (tCons te t) := by
  intro pos pins s σ H Q I h
  rw [hs]
  show wpAny _ _ (spliced ((false, eval e X.env) :: backTo pos (starEach es X.env))) _ _ s
  refine Calls.spliced_cons (thn (ha pins s σ H _ I h) fun u s1 ⟨x, H1, I1, r1, q1⟩ => ?_)
  exact thn (hr pos pins s1 σ H1 _ I1 q1) fun us s2 ⟨xs, H2, I2, r2, q2⟩ => ⟨x :: xs, H2, I2, .cons r1 r2, q2⟩

def tTup (t : TA) : TE := fun σ H Q => t σ H fun xs H1 => xs.length ≤ sizeLine ∧ ∀ p, H1 p = none → Q (.ref p) (upd H1 p (.tup xs))
def tLst (t : TA) : TE := fun σ H Q => t σ H fun xs H1 => xs.length ≤ sizeLine ∧ ∀ p, H1 p = none → Q (.ref p) (upd H1 p (.lst xs))
theorem pe_tup {x1} (h : PA X es t) : PE X (.Tuple es x1 pos) (tTup t) := by
  intro pins s σ H Q I hq
  refine wpAny_Tuple_spliced (thn (h pos pins s σ H _ I hq) fun us s1 ⟨xs, H1, I1, r, z, q⟩ => ⟨by rw [← r.length]; exact z, ?_⟩)
  have hf : H1 s1.heap.objs.size = none := I1.hok.fresh (Nat.le_refl _)
  refine ⟨.ref s1.heap.objs.size, upd H1 s1.heap.objs.size (.tup xs), I1.laid (t' := s1.toks) (fun b u e => Heap.get?_push_of_some _ e) (Nat.le_refl _) ?_, rfl, q _ hf⟩
  exact ⟨z, us, r, ⟨_, Heap.get?_push_size _ rfl, rfl, _, rfl⟩⟩
theorem pe_lst (h : PA X es t) : PE X (.List es pos) (tLst t) := by
  intro pins s σ H Q I hq
  refine wpAny_List_spliced (thn (h pos pins s σ H _ I hq) fun us s1 ⟨xs, H1, I1, r, z, q⟩ => ⟨by rw [← r.length]; exact z, ?_⟩)
  have hf : H1 s1.heap.objs.size = none := I1.hok.fresh (Nat.le_refl _)
  refine ⟨.ref s1.heap.objs.size, upd H1 s1.heap.objs.size (.lst xs), I1.laid (t' := s1.toks) (fun b u e => Heap.get?_push_of_some _ e) (Nat.le_refl _) ?_, rfl, q _ hf⟩
  exact ⟨z, us, 0, r, Heap.get?_push_size _ rfl⟩
end

abbrev Sp := List V → Hp → VK → XK → Prop
abbrev CXT := List Env → Hp → Shared → XK → Value → Shared → Prop

structure Env0 (P : Program) (w : World) (K : PySem.W.Frag) (mg : Str → Option Value) (base : Heap) (A : Around) (outer : List Env) (s : Shared) (H : Hp) : Prop where
  frames : A.frames = some outer
  mod : Mod K mg base
  bs : ∀ b o, base.get? b = some o → s.heap.get? b = some o ∧ H b = none
  bsz : base.objs.size ≤ s.heap.objs.size
  funs : s.heap.FunFrames base outer
  frf : ∀ b ∈ frs outer, H b = none
  hok : HOk P w H s.heap
  bare : AllBare s.gens
def CE (outer : List Env) (P : Program) (w : World) (H : Hp) (s : Shared) (Q : VK) (u : Value) (s' : Shared) : Prop :=
  ∃ v H', s'.os = s.os ∧ AllBare s'.gens ∧ Un (frs outer) [] H H' s.heap s'.heap ∧ HOk P w H' s'.heap ∧ RelV v u ∧ Q v H'
def CR (CX : CXT) (outer : List Env) (P : Program) (w : World) (H : Hp) (s : Shared) (Q : VK) (E : XK) (r : Result) (s' : Shared) : Prop :=
  match r with
  | .ok (.ret u) => CE outer P w H s Q u s'
  | .ok _ => False
  | .error e => CX outer H s E e s'
structure FnOk (P : Program) (w : World) (K : PySem.W.Frag) (mg : Str → Option Value) (base : Heap) (CX : CXT) (k : Nat) (f : Addr) (fd : FuncData) (ps : List Str) (sp : Sp) : Prop where
  len : ∀ vs H Q E, sp vs H Q E → vs.length = ps.length
  run : ∀ (A : Around) (outer : List Env) (s : Shared) (H : Hp) (args : Args) (us : List Value) (vs : List V) (Q : VK) (E : XK), Room k A → Env0 P w K mg base A outer s H → BindsTo s fd args (ps.zip us) → Vals vs us → sp vs H Q E →
    codeAny (model P w) A (.call (.ref f) args) (CR CX outer P w H s Q E) s
theorem Env0.make {P : Program} {w : World} {K : PySem.W.Frag} {mg : Str → Option Value} {base : Heap} {A : Around} {outer : List Env} {s : Shared} {H : Hp} (e : Env0 P w K mg base A outer s H) (C : Addr) (us : List Value) (kw : List (Str × Value)) :
    Env0 P w K mg base (A.under (.builtin "type.__call__" ⟨.ref C :: us, kw⟩)) outer s H := ⟨by first | exact e.frames | (simpa [Around.under, Code.envs, Code.isFrame, pushEnvs] using e.frames), e.mod, e.bs, e.bsz, e.funs, e.frf, e.hok, e.bare⟩
section
variable {X : Cx} {pins : List (Addr × Obj)} {σ : St} {H : Hp} {s s' : Shared}
theorem Inv.env0 (I : Inv X pins σ H s) : Env0 X.prog X.w X.K X.mg X.base X.A X.stack s H :=
  ⟨I.ok.frames, I.ok.mod, I.bs, Nat.le_trans I.ok.bsz I.sz, I.stack, I.stkFree, I.hok, I.bare⟩
theorem Inv.after {Q : VK} {u : Value} (I : Inv X pins σ H s) (h : CE X.stack X.prog X.w H s Q u s') : EP X pins σ Q u s' := by
  obtain ⟨v, H', os, bare, un, hok, r, q⟩ := h
  obtain ⟨hh, g, d, t, os'⟩ := s'
  obtain rfl : os' = s.os := os
  exact ⟨v, H', I.call (h' := hh) (g' := g) (d' := d) (t' := t) (ch := []) un hok bare (fun b z => absurd z (by simp)), r, q⟩
end

def tCall (sp : Sp) (dvs : List V) (E : XK) (t : TA) : TE := fun σ H Q => t σ H fun vs H1 => sp (vs ++ dvs) H1 Q E
def tMeth (C : Addr) (m : Str) (sp : Sp) (dvs : List V) (E : XK) (ta : TE) (t : TA) : TE := fun σ H Q => ta σ H fun x H1 => ∃ a dx fs, x = .ref a ∧ H1 a = some (.ins C dx fs) ∧ fs.lookup m = none ∧
  t σ H1 fun vs H2 => sp (x :: (vs ++ dvs)) H2 Q E
def tMake (C : Addr) (sp : Sp) (dvs : List V) (E : XK) (t : TA) : TE := fun σ H Q => t σ H fun vs H1 => ∀ x dx, H1 x = none → H1 dx = none → dx ≠ x →
  sp (.ref x :: (vs ++ dvs)) (upd (upd H1 dx (.own x)) x (.ins C dx [])) (fun v H2 => v = .non ∧ Q (.ref x) H2) E

def Binds (K : PySem.W.Frag) (fd : FuncData) (ps : List Str) (ds : List Value) : Prop :=
  ∀ (s : Shared) (us : List Value), K.In s.heap → (us ++ ds).length = ps.length → BindsTo s fd ⟨us, []⟩ (ps.zip (us ++ ds))
theorem Binds.all {K : PySem.W.Frag} {fd : FuncData} {ps : List Str} (h : ∀ us : List Value, us.length = ps.length → bindArgs fd ⟨us, []⟩ = pure (ps.zip us)) : Binds K fd ps [] := fun s us _ hl => by
  rw [List.append_nil] at hl ⊢
  exact .of_eq (h us hl)

def Passes (CX : CXT) (X : Cx) (E : XK) : Prop := ∀ (pins : List (Addr × Obj)) (σ : St) (H : Hp) (s : Shared) (e : Value) (s' : Shared), Inv X pins σ H s → CX X.stack H s E e s' → X.xe e s'

section
variable {X : Cx} {CX : CXT} {k : Nat} {f C : Addr} {fd : FuncData} {ps : List Str} {sp : Sp} {dvs : List V} {ds : List Value} {E : XK} {x m : Str} {p pos apos : Pos} {e o : Expr} {es : List Expr} {ta : TE} {t : TA}

theorem run_fn {pins : List (Addr × Obj)} {σ : St} {H : Hp} {s : Shared} {Q : VK} {us : List Value} {vs : List V} (F : FnOk X.prog X.w X.K X.mg X.base CX k f fd ps sp) (hr : Room k X.A) (hb : Binds X.K fd ps ds) (hd : Vals dvs ds) (hx : Passes CX X E)
    (I : Inv X pins σ H s) (r : Vals vs us) (h : sp (vs ++ dvs) H Q E) : wpAny (model X.prog X.w) X.A (call (.ref f) us) (EP X pins σ Q) X.xe s := by
  have r2 : Vals (vs ++ dvs) (us ++ ds) := r.append hd
  have hl : (us ++ ds).length = ps.length := by rw [← r2.length]; exact F.len _ _ _ _ h
  refine wpAny_call (codeAny_mono (F.run X.A X.stack s H ⟨us, []⟩ (us ++ ds) (vs ++ dvs) Q E hr I.env0 (hb s us I.kIn hl) r2 h) fun r s' hq => ?_)
  cases r with
  | error e => exact hx pins σ H s e s' I hq
  | ok fl =>
    cases fl with
    | ret u => exact I.after hq
    | next => exact False.elim hq
    | brk => exact False.elim hq
    | cont => exact False.elim hq

theorem pe_call (F : FnOk X.prog X.w X.K X.mg X.base CX k f fd ps sp) (hr : Room k X.A) (hg : Gl X x) (hm : X.mg x = some (.ref f)) (hk : PySem.W.keepIn X.K (.ref f) = true) (hb : Binds X.K fd ps ds) (hd : Vals dvs ds) (hx : Passes CX X E)
    (ha : PA X (e :: es) t) (hdb : (x == ("__debug__" : Str)) = false := by decide) (he : starEach (e :: es) X.env = (false, eval e X.env) :: starEach es X.env := by rfl) (hpl : (backTo pos (starEach es X.env)).any (·.1) = false := by rfl) :
    PE X (.Call (.Name x p) (e :: es) [] pos) (tCall sp dvs E t) := by
  intro pins s σ H Q I h
  refine wpAny_Call_Name_kw (ld_glob I hg hm ?_ hdb)
  refine PySem.W.callWith_K (h₀ := X.base) I.ok.mod.kin hk (thn (ha pos pins s σ H _ I h) fun us s1 ⟨vs, H1, I1, r, q⟩ => ⟨I1.kIn, ?_⟩) he hpl
  exact run_fn F hr hb hd hx I1 r q
structure Mk (K : PySem.W.Frag) (C f : Addr) : Prop where
  makes : PySem.W.makesIn K C = true
  init : PySem.W.findIn K (.ref C) "__init__" = some (some (.ref f))
  fn : PySem.W.isFn K (.ref f) = true
  kp : PySem.W.keepIn K (.ref C) = true

end

def PK (X : Cx) (kws : List Keyword) (t : TA) : Prop :=
  ∀ (pos : Pos) (pins : List (Addr × Obj)) (s : Shared) (σ : St) (H : Hp) (Q : List V → Hp → Prop), Inv X pins σ H s → t σ H Q → wpAny (model X.prog X.w) X.A (evalAll ((backToKw pos (keywordEach kws X.env)).map (·.2))) (AP X pins σ Q) X.xe s
section
variable {X : Cx} {CX : CXT} {k : Nat} {f C : Addr} {fd : FuncData} {ps ks : List Str} {sp : Sp} {E : XK} {x m : Str} {p pos apos kpos : Pos} {e o : Expr} {es : List Expr} {kws : List Keyword} {te ta : TE} {t tk : TA} {nm : Option Str}
structure KBinds (K : PySem.W.Frag) (fd : FuncData) (ps ks : List Str) (g : List Value → List Value → List Value) (gV : List V → List V → List V) : Prop where
  to : ∀ (s : Shared) (us ws : List Value), K.In s.heap → (g us ws).length = ps.length → BindsTo s fd ⟨us, ks.zip ws⟩ (ps.zip (g us ws))
  rel : ∀ {vs : List V} {us : List Value} {zs : List V} {ws : List Value}, Vals vs us → Vals zs ws → Vals (gV vs zs) (g us ws)
def tCallK (sp : Sp) (gV : List V → List V → List V) (E : XK) (t tk : TA) : TE := fun σ H Q => t σ H fun vs H1 => tk σ H1 fun zs H2 => sp (gV vs zs) H2 Q E
variable {g : List Value → List Value → List Value} {gV : List V → List V → List V}
end

structure FnScope (N P : List Str) (sc : Scope) : Prop where
  kind : sc.kind = .function
  co : sc.isCoroutine = false
  gen : sc.isGenerator = false
  nd : N.Nodup
  pre : N.take P.length = P
  par : ∀ x ∈ P, sc.names.lookup x = some .local ∨ sc.names.lookup x = some .cell
  nofree : ∀ y ∈ sc.names, y.2 ≠ .free

theorem bindL_out {kindOf : Str → Option NameKind} {x : Str} : ∀ {binds : List (Str × Value)} {m : Str → Option Value}, (∀ v, (x, v) ∉ binds) → bindL kindOf binds m x = m x
  | [], _, _ => rfl
  | (n, v) :: r, m, h => by
    unfold bindL
    rw [bindL_out fun w hw => h w (List.mem_cons_of_mem _ hw)]
    split
    · have : x ≠ n := by rintro rfl; exact h v List.mem_cons_self
      simp [this]
    · rfl
theorem bindC_out {kindOf : Str → Option NameKind} {x : Str} : ∀ {binds : List (Str × Value)} {m : Str → Option Value}, (∀ v, (x, v) ∉ binds) → bindC kindOf binds m x = m x
  | [], _, _ => rfl
  | (n, v) :: r, m, h => by
    unfold bindC
    rw [bindC_out fun w hw => h w (List.mem_cons_of_mem _ hw)]
    split
    · rfl
    · have : x ≠ n := by rintro rfl; exact h v List.mem_cons_self
      simp [this]
theorem bindL_get {kindOf : Str → Option NameKind} {x : Str} {v : Value} : ∀ {P : List Str} {vs : List Value} {i : Nat} {m : Str → Option Value}, P.Nodup → P[i]? = some x → vs[i]? = some v → kindOf x = some .local →
    bindL kindOf (P.zip vs) m x = some v
  | [], _, _, _, _, h, _, _ => by simp at h
  | _ :: _, [], _, _, _, _, h, _ => by simp at h
  | p :: P, w :: vs, 0, m, nd, h1, h2, hk => by
    simp at h1 h2; subst h1; subst h2
    show bindL kindOf ((p, w) :: P.zip vs) m p = _
    unfold bindL
    rw [bindL_out fun v hv => (List.nodup_cons.mp nd).1 (List.of_mem_zip hv).1, if_pos hk]
    simp
  | p :: P, w :: vs, i + 1, m, nd, h1, h2, hk => by
    show bindL kindOf ((p, w) :: P.zip vs) m x = _
    unfold bindL
    exact bindL_get (i := i) (List.nodup_cons.mp nd).2 (by simpa using h1) (by simpa using h2) hk
theorem bindC_get {kindOf : Str → Option NameKind} {x : Str} {v : Value} : ∀ {P : List Str} {vs : List Value} {i : Nat} {m : Str → Option Value}, P.Nodup → P[i]? = some x → vs[i]? = some v → kindOf x ≠ some .local →
    bindC kindOf (P.zip vs) m x = some v
  | [], _, _, _, _, h, _, _ => by simp at h
  | _ :: _, [], _, _, _, _, h, _ => by simp at h
  | p :: P, w :: vs, 0, m, nd, h1, h2, hk => by
    simp at h1 h2; subst h1; subst h2
    show bindC kindOf ((p, w) :: P.zip vs) m p = _
    unfold bindC
    rw [bindC_out fun v hv => (List.nodup_cons.mp nd).1 (List.of_mem_zip hv).1, if_neg hk]
    simp
  | p :: P, w :: vs, i + 1, m, nd, h1, h2, hk => by
    show bindC kindOf ((p, w) :: P.zip vs) m x = _
    unfold bindC
    exact bindC_get (i := i) (List.nodup_cons.mp nd).2 (by simpa using h1) (by simpa using h2) hk

def start (N : List Str) (vs : List V) : St := vs.map some ++ List.replicate (N.length - vs.length) none

def cxOf (CX : CXT) (P : Program) (w : World) (K : PySem.W.Frag) (mg : Str → Option Value) (base : Heap) (N : List Str) (qual : Str) (scope : Scope) (f : Addr) (cd : Value) (A : Around) (outer : List Env) (s : Shared) (H : Hp) (E : XK) : Cx where
  prog := P
  w := w
  K := K
  mg := mg
  base := base
  A := A.deeper (envOfC qual scope s.heap.objs.size f cd)
  N := N
  s₀ := s
  H₀ := H
  env := envOfC qual scope s.heap.objs.size f cd
  outer := outer
  stack := envOfC qual scope s.heap.objs.size f cd :: outer
  ex := []
  calm := true
  fn := fun _ => true
  pn := []
  xe := fun e s' => wpAny (model P w) (A.deeper (envOfC qual scope s.heap.objs.size f cd)) (leaving (envOfC qual scope s.heap.objs.size f cd) e) (fun _ s'' => CX outer H s E e s'') (fun e' s'' => CX outer H s E e' s'') s'

theorem cell_has {sc : Scope} {n : Nat} {x : Str} (h : sc.names.lookup x = some .cell) : ∃ c, (cellsFrom n sc.names []).lookup x = some c := by
  have q := PySem.W.cellsFrom_some sc.names n [] (.inl h)
  exact Option.isSome_iff_exists.mp q

theorem inv_start {CX : CXT} {P : Program} {w : World} {K : PySem.W.Frag} {mg : Str → Option Value} {base : Heap} {N ps : List Str} {qual : Str} {scope : Scope} {f : Addr} {cd : Value} {A : Around} {outer : List Env} {s s1 : Shared} {H : Hp} {E : XK} {us : List Value} {vs : List V}
    (S : FnScope N ps scope) (hd : A.handled = none) (e0 : Env0 P w K mg base A outer s H) (hl : vs.length = ps.length) (r : Vals vs us)
    (x : InCallC s s.heap.objs.size (bindL (envOfC qual scope s.heap.objs.size f cd).kindOf (ps.zip us) fun _ => none) (cellsFrom (s.heap.objs.size + 1) scope.names []) (bindC (envOfC qual scope s.heap.objs.size f cd).kindOf (ps.zip us) fun _ => none) s1) :
    Inv (cxOf CX P w K mg base N qual scope f cd A outer s H E) [] (start N vs) H s1 := by
  have hpl : ps.length ≤ N.length := by have := congrArg List.length S.pre; rw [List.length_take] at this; omega
  obtain ⟨h1, tk, rfl, hk⟩ := x.done
  have noA : ∀ b : Addr, b ∉ (cxOf CX P w K mg base N qual scope f cd A outer s H E).ex := fun b z => absurd (show b ∈ ([] : List Addr) from z) (by simp)
  refine ⟨⟨e0.mod, S.kind, rfl, rfl, Nat.le_refl _, fun y z c h1 h2 => ?_, fun y hy => ?_, fun y c _ h => ?_, fun _ => hd, Around.frames_deeper e0.frames, .inr ⟨rfl, rfl⟩, fun b z => absurd z (noA b), e0.bs, e0.bsz, fun b _ _ => noA b, fun b z => absurd z (noA b), e0.funs, e0.frf⟩,
    rfl, e0.bare, Un.kept hk, ⟨_, x.toInCall.ns, fun i y v h1 h2 h3 => ?_⟩, fun y c h => ⟨_, x.cell y c h⟩, e0.hok.fresh (Nat.le_refl _), fun y c h => ?_, fun p hp => absurd (show p ∈ ([] : List (Addr × Obj)) from hp) (by simp), e0.hok.kept hk, ?_⟩
  · exact name_of_addr x.apart (PySem.mem_of_lookup h1) (PySem.mem_of_lookup h2)
  · have hy : scope.names.lookup y = some .cell ∨ scope.names.lookup y = some .free := hy
    rcases hy with hy | hy
    · exact cell_has hy
    · exact absurd rfl (S.nofree _ (PySem.mem_of_lookup hy))
  · exact Nat.le_of_lt (x.above y c (PySem.mem_of_lookup h))
  · have hi : i < vs.length := by
      unfold start at h2
      by_cases hi : i < vs.length
      · exact hi
      · rw [List.getElem?_append_right (by simpa using hi)] at h2
        rw [List.getElem?_replicate] at h2
        split at h2 <;> cases h2
    have ha : vs[i]? = some v := by
      unfold start at h2
      rw [List.getElem?_append_left (by simpa using hi), List.getElem?_map] at h2
      cases e : vs[i]? with
      | none => rw [e] at h2; cases h2
      | some a => rw [e] at h2; cases h2; rfl
    obtain ⟨u, hu, rv⟩ := r.get ha
    have hp : ps[i]? = some y := by
      rw [← S.pre, List.getElem?_take_of_lt (by omega)]; exact h1
    have ndP : ps.Nodup := by rw [← S.pre]; exact S.nd.sublist (List.take_sublist _ _)
    refine ⟨u, rv, ?_⟩
    rcases S.par y (List.mem_of_getElem? hp) with k | k
    · exact .inl ⟨k, bindL_get ndP hp hu k⟩
    · obtain ⟨c, e⟩ := cell_has (n := s.heap.objs.size + 1) k
      refine .inr ⟨.inl k, c, e, ?_⟩
      have q := x.cell y c e
      rw [bindC_get ndP hp hu (by show scope.names.lookup y ≠ _; rw [k]; decide)] at q
      exact q
  · exact e0.hok.fresh (Nat.le_of_lt (x.above y c (PySem.mem_of_lookup h)))
  · unfold start
    show _ = N.length
    rw [List.length_append, List.length_map, List.length_replicate]
    omega

theorem fn_of {CX : CXT} {P : Program} {w : World} {K : PySem.W.Frag} {mg : Str → Option Value} {base : Heap} {k : Nat} {f : Addr} {name qual : Str} {params : Arguments} {body : List Stmt} {scope : Scope} {dV kV doc pm cdv ct oc : Value} {an od : Option Addr}
    {osl : Array (Option Value)} {N ps : List Str} {sp : Sp} (lk : K.lookup f = some ⟨oc, od, .func (PySem.W.fnOf name qual params body scope dV kV doc pm an cdv ct), osl⟩) (hcd : PySem.W.codeIn K cdv qual = true) (S : FnScope N ps scope)
    (len : ∀ vs H Q E, sp vs H Q E → vs.length = ps.length)
    (hbody : ∀ (A : Around) (outer : List Env) (s : Shared) (H : Hp) (vs : List V) (Q : VK) (E : XK), Room k (A.deeper (envOfC qual scope s.heap.objs.size f cdv)) → sp vs H Q E →
      ∃ t, PSs (cxOf CX P w K mg base N qual scope f cdv A outer s H E) body t ∧ t { nx := fun _ H' => Q .non H', rt := Q } (start N vs) H) :
    FnOk P w K mg base CX (k + 1) f (PySem.W.fnOf name qual params body scope dV kV doc pm an cdv ct) ps sp := by
  refine ⟨len, fun A outer s H args us vs Q E hr e0 hb r hsp => ?_⟩
  have hl := len _ _ _ _ hsp
  have KX : K.In s.heap := e0.mod.kin.keeps fun b o e => (e0.bs b o e).1
  have lim : s.heap.NoLimit := e0.mod.nolimit.keeps fun b o e => (e0.bs b o e).1
  have hkind : ∀ y ∈ ps.zip us, scope.names.lookup y.1 = some .local ∨ (scope.names.lookup y.1 = some .cell ∧ ((cellsFrom (s.heap.objs.size + 1) scope.names []).lookup y.1).isSome = true) := fun ⟨n, v⟩ hy => by
    rcases S.par n (List.of_mem_zip hy).1 with q | q
    · exact .inl q
    · exact .inr ⟨q, PySem.W.cellsFrom_some _ _ _ (.inl q)⟩
  refine codeAny_call_function hr.depth (KX _ _ lk) rfl S.co S.gen rfl (PySem.W.codeRec_of KX hcd) (hb _ _ _ _ ?_)
  refine wpAny_newFunctionEnv_cells S.kind hkind fun env he s1 x => ?_
  subst he
  refine ⟨lim.keeps x.toInCall.keep, codeAny_func ?_⟩
  obtain ⟨t, ht, hq⟩ := hbody A outer s H vs Q E (hr.deeper _) hsp
  have I : Inv (cxOf CX P w K mg base N qual scope f cdv A outer s H E) [] (start N vs) H s1 := inv_start S hr.hd e0 hl r x
  refine wpAny_mono (ht [] s1 (start N vs) H _ I hq) (fun fl s' hs => ?_) fun e s' hs => hs
  have fin : ∀ {σ' : St} {H' : Hp} {v : V} {u : Value}, Inv (cxOf CX P w K mg base N qual scope f cdv A outer s H E) [] σ' H' s' → RelV v u → Q v H' → CE outer P w H s Q u s' :=
    fun {σ' H' v u} J rv q => ⟨v, H', J.os, J.bare, J.base, J.hok, rv, q⟩
  cases fl with
  | ret u =>
    obtain ⟨v, σ', H', J, rv, q⟩ := hs
    exact fin J rv q
  | next =>
    obtain ⟨σ', H', J, q⟩ := hs
    exact fin (v := V.non) (u := Value.none) J rfl q
  | brk =>
    obtain ⟨_, _, _, q⟩ := hs
    exact False.elim q
  | cont =>
    obtain ⟨_, _, _, q⟩ := hs
    exact False.elim q
end L2

namespace L2
open PySem PySem.Spec PyProof.Rows
section
variable {X : Cx} {x : Str} {p pos : Pos} {e : Expr} {es : List Expr} {t : TA} {id T : String} {r : List V → Hp → VK → Prop}

def tCB (r : List V → Hp → VK → Prop) (t : TA) : TE := fun σ H Q => t σ H fun vs H1 => r vs H1 Q
theorem pe_callB (hc : CallR X (.builtin id) r) (hg : Gl X x) (hm : X.mg x = none) (hv : bootBuiltins x = some (.builtin id)) (ha : PA X (e :: es) t) (hn : x ≠ "__name__" := by decide) (hdb : (x == ("__debug__" : Str)) = false := by decide)
    (he : starEach (e :: es) X.env = (false, eval e X.env) :: starEach es X.env := by rfl) (hpl : (backTo pos (starEach es X.env)).any (·.1) = false := by rfl) : PE X (.Call (.Name x p) (e :: es) [] pos) (tCB r t) := by
  intro pins s σ H Q I h
  refine wpAny_Call_Name_kw (ld_blt I hg hm hv ?_ hn hdb)
  exact PyProof.Rows.callWith_builtin1 (thn (ha pos pins s σ H _ I h) fun us s1 ⟨vs, H1, I1, r1, q1⟩ => hc pins s1 σ H1 vs us Q I1 r1 q1) he hpl
end
end L2

namespace HT
open PySem PyProof.Rows

def lexLt : List Int → List Int → Bool
  | [], [] => false
  | [], _ :: _ => true
  | _ :: _, [] => false
  | x :: xs, y :: ys => if x = y then lexLt xs ys else decide (x < y)
section
open PySem.SeqAt
open PySem.AutoSeq1 (wpAny_loadPart')
open PySem.MeetsSeq PySem.MeetsSeq2 PySem.MeetsSeq3

end

section
variable {prog : Program} {w : World} {A : Around} {E : Value → Shared → Prop} {s : Shared}

def sIx (n d : Nat) : Option Int → Nat
  | none => d
  | some v => if v < 0 then (v + (n : Int)).toNat else min v.toNat n
end
end HT

namespace L2
open PySem PySem.Spec PyProof.Rows

abbrev TO := St → Hp → (Option Int → Hp → Prop) → Prop
def PO (X : Cx) (e : Option Expr) (t : TO) : Prop :=
  ∀ (pins : List (Addr × Obj)) (s : Shared) (σ : St) (H : Hp) (Q : Option Int → Hp → Prop), Inv X pins σ H s → t σ H Q →
    wpAny (model X.prog X.w) X.A (evalPart e X.env) (fun u s' => ∃ o H', Inv X pins σ H' s' ∧ IsPart u o ∧ Q o H') X.xe s
def tNoPart : TO := fun _ H Q => Q none H
def tPart (t : TE) : TO := fun σ H Q => t σ H fun x H1 => ∃ i, x = .int i ∧ Q (some i) H1

section
variable {X : Cx} {e : Expr} {te : TE} {lo hi : Option Expr} {tl th : TO} {pos p2 : Pos}

def SlR (X : Cx) (r : V → Option Int → Option Int → Hp → VK → Prop) : Prop :=
  ∀ (pins : List (Addr × Obj)) (s : Shared) (σ : St) (H : Hp) (x : V) (v vl vu : Value) (lo hi : Option Int) (sl : Addr) (Q : VK), Inv X pins σ H s → RelV x v → s.heap.IsSliceOf sl vl vu .none → IsPart vl lo → IsPart vu hi → r x lo hi H Q →
    ∃ T id, typeLookup (.type T) "__getitem__" = pure (some (.builtin id)) ∧ s.TypeIs v T ∧ wpAny (model X.prog X.w) X.A (getItem v (.ref sl)) (EP X pins σ Q) X.xe s
def tSl (r : V → Option Int → Option Int → Hp → VK → Prop) (te : TE) (tl th : TO) : TE := fun σ H Q => te σ H fun x H1 => tl σ H1 fun l H2 => th σ H2 fun u H3 => r x l u H3 Q
def cutV (xs : List V) (lo hi : Option Int) : List V := (xs.drop (HT.sIx xs.length 0 lo)).take (HT.sIx xs.length xs.length hi - HT.sIx xs.length 0 lo)
def rSlT (K : PySem.W.Frag) : V → Option Int → Option Int → Hp → VK → Prop := fun x lo hi H Q => ∃ a xs, x = .ref a ∧ SqT K H a xs ∧
  ¬ (HT.sIx xs.length 0 lo = 0 ∧ HT.sIx xs.length xs.length hi = xs.length) ∧ ∀ p, H p = none → Q (.ref p) (upd H p (.tup (cutV xs lo hi)))
def rLtT (K : PySem.W.Frag) : R2 := fun x y H Q => ∃ a b ns ms, x = .ref a ∧ y = .ref b ∧ SqT K H a (ns.map V.int) ∧ SqT K H b (ms.map V.int) ∧ Q (.bl (HT.lexLt ns ms)) H
def rCatT (K : PySem.W.Frag) : R2 := fun x y H Q => ∃ a b xs ys, x = .ref a ∧ y = .ref b ∧ SqT K H a xs ∧ SqT K H b ys ∧ xs ≠ [] ∧ xs.length + ys.length ≤ sizeLine ∧
  (ys = [] → Q (.ref a) H) ∧ (ys ≠ [] → ∀ p, H p = none → Q (.ref p) (upd H p (.tup (xs ++ ys))))
end
end L2

namespace L2
open PySem PySem.Spec PyProof.Rows

def ixN (n : Nat) (i : Int) : Option Nat := if 0 ≤ i then (if i < n then some i.toNat else none) else if -(n : Int) ≤ i then some (i + n).toNat else none
def atI {α : Type} (xs : List α) (i : Int) : Option α := (ixN xs.length i).bind fun j => xs[j]?
theorem ixN_seq {n : Nat} {i : Int} {j : Nat} (h : ixN n i = some j) : seqIndex? i n = some j ∧ j < n ∧ -(n : Int) ≤ i ∧ i < n := by
  unfold ixN at h
  by_cases h0 : 0 ≤ i
  · rw [if_pos h0] at h
    by_cases h1 : i < n
    · rw [if_pos h1] at h
      have e : i.toNat = j := Option.some.inj h
      exact ⟨by rw [seqIndex_of h0 h1, e], by omega, by omega, h1⟩
    · rw [if_neg h1] at h; cases h
  · rw [if_neg h0] at h
    by_cases h1 : -(n : Int) ≤ i
    · rw [if_pos h1] at h
      have e : (i + n).toNat = j := Option.some.inj h
      exact ⟨by rw [seqIndex_neg (by omega) h1, e], by omega, h1, by omega⟩
    · rw [if_neg h1] at h; cases h
theorem atI_get {α : Type} {xs : List α} {i : Int} {v : α} (h : atI xs i = some v) : ∃ j, seqIndex? i xs.length = some j ∧ xs[j]? = some v ∧ j < xs.length ∧ -(xs.length : Int) ≤ i ∧ i < xs.length := by
  unfold atI at h
  cases e : ixN xs.length i with
  | none => rw [e] at h; cases h
  | some j =>
    rw [e] at h
    obtain ⟨h1, h2, h3, h4⟩ := ixN_seq e
    exact ⟨j, h1, h, h2, h3, h4⟩
theorem atI_nat {α : Type} {xs : List α} {j : Nat} {v : α} (h : xs[j]? = some v) : atI xs (j : Int) = some v := by
  have hj : j < xs.length := (List.getElem?_eq_some_iff.mp h).1
  have e : ixN xs.length (j : Int) = some j := by
    unfold ixN
    rw [if_pos (by omega), if_pos (by omega)]; simp
  unfold atI; rw [e]; exact h
def PlainIx (b : Expr) : Prop := ∀ o i, subscripted b false o i = operate [o, i] (getItem o i)
def IxR (X : Cx) (r : R2) : Prop :=
  ∀ (value slice : Expr) (pins : List (Addr × Obj)) (s : Shared) (σ : St) (H : Hp) (x y : V) (v u : Value) (Q : VK), Inv X pins σ H s → RelV x v → RelV y u → r x y H Q →
    subscripted slice false v u = operate [v, u] (getItem v u) → wpAny (model X.prog X.w) X.A (subscriptTail value slice v u) (EP X pins σ Q) X.xe s
def MtR (X : Cx) (id : String) (r : V → List V → Hp → VK → Prop) : Prop :=
  ∀ (pins : List (Addr × Obj)) (s : Shared) (σ : St) (H : Hp) (x : V) (xs : List V) (v : Value) (us : List Value) (Q : VK), Inv X pins σ H s → RelV x v → Vals xs us → r x xs H Q →
    wpAny (model X.prog X.w) X.A (call (.builtin id) (v :: us)) (EP X pins σ Q) X.xe s
section
variable {X : Cx} {a b : Expr} {ta tb : TE} {pos : Pos}
theorem pe_ix {r : R2} (hr : IxR X r) (ha : PE X a ta) (hb : PE X b tb) (hs : PlainIx b) : PE X (.Subscript a b pos) (tOp r ta tb) := by
  intro pins s σ H Q I h
  exact Subscript_ (binT ha hb I h fun v u s2 x y H2 I2 rx ry q => hr a b pins s2 σ H2 x y v u Q I2 rx ry q (hs _ _))

def rIxL (K : PySem.W.Frag) : R2 := fun x y H Q => ∃ p xs i v, x = .ref p ∧ y = .int i ∧ SqL K H p xs ∧ atI xs i = some v ∧ Q v H
def rIxT (K : PySem.W.Frag) : R2 := fun x y H Q => ∃ p xs i v, x = .ref p ∧ y = .int i ∧ SqT K H p xs ∧ atI xs i = some v ∧ Q v H
def rIxS : R2 := fun x y H Q => ∃ z i c, x = .str z ∧ y = .int i ∧ z.length ≤ sizeLine ∧ atI z.cps.toList i = some c ∧ Q (.str ⟨#[c]⟩) H
theorem ix_list : IxR X (rIxL X.K) := by
  intro value slice pins s σ H x y v u Q I rx ry h hs
  obtain ⟨p, xs, i, z, rfl, rfl, hq, he, q⟩ := h
  cases rx
  obtain ⟨t, rfl⟩ := ry
  obtain ⟨its, r, pl, hz⟩ := I.list hq
  obtain ⟨j, h1, h2, h3, h4, h5⟩ := atI_get he
  obtain ⟨w, ew, rw'⟩ := r.get h2
  have hl := r.length
  have hn := line63
  have fin : EP X pins σ Q w s := ⟨z, H, I, rw', q⟩
  by_cases h0 : 0 ≤ i
  · have hj : i.toNat = j := by
      rw [seqIndex_of h0 h5] at h1
      exact Option.some.inj h1
    exact item_listR pl.isList h0 (by omega) (by rw [hj]; simpa using ew) fin hs
  · have hj : (i + (its.toArray.size : Int)).toNat = j := by
      rw [seqIndex_neg (by omega) h4] at h1
      rw [List.size_toArray, ← hl]
      exact Option.some.inj h1
    exact subscriptTail_builtinR (x := w) pl.isList.typeIs slot_list_getitem.lookup
      (wpAny_getItem_list_neg (Q := fun r s' => r = w ∧ EP X pins σ Q r s') pl.isList (by omega) (by rw [List.size_toArray] <;> omega) (by omega) (by rw [hj]; simpa using ew) ⟨rfl, fin⟩) hs
theorem ix_tup : IxR X (rIxT X.K) := by
  intro value slice pins s σ H x y v u Q I rx ry h hs
  obtain ⟨p, xs, i, z, rfl, rfl, hq, he, q⟩ := h
  cases rx
  obtain ⟨t, rfl⟩ := ry
  obtain ⟨its, r, pl, hz⟩ := I.tuple hq
  obtain ⟨j, h1, h2, h3, h4, h5⟩ := atI_get he
  obtain ⟨w, ew, rw'⟩ := r.get h2
  have hl := r.length
  have hn := line63
  have fin : EP X pins σ Q w s := ⟨z, H, I, rw', q⟩
  exact subscriptTail_builtinR (x := w) pl.typeIs slot_tuple_getitem.lookup
    (getItem_tuple (j := j) (Q := fun r s' => r = w ∧ EP X pins σ Q r s') pl (by omega) (by omega) (by rw [List.size_toArray, ← hl]; exact h1) (by simpa using ew) ⟨rfl, fin⟩) hs
def rIx (K : PySem.W.Frag) : R2 := fun x y H Q => rIxL K x y H Q ∨ rIxT K x y H Q ∨ rIxS x y H Q
def rSetL : V → V → V → Hp → (Hp → Prop) → Prop := fun o i v H Q => ∃ p xs k j, o = .ref p ∧ i = .int k ∧ H p = some (.lst xs) ∧ ixN xs.length k = some j ∧ Q (upd H p (.lst (xs.set j v)))
def rSlL (K : PySem.W.Frag) : V → Option Int → Option Int → Hp → VK → Prop := fun x lo hi H Q => ∃ a xs, x = .ref a ∧ SqL K H a xs ∧ ∀ p, H p = none → Q (.ref p) (upd H p (.lst (cutV xs lo hi)))
def flatV : V → Bool
  | .non => true
  | .bl _ => true
  | .int _ => true
  | .str _ => true
  | _ => false
def eqV : V → V → Bool
  | .non, .non => true
  | .bl a, .bl b => a == b
  | .bl a, .int b => (if a then 1 else 0) == b
  | .int a, .bl b => a == (if b then 1 else 0)
  | .int a, .int b => a == b
  | .str a, .str b => a == b
  | _, _ => false
def eqU (x : V) (u : Value) : Bool := match u with
  | .none => eqV .non x
  | .bool b => eqV (.bl b) x
  | .int i _ => eqV (.int i) x
  | .str z _ => eqV (.str z) x
  | _ => false
def inV (x : V) (xs : List V) : Bool := xs.any fun y => eqV y x
def rIn (K : PySem.W.Frag) (neg : Bool) : R2 := fun x y H Q => ∃ p xs, y = .ref p ∧ (SqL K H p xs ∨ SqT K H p xs) ∧ flatV x = true ∧ xs.all flatV = true ∧ Q (.bl (if neg then !inV x xs else inV x xs)) H
theorem call_len_seq : CallR X (.builtin "len") (fun xs H Q => ∃ p ys, xs = [.ref p] ∧ (SqL X.K H p ys ∨ SqT X.K H p ys) ∧ Q (.int ys.length) H) := by
  intro pins s σ H xs us Q I r h
  obtain ⟨p, ys, rfl, hq, q⟩ := h
  obtain ⟨u, rfl, rx⟩ := vals1 r
  cases rx
  have hn := line63
  rcases hq with hq | hq
  · obtain ⟨its, r', pl, hz⟩ := I.list hq
    have hlen := r'.length
    exact Calls.call_len_list pl.isList (by simp only [List.size_toArray] <;> omega) ⟨.int ys.length, H, I.tok _, ⟨s.toks + 1, by rw [List.size_toArray, hlen]⟩, q⟩
  · obtain ⟨its, r', pl, hz⟩ := I.tuple hq
    have hlen := r'.length
    exact len_tuple pl (by simp only [List.size_toArray] <;> omega) ⟨.int ys.length, H, I.tok _, ⟨s.toks + 1, by rw [List.size_toArray, hlen]⟩, q⟩
def tyV (K : PySem.W.Frag) (T : String) (x : V) (H : Hp) : Prop := match x with
  | .str _ => T = "str"
  | .int _ => T = "int"
  | .ref p => (T = "list" ∧ ∃ xs, SqL K H p xs) ∨ (T = "tuple" ∧ ∃ o, K.lookup p = some o ∧ o.cls = .type "tuple" ∧ o.dict = none) ∨
      (T = "dict" ∧ ((∃ kvs, H p = some (.dK kvs)) ∨ ∃ kvs, H p = some (.dT kvs))) ∨ (T = "set" ∧ ∃ S n, H p = some (.set S n))
  | _ => False
theorem tyV_is {pins : List (Addr × Obj)} {σ : St} {H : Hp} {s : Shared} {T : String} {x : V} {v : Value} (I : Inv X pins σ H s) (r : RelV x v) (ty : tyV X.K T x H) :
    s.TypeIs v T ∧ ∀ a, v = .ref a → ∃ ob, s.heap.get? a = some ob ∧ ob.dict = none := by
  cases x with
  | str z =>
    obtain ⟨t, rfl⟩ := r
    cases (show T = "str" from ty)
    exact ⟨typeIs_str s z t, fun _ e => nomatch e⟩
  | int i =>
    obtain ⟨t, rfl⟩ := r
    cases (show T = "int" from ty)
    exact ⟨typeIs_int s i t, fun _ e => nomatch e⟩
  | ref p =>
    cases r
    rcases ty with ⟨rfl, xs, hq⟩ | ⟨rfl, o, hk, hc, hd⟩ | ⟨rfl, hk⟩ | ⟨rfl, S, n, hk⟩
    · obtain ⟨its, _, pl, _⟩ := I.list hq
      refine ⟨pl.isList.typeIs, fun a e => ?_⟩
      cases e
      obtain ⟨o, n, e, c, hd, _⟩ := pl
      exact ⟨o, e, hd⟩
    · refine ⟨⟨o, I.kIn p o hk, hc⟩, fun a e => ?_⟩
      cases e
      exact ⟨o, I.kIn _ o hk, hd⟩
    · have z : ∃ o, s.heap.get? p = some o ∧ o.ExactDict := by
        rcases hk with ⟨kvs, hk⟩ | ⟨kvs, hk⟩
        · obtain ⟨_, _, _, _, o, _, _, e, ex, _⟩ := I.hok p _ hk
          exact ⟨o, e, ex⟩
        · obtain ⟨_, _, _, _, o, _, _, e, ex, _⟩ := I.hok p _ hk
          exact ⟨o, e, ex⟩
      obtain ⟨o, e, ex⟩ := z
      refine ⟨⟨o, e, ex.1⟩, fun a e2 => ?_⟩
      cases e2
      exact ⟨o, e, ex.2.1⟩
    · obtain ⟨o, _, _, _, e, ex, _⟩ := I.hok p _ hk
      refine ⟨⟨o, e, ex.1⟩, fun a e2 => ?_⟩
      cases e2
      exact ⟨o, e, ex.2.1⟩
  | _ => exact False.elim ty
def tBM0 (K : PySem.W.Frag) (T : String) (r : V → List V → Hp → VK → Prop) (to : TE) : TE := fun σ H Q => to σ H fun x H1 => tyV K T x H1 ∧ r x [] H1 Q
def tBM (K : PySem.W.Frag) (T : String) (r : V → List V → Hp → VK → Prop) (to : TE) (t : TA) : TE := fun σ H Q => to σ H fun x H1 => tyV K T x H1 ∧ t σ H1 fun xs H2 => r x xs H2 Q
variable {o e : Expr} {es : List Expr} {to : TE} {t : TA} {name : Str} {apos cpos : Pos} {T id : String} {r : V → List V → Hp → VK → Prop}
theorem pe_bm (pa : PlainAttrs T) (slot : Slot T name id) (hty : typeOf (.builtin id) = pure (.type "method_descriptor")) (hm : MtR X id r) (ho : PE X o to) (ha : PA X (e :: es) t)
    (hbase : attributeBase o name X.env (eval o X.env) = eval o X.env := by rfl)
    (hfew : ((backTo cpos (starEach (e :: es) X.env)).all (fun x => !x.1) && (backToKw cpos (keywordEach [] X.env)).all (fun x => x.1.isSome)
      && decide ((e :: es).length + ([] : List Keyword).length + (if ([] : List Keyword).isEmpty then 0 else 1) < 30)) = true := by rfl)
    (hline : (apos.endLine == cpos.line) = true := by rfl) (hs : starEach (e :: es) X.env = (false, eval e X.env) :: starEach es X.env := by rfl) (hplain : (backTo cpos (starEach es X.env)).any (·.1) = false := by rfl) :
    PE X (.Call (.Attribute o name apos) (e :: es) [] cpos) (tBM X.K T r to t) := by
  intro pins s σ H Q I h
  refine wpAny_Call_method_late hbase hfew hline rfl (thn (ho pins s σ H _ I h) fun v s1 ⟨x, H1, I1, r1, ty, q1⟩ => ?_)
  obtain ⟨h1, h2⟩ := tyV_is I1 r1 ty
  refine ⟨T, id, pa, slot, hty, h1, h2, ?_⟩
  have hA := ha cpos pins s1 σ H1 _ I1 q1
  rw [hs] at hA ⊢
  refine Calls.callWith_builtin (by show (false || (backTo cpos (starEach es X.env)).any (·.1)) = false; rw [hplain] <;> rfl) (Calls.evalArgs_plain ?_)
  exact thn hA fun us s2 ⟨vs, H2, I2, r2, q2⟩ => hm pins s2 σ H2 x vs v us Q I2 r1 r2 q2
/- xs.append(e), list.index on a module's tuple .. are MtR facts of 06m -/
end
end L2

namespace L2
open PySem PySem.Spec PyProof.Rows

def MtM (X : Cx) (id : String) (r : V → List V → Hp → VK → Prop) : Prop :=
  ∀ (pins : List (Addr × Obj)) (s : Shared) (σ : St) (H : Hp) (x : V) (xs : List V) (v : Value) (us : List Value) (Q : VK), Inv X pins σ H s → RelV x v → Vals xs us → r x xs H Q →
    wpAny (model X.prog X.w) X.A (call (.builtin id) (v :: us)) (EP X pins σ Q) X.xe s

theorem Vals.one : ∀ {x : V} {us : List Value}, Vals [x] us → ∃ u, us = [u] ∧ RelV x u
  | _, _, .cons r .nil => ⟨_, rfl, r⟩
theorem Vals.two : ∀ {x y : V} {us : List Value}, Vals [x, y] us → ∃ u v, us = [u, v] ∧ RelV x u ∧ RelV y v
  | _, _, _, .cons r (.cons q .nil) => ⟨_, _, rfl, r, q⟩
section
variable {X : Cx} {pins : List (Addr × Obj)} {σ : St} {H : Hp} {s : Shared} {l b : Addr} {xs ys zs : List V}

theorem Inv.lnew {its : List Value} {t' : Nat} (I : Inv X pins σ H s) (hv : Vals ys its) (hz : ys.length ≤ sizeLine) :
    Inv X pins σ (upd H s.heap.objs.size (.lst ys)) { s with heap := s.heap.push { cls := .type "list", data := .seq its.toArray }, toks := t' } :=
  I.laid (fun _ _ q => Heap.get?_push_of_some _ q) (Nat.le_refl _) ⟨hz, its, 0, hv, Heap.get?_push_size _ rfl⟩
theorem Inv.fresh (I : Inv X pins σ H s) : H s.heap.objs.size = none := I.hok.fresh (Nat.le_refl _)
theorem Inv.lstM (I : Inv X pins σ H s) (hH : H l = some (.lst xs)) : xs.length ≤ sizeLine ∧ ∃ (its : List Value) (n : Nat), Vals xs its ∧ xs.length = its.length ∧ s.heap.get? l = some { cls := .type "list", data := .seq its.toArray n } := by
  obtain ⟨z, its, n, r, e⟩ := I.hok l _ hH
  exact ⟨z, its, n, r, r.length, e⟩

end

section
variable {X : Cx}

def rAppend : V → List V → Hp → VK → Prop := fun x vs H Q => ∃ l xs y, x = .ref l ∧ vs = [y] ∧ H l = some (.lst xs) ∧ xs.length < sizeLine ∧ Q .non (upd H l (.lst (xs ++ [y])))
def rExtend : V → List V → Hp → VK → Prop := fun x vs H Q => ∃ l b xs zs, x = .ref l ∧ vs = [.ref b] ∧ H l = some (.lst xs) ∧ H b = some (.lst zs) ∧ xs.length + zs.length ≤ sizeLine ∧ Q .non (upd H l (.lst (xs ++ zs)))
def rPop : V → List V → Hp → VK → Prop := fun x vs H Q => ∃ l xs y, x = .ref l ∧ vs = [] ∧ H l = some (.lst xs) ∧ xs[xs.length - 1]? = some y ∧ Q y (upd H l (.lst xs.dropLast))
def rPopAt : V → List V → Hp → VK → Prop := fun x vs H Q => ∃ l xs i k y, x = .ref l ∧ vs = [.int i] ∧ H l = some (.lst xs) ∧ -(2 ^ 63) ≤ i ∧ i < 2 ^ 63 ∧ seqIndex? i xs.length = some k ∧ xs[k]? = some y ∧ Q y (upd H l (.lst (xs.eraseIdx k)))
def rReverse : V → List V → Hp → VK → Prop := fun x vs H Q => ∃ l xs, x = .ref l ∧ vs = [] ∧ H l = some (.lst xs) ∧ Q .non (upd H l (.lst xs.reverse))
def rClear : V → List V → Hp → VK → Prop := fun x vs H Q => ∃ l xs, x = .ref l ∧ vs = [] ∧ H l = some (.lst xs) ∧ Q .non (upd H l (.lst []))
def rCat : R2 := fun x y H Q => ∃ l b xs zs, x = .ref l ∧ y = .ref b ∧ H l = some (.lst xs) ∧ H b = some (.lst zs) ∧ xs.length + zs.length ≤ sizeLine ∧ ∀ p, H p = none → Q (.ref p) (upd H p (.lst (xs ++ zs)))
theorem op_cat : OpR X (binaryOp .Add) rCat := by
  intro pins s σ H x y v u Q I rx ry h
  obtain ⟨l, b, xs, zs, rfl, rfl, hH, hB, hz, q⟩ := h
  cases rx
  cases ry
  obtain ⟨z, its, n, r, hl, e⟩ := I.lstM hH
  obtain ⟨z2, its2, n2, r2, hl2, e2⟩ := I.lstM hB
  refine PySem.P.add_list e e2 ?_ (by rw [List.size_toArray, List.size_toArray]; omega)
  have ea : its.toArray ++ its2.toArray = (its ++ its2).toArray := by simp
  rw [ea]
  exact ⟨.ref _, _, I.lnew (t' := s.toks) (r.append r2) (by rw [List.length_append]; omega), rfl, q _ I.fresh⟩
def rRep : R2 := fun x y H Q => ∃ l k xs, x = .ref l ∧ y = .int k ∧ H l = some (.lst xs) ∧ -(2 ^ 63) ≤ k ∧ k < 2 ^ 63 ∧ xs.length * k.toNat ≤ sizeLine ∧
  ∀ p, H p = none → Q (.ref p) (upd H p (.lst (List.replicate k.toNat xs).flatten))
end

section
variable {prog : Program} {w : World} {A : Around} {E : Value → Shared → Prop} {s : Shared}
end

section
variable {X : Cx}
end
end L2

namespace Att
open PySem PySem.W PySem.Calls PyProof.Rows

theorem ints_of_wellAll {P : Params} {h : Heap} : ∀ (ns : List Int) (vs : List Value), WellAll P h vs (ns.map WData.int) → IntsAre vs ns := by
  intro ns
  induction ns with
  | nil =>
    intro vs w
    rw [List.map_nil] at w
    cases w
    exact .nil
  | cons n ns ih =>
    intro vs w
    rw [List.map_cons] at w
    cases w with
    | cons a b =>
      cases a
      exact .cons _ _ (ih _ b)

theorem script_of {l : OpenLaw} {n : Nat} (hn : l.most = some n) {P : Params} {h : Heap} {args : List WData} {vals : List Value}
    (hpre : l.row.toRowW.claim.pre args = true) (hwl : WellAll P h vals args) :
    ∃ a vs ns, vals = [Value.ref a] ∧ args = [WData.list (ns.map WData.int)] ∧ h.get? a = some { cls := .type "list", data := .seq vs.toArray } ∧ IntsAre vs ns ∧ ns.length ≤ n := by
  have hsh : WShape.hasAll [] args [.list .int] = true := (pre_splitW hpre).1
  have hc : l.pre.holds [] { args := args } = true := (pre_splitW hpre).2
  obtain ⟨d, r, rfl, h1, h2⟩ := hasAllW_cons hsh
  obtain rfl := hasAllW_nil h2
  obtain ⟨xs, rfl, h3⟩ := hasW_list h1
  obtain ⟨ns, rfl⟩ := items_int h3
  have hlen : ns.length ≤ n := by
    unfold OpenLaw.pre at hc
    have h4 : (WTm.not (.lt (.lit (.int (n : Int))) (.len (.arg 0)))).holds [] { args := [.list (ns.map .int)] } = true := by
      have h4 := (holds_andW hc).1
      rw [hn] at h4
      exact h4
    have h5 := condW_of h4 (w_not (w_lt w_lit (w_len_list (w_arg rfl))))
    rw [List.length_map] at h5
    refine Nat.le_of_not_lt fun q => ?_
    have q' : (n : Int) < ((ns.length : Nat) : Int) := by omega
    first
      | (rw [decide_eq_true q'] at h5; exact absurd h5 (by decide))
      | (simp at h5; omega)
  cases hwl with
  | cons w1 w2 =>
    cases w2
    cases w1 with
    | list ho hall => exact ⟨_, _, ns, rfl, rfl, ho, ints_of_wellAll ns _ hall, hlen⟩

theorem post_true (l : OpenLaw) (args : List WData) : l.row.toRowW.claim.post args (.bool true) args = true :=
  postW_of (r := l.row.toRowW) (X := (true == true))
    (show WShape.has [] (.bool true) .bool = true by first | rfl | decide | simp [WShape.has, WShape.arms, WShape.armsAll])
    (show (WTm.eq .res (.lit (.bool true))).value [] { args := args, res := some (.bool true), after := args } = some (.bool (true == true)) from w_eq_bool (w_res rfl) w_lit) rfl

section
variable {prog : Program} {w : World} {A : Around} {E : Value → Shared → Prop} {s : Shared} {K : Frag}

def noObjs (h : Heap) : Heap := { h with objs := #[] }
def ledger (h : Heap) (L d : Addr) : List (Addr × Obj) := (List.range h.objs.size).filterMap fun a => if a = L ∨ a = d then none else (h.get? a).map fun o => (a, o)
end
end Att

namespace L2
open PySem PySem.Spec PyProof.Rows

theorem vals_ints : ∀ {vs : List Value} {ns : List Int}, IntsAre vs ns → Vals (ns.map V.int) vs
  | _, _, .nil => .nil
  | _, _, .cons n t h => .cons ⟨t, rfl⟩ (vals_ints h)

def Only (H : Hp) : Prop := ∀ b, H b = none ∨ ∃ o xs, H b = some (.frz o (.lst xs))

theorem law_call {P : Program} {w : World} {K : PySem.W.Frag} {mg mb : Str → Option Value} {CX : CXT} {k : Nat} {fa a : Addr} {fd : FuncData} {x : Str} {sp : Sp} {s₁ : Shared} {vs : List Value} {ns : List Int}
    (KX : K.In s₁.heap) (hns : s₁.heap.Ns mainGlobals mg) (hb : s₁.heap.Ns builtinsNs mb) (hbb : ∀ x : Str, x ≠ "__name__" → mb x = bootBuiltins x) (hlim : s₁.heap.NoLimit) (hg : s₁.gens = #[])
    (ha : s₁.heap.get? a = some { cls := .type "list", data := .seq vs.toArray }) (hi : IntsAre vs ns) (hl : ns.length ≤ sizeLine) (hr : Room k callerA)
    (F : ∀ base : Heap, K.In base → base.Ns mainGlobals mg → FnOk P w K mg base CX k fa fd [x] sp) (hbind : ∀ (s : Shared) (u : Value), BindsTo s fd ⟨[u], []⟩ [(x, u)])
    (hsp : ∀ H : Hp, Only H → SqL K H a (ns.map V.int) → sp [.ref a] H (fun v _ => v = .bl true) fun _ _ _ => False)
    (hCX : ∀ H e s', CX [] H s₁ (fun _ _ _ => False) e s' → False) :
    codeAny (model P w) callerA (.call (.ref fa) ⟨[.ref a], []⟩) (fun r s' => r = .ok (.ret (.bool true)) ∧ OldK s₁.heap s'.heap ∧ s'.os = s₁.os ∧ AllBare s'.gens) s₁ := by
  have rv := vals_ints hi
  have lenV := hi.length
  -- from an abstract heap in which nothing but the script may be tracked
  have core : ∀ H : Hp, Only H → SqL K H a (ns.map V.int) → HOk P w H s₁.heap → (∀ b, H b ≠ none → b = a) → (H a ≠ none → K.lookup a = none) →
      codeAny (model P w) callerA (.call (.ref fa) ⟨[.ref a], []⟩) (fun r s' => r = .ok (.ret (.bool true)) ∧ OldK s₁.heap s'.heap ∧ s'.os = s₁.os ∧ AllBare s'.gens) s₁ := by
    intro H hO hS hok hA hK
    have base_of : ∀ {b : Addr} {o : Obj}, s₁.heap.get? b = some o → H b = none → (hidT s₁.heap H).get? b = some o := fun e n => hidT_get e n
    have noA : ∀ {b : Addr} {o : Obj} {es : Array DictEntry} {ep : Nat}, s₁.heap.get? b = some o → o.data = .dict es ep → H b = none := fun {b o es ep} e d => by
      cases q : H b with
      | none => rfl
      | some u =>
        have e' : b = a := hA b (by rw [q]; simp)
        subst e'
        rw [ha] at e; cases e
        have d' : Data.seq vs.toArray _ = Data.dict es ep := d
        cases d'
    have nsK : ∀ {b : Addr} {m : Str → Option Value}, s₁.heap.Ns b m → (hidT s₁.heap H).Ns b m := fun {b m} ⟨o, es, ep, e, d, r⟩ => ⟨o, es, ep, base_of e (noA e d), d, r⟩
    have hKb : K.In (hidT s₁.heap H) := fun b o e => base_of (KX b o e) (by
      cases q : H b with
      | none => rfl
      | some u =>
        have e' : b = a := hA b (by rw [q]; simp)
        subst e'
        rw [hK (by rw [q]; simp)] at e; cases e)
    have hM : Mod K mg (hidT s₁.heap H) := ⟨hKb, nsK hns, ⟨mb, nsK hb, hbb⟩, let ⟨mc, h1, h2⟩ := hlim; ⟨mc, nsK h1, h2⟩⟩
    have e0 : Env0 P w K mg (hidT s₁.heap H) callerA [] s₁ H := ⟨rfl, hM, fun b o e => of_hidT e, Nat.le_of_eq (hidT_size _ _), trivial, fun b hb => absurd (show b ∈ ([] : List Addr) from hb) (by simp), hok, .of_eq hg⟩
    refine codeAny_mono ((F _ hKb (nsK hns)).run callerA [] s₁ H ⟨[.ref a], []⟩ [.ref a] [.ref a] _ _ hr e0 (hbind s₁ (.ref a)) (.cons rfl .nil) (hsp H hO hS)) fun r s' h => ?_
    cases r with
    | error e => exact (hCX H e s' h).elim
    | ok fl =>
      cases fl with
      | next => exact False.elim h
      | brk => exact False.elim h
      | cont => exact False.elim h
      | ret u =>
        obtain ⟨v, H', os, bare, un, hok', r', q⟩ := h
        have q' : v = .bl true := q
        subst q'
        obtain rfl : u = Value.bool true := r'
        refine ⟨rfl, OldK.of_keep fun b o e => ?_, os, bare⟩
        cases q : H b with
        | none => exact un.keep b o e q (by intro z; exact absurd (show b ∈ ([] : List Addr) from z) (by simp)) (by simp)
        | some u =>
          rcases hO b with z | ⟨ob, xs, z⟩
          · rw [q] at z; cases z
          · have z2 := un.frzs b ob _ z
            obtain ⟨e1, _⟩ := hok b _ z
            obtain ⟨e2, _⟩ := hok' b _ z2
            rw [e] at e1; cases e1
            exact e2
  cases hk : K.lookup a with
  | some o =>
    -- the script is one of the module's own objects
    have e := KX a o hk
    rw [ha] at e
    cases e
    refine core (fun _ => none) (fun _ => .inl rfl) (.inr ⟨_, vs.toArray, _, hk, rfl, rfl, rfl, by rw [List.size_toArray, lenV]; exact hl, by simpa using rv⟩) (fun b u z => by have z' : (none : Option HO) = some u := z; cases z') (fun b z => absurd rfl z) fun z => absurd rfl z
  | none =>
    refine core (fun b => if b = a then some (.frz { cls := .type "list", data := .seq vs.toArray } (.lst (ns.map V.int))) else none) (fun b => ?_) (.inl (.inr ⟨{ cls := .type "list", data := .seq vs.toArray }, if_pos rfl⟩)) (fun b u z => ?_) (fun b z => ?_) fun _ => hk
    · by_cases hb : b = a
      · exact .inr ⟨_, _, if_pos hb⟩
      · exact .inl (if_neg hb)
    · by_cases hb : b = a
      · have z' := (if_pos hb).symm.trans z
        cases z'
        subst hb
        exact ⟨ha, by rw [List.length_map]; exact hl, vs, _, rv, ha⟩
      · have z' := (if_neg hb).symm.trans z
        cases z'
    · by_cases hb : b = a
      · exact hb
      · exact absurd (if_neg hb) z
end L2

namespace L2
open PySem PySem.Spec PyProof.Rows

abbrev KOf {K : PySem.W.Frag} {h : Heap} (_ : K.In h) : PySem.W.Frag := K

end L2

namespace L2
open PySem PySem.Spec PyProof.Rows

def inClass (s : Stmt) (j : Nat) : Stmt := match s with
  | .ClassDef _ _ _ body _ _ _ _ _ _ _ => body.getD j (.Pass ⟨0, 0, 0, 0⟩)
  | _ => .Pass ⟨0, 0, 0, 0⟩
def defArgs (s : Stmt) : Arguments := match s with
  | .FunctionDef _ a _ _ _ _ _ _ _ _ => a
  | _ => { posonlyargs := [], args := [], vararg := none, kwonlyargs := [], kw_defaults := [], kwarg := none, defaults := [] }
def defBody (s : Stmt) : List Stmt := match s with
  | .FunctionDef _ _ b _ _ _ _ _ _ _ => b
  | _ => []
def defScope (s : Stmt) : Scope := match s with
  | .FunctionDef _ _ _ _ _ _ sc _ _ _ => sc
  | _ => { kind := .function, names := [], isGenerator := false, isCoroutine := false }

abbrev CX0 : CXT := fun _ _ _ _ _ _ => False
abbrev E0 : XK := fun _ _ _ => False
theorem pass0 {X : Cx} : Passes CX0 X E0 := fun _ _ _ _ _ _ _ h => h.elim

structure Fun (K : PySem.W.Frag) (x qual : Str) (st : Stmt) (f : Addr) (fd : FuncData) : Prop where
  ex : ∃ (oc : Value) (od : Option Addr) (kV doc pm : Value) (an : Option Addr) (cdv ct : Value) (osl : Array (Option Value)),
    fd = PySem.W.fnOf x qual (defArgs st) (defBody st) (defScope st) .none kV doc pm an cdv ct ∧ K.lookup f = some ⟨oc, od, .func fd, osl⟩ ∧ PySem.W.codeIn K cdv qual = true
  kp : PySem.W.keepIn K (.ref f) = true
section
variable {P : Program} {w : World} {K : PySem.W.Frag} {mg : Str → Option Value} {base : Heap}
theorem Fun.ok {x qual : Str} {st : Stmt} {f : Addr} {fd : FuncData} {N ps : List Str} {k : Nat} {sp : Sp} (F : Fun K x qual st f fd) (S : FnScope N ps (defScope st)) (len : ∀ vs H Q E, sp vs H Q E → vs.length = ps.length)
    (hbody : ∀ (cdv : Value) (A : Around) (outer : List Env) (s : Shared) (H : Hp) (vs : List V) (Q : VK) (E : XK), Room k (A.deeper (envOfC qual (defScope st) s.heap.objs.size f cdv)) → sp vs H Q E →
      ∃ t, PSs (cxOf CX0 P w K mg base N qual (defScope st) f cdv A outer s H E).nox (defBody st) t ∧ t { nx := fun _ H' => Q .non H', rt := Q } (start N vs) H) : FnOk P w K mg base CX0 (k + 1) f fd ps sp := by
  obtain ⟨oc, od, kV, doc, pm, an, cdv, ct, osl, rfl, lk, hcd⟩ := F.ex
  refine fn_of lk hcd S len fun A outer s H vs Q E hr hsp => ?_
  obtain ⟨t, h, q⟩ := hbody cdv A outer s H vs Q E hr hsp
  exact ⟨t, h.nox, q⟩
theorem Fun.binds {x qual : Str} {st : Stmt} {f : Addr} {fd : FuncData} {ps : List Str} (F : Fun K x qual st f fd)
    (h : ∀ (kV doc pm : Value) (an : Option Addr) (cdv ct : Value) (us : List Value), us.length = ps.length → bindArgs (PySem.W.fnOf x qual (defArgs st) (defBody st) (defScope st) .none kV doc pm an cdv ct) ⟨us, []⟩ = pure (ps.zip us)) : Binds K fd ps [] := by
  obtain ⟨oc, od, kV, doc, pm, an, cdv, ct, osl, rfl, lk, hcd⟩ := F.ex
  exact .all (h kV doc pm an cdv ct)
theorem fun_mk {x qual : Str} {st : Stmt} {f : Addr} {oc : Value} {od an : Option Addr} {osl : Array (Option Value)} {kV doc pm cdv ct : Value} (l : K.lookup f = some ⟨oc, od, .func (PySem.W.fnOf x qual (defArgs st) (defBody st) (defScope st) .none kV doc pm an cdv ct), osl⟩)
    (c : PySem.W.codeIn K cdv qual = true) (k : PySem.W.keepIn K (.ref f) = true) : Fun K x qual st f (PySem.W.fnOf x qual (defArgs st) (defBody st) (defScope st) .none kV doc pm an cdv ct) := ⟨⟨oc, od, kV, doc, pm, an, cdv, ct, osl, rfl, l, c⟩, k⟩
end
section
variable {X : Cx}
theorem pv (i : Nat) {x : Str} {pos : Pos} (hN : X.N[i]? = some x := by rfl) (hv : Vis X.env.scope x := by first | exact Or.inl rfl | exact Or.inr (Or.inl rfl) | exact Or.inr (Or.inr rfl)) (hd : (x == ("__debug__" : Str)) = false := by decide)
    (hcd : (x == ("__classdict__" : Str)) = false := by decide) : PE X (.Name x pos) (tVar i) := pe_var hN hv hd hcd
end

theorem iteF {A B : Prop} (h : B) : if false = true then A else B := by
  rw [if_neg Bool.false_ne_true]
  exact h
theorem iteT {A B : Prop} (h : A) : if true = true then A else B := by
  rw [if_pos rfl]
  exact h
theorem ite2 {c A B : Prop} [Decidable c] (h1 : c → A) (h2 : ¬ c → B) : if c then A else B := by
  by_cases h : c
  · rw [if_pos h]
    exact h1 h
  · rw [if_neg h]
    exact h2 h
theorem iteNS {c A B : Prop} [Decidable c] (hc : c) (h : B) : if (!decide c) = true then A else B := by
  rw [decide_eq_true hc]
  exact iteF h

def Same (H H' : Hp) : Prop := ∀ b o, H b = some o → H' b = some o
theorem Same.trans {H H1 H2 : Hp} (a : Same H H1) (b : Same H1 H2) : Same H H2 := fun c o h => b c o (a c o h)
end L2

namespace L2
open PySem PySem.Spec PyProof.Rows

section
variable {X : Cx}
theorem op_mulG : OpR X (binaryOp .Mult) (rI IntMulOk fun i j => .int (i * j)) := opI fun _ _ _ _ _ _ _ hc q => mul_int q hc
def CDivL (_ j : Int) : Prop := j ≠ 0 ∧ j.natAbs.log2 < 9000
theorem op_fdivL : OpR X (binaryOp .FloorDiv) (rI CDivL fun i j => .int (i.fdiv j)) :=
  opI fun _ _ _ _ _ _ _ hc q => floordiv_int hc.1 q (.inl (PyProof.noPylong_of_log2 hc.2))
end

section
variable {P : Program} {w : World} {H H1 H2 : Hp} {h h1 h2 : Heap} {a : Addr} {o : HO}
theorem ObjOk.there (x : ObjOk P w H h a o) : ∃ ob, h.get? a = some ob := by
  cases o with
  | lst xs => obtain ⟨_, _, _, _, e⟩ := x; exact ⟨_, e⟩
  | tup xs => obtain ⟨_, _, _, ob, e, _⟩ := x; exact ⟨_, e⟩
  | dK kvs => obtain ⟨_, _, _, _, ob, _, _, e, _⟩ := x; exact ⟨_, e⟩
  | dT kvs => obtain ⟨_, _, _, _, ob, _, _, e, _⟩ := x; exact ⟨_, e⟩
  | set S n => obtain ⟨ob, _, _, _, e, _⟩ := x; exact ⟨_, e⟩
  | ins C dx fs => obtain ⟨_, _, _, e, _⟩ := x; exact ⟨_, e⟩
  | own y => exact x
  | xd fs => obtain ⟨_, ⟨ob, _, _, e, _⟩, _⟩ := x; exact ⟨_, e⟩
  | rng lo hi => obtain ⟨_, _, _, e⟩ := x; exact ⟨_, e⟩
  | frz ob u => obtain ⟨e, _⟩ := x; exact ⟨_, e⟩
  | tbl ps => exact ⟨_, (show h.get? a = some _ from x)⟩
  | met f y => exact ⟨_, (show h.get? a = some _ from x)⟩
  | ext φ => obtain ⟨_, ⟨ob, e⟩, _⟩ := x; exact ⟨_, e⟩
theorem HOk.onward (x : HOk P w H h1) (k : ∀ b ob, H b ≠ none → h1.get? b = some ob → h2.get? b = some ob) : HOk P w H h2 := fun c u e =>
  (x c u e).stay (fun b v hb q => k b v (by rcases hb with rfl | hb
                                            · rw [e]; simp
                                            · rw [hb]; simp) q) (fun _ q => q) fun _ _ q => q
theorem Un.onward {fs : List Addr} (u : Un fs [] H H1 h h1) (keep : ∀ b ob, h1.get? b = some ob → b ∉ fs → (∃ o', h.get? b = some o') → h2.get? b = some ob)
    (slot : ∀ b ob, h1.get? b = some ob → b ∈ fs → (∃ o', h.get? b = some o') → ∃ sl, h2.get? b = some { ob with slots := sl }) : Un fs [] H H1 h h2 where
  keep := fun b ob e n hb hx => keep b ob (u.keep b ob e n hb hx) hb ⟨ob, e⟩
  slot := fun b ob e n hb hx => by
    obtain ⟨sl, e1⟩ := u.slot b ob e n hb hx
    obtain ⟨sl2, e2⟩ := slot b _ e1 hb ⟨ob, e⟩
    exact ⟨sl2, e2⟩
  free := u.free
  there := fun b ob e hx => by
    obtain ⟨o1, e1⟩ := u.there b ob e hx
    by_cases hb : b ∈ fs
    · obtain ⟨sl, e2⟩ := slot b o1 e1 hb ⟨ob, e⟩
      exact ⟨_, e2⟩
    · exact ⟨_, keep b o1 e1 hb ⟨ob, e⟩⟩
  tups := u.tups
  frzs := u.frzs
  tbls := u.tbls
end

structure Fly (P : Program) (w : World) (outer : List Env) (H : Hp) (s : Shared) (cls a0 : Value) (ea : Addr) (B : Heap) (H' : Hp) (s' : Shared) : Prop where
  os : s'.os = s.os
  bare : AllBare s'.gens
  un : Un (frs outer) [] H H' s.heap s'.heap
  hok : HOk P w H' s'.heap
  fly : Heap.FlyingW B outer ea cls a0 s'.heap
  frf : ∀ b ∈ frs outer, H' b = none
  cov : ∀ b o, s'.heap.get? b = some o → b ∉ frs outer → (H' b ≠ none ∨ ∃ o', s.heap.get? b = some o') → B.get? b = some o
def XF (P : Program) (w : World) : CXT := fun outer H s E e s' => ∃ (ea : Addr) (cls a0 : Value) (B : Heap) (H' : Hp), e = .ref ea ∧ Fly P w outer H s cls a0 ea B H' s' ∧ E cls none H'

section
variable {P : Program} {w : World} {K : PySem.W.Frag} {mg : Str → Option Value} {base : Heap} {N : List Str} {qual : Str} {scope : Scope} {f : Addr} {cd : Value} {A : Around} {outer : List Env} {s0 s1 : Shared} {H0 H1 : Hp} {E : XK}
  {pins : List (Addr × Obj)} {σ : St}
theorem frs_tail {env : Env} {l : List Env} {b : Addr} (h : b ∈ frs l) : b ∈ frs (env :: l) := by
  unfold frs at h ⊢
  rw [List.filterMap_cons]
  split
  · exact h
  · exact List.mem_cons_of_mem _ h
end
end L2

namespace L2
open PySem PySem.Spec PyProof.Rows PySem.W PySem.Calls Builtin Builtin.ObjectAttr Builtin.Getset_descriptor

def ExcAt (C e : Addr) (h : Heap) : Prop := ∃ o, h.get? e = some o ∧ o.cls = .ref C ∧ notCls o = true
theorem ExcAt.type {C e : Addr} {h : Heap} {M : Model} (x : ExcAt C e h) : Looks M h (typeOf (.ref e)) (.ref C) := by
  obtain ⟨o, a, b, _⟩ := x
  exact b ▸ (Looks.ld a).andThen .now
structure ExcCls (K : Frag) (C : Addr) : Prop where
  cls : (clsIn K C).isSome = true
  ga : findIn K (.ref C) "__getattribute__" = some (some (.builtin "BaseException.__getattribute__"))
  gt : findIn K (.ref C) "__getattr__" = some none
  cl : findIn K (.ref C) "__class__" = some (some (.builtin "object.__class__"))
  get : specialIn K (.builtin "object.__class__") "__get__" = some (some (.builtin "getset_descriptor.__get__"))
  tk : takesIn K (.builtin "object.__class__") = some true
  ob : mroIn K C (.type "object") = some true
  be : mroIn K C (.type "BaseException") = some true
section
variable {prog : Program} {w : World} {A : Around} {E : Value → Shared → Prop} {s : Shared} {K : Frag} {e C : Addr}
theorem exc_find {M : Model} {h : Heap} (X : K.In h) (T : ExcCls K C) : Looks M h (Builtin.ObjectAttr.find (.ref e) (.ref C) "__class__") (.bind (.builtin "getset_descriptor.__get__") (.builtin "object.__class__")) := by
  have d : Looks M h (Builtin.ObjectAttr.dataDescriptor? (some (.builtin "object.__class__")) (some (.builtin "getset_descriptor.__get__"))) (some (.builtin "getset_descriptor.__get__", .builtin "object.__class__")) := (looks_takesIn X T.tk).andThen .now
  exact (looks_findIn X T.cl).andThen ((looks_specialIn X T.get).andThen (d.andThen (Looks.tag .now)))
theorem exc_class_get {R : Result → Shared → Prop} {tp : Value} (X : K.In s.heap) (I : ExcAt C e s.heap) (hm : mroIn K C (.type "object") = some true)
    (h : R (.ok (.ret (.ref C))) s) : codeAny (model prog w) A (.call (.builtin "getset_descriptor.__get__") ⟨[.builtin "object.__class__", .ref e, tp], []⟩) R s := by
  obtain ⟨hp, gs, dr, tk, os⟩ := s
  have l0 := I.type (M := model prog w)
  have l1 := looks_mroIn (M := model prog w) X hm
  refine codeAny_call_builtin KF.slot_gs.plain KF.entry_gs ?_
  refine KF.slot_gs.check _ _ _ _ _ _ _ _ KF.type_class (KF.args_gs _ _ _) ?_
  unfold Builtin.«getset_descriptor.__get__» descrGet
  rw [dga_obj]
  refine wpAny_bind (wpAny_pure ?_)
  unfold descrGetter descrCheckInstance descrNameAndClass isInstance
  simp only [KF.owner_class]
  repeat lk
  refine ⟨Code.quiet_builtin _ (by decide +kernel), codeAny_builtin KF.entry_class ?_⟩
  unfold Builtin.«object.__class__» shownTypeOf
  repeat lk
  exact h

theorem exc_entry {tk : Tok} {Q : PySem.Fin → Shared → Prop} (X : K.In s.heap) (T : ExcCls K C) (I : ExcAt C e s.heap) (h : Q (.done (.ret (.ref C))) s) :
    wpAny (model prog w) A (Builtin.«object.__getattribute__» ⟨[.ref e, .str "__class__" tk], []⟩) Q E s := by
  obtain ⟨hp, gs, dr, t, os⟩ := s
  have l0 := I.type (M := model prog w)
  have l1 := exc_find (e := e) (M := model prog w) X T
  unfold Builtin.«object.__getattribute__»
  repeat (first | with_reducible refine wpAny_call ?_ | lk)
  refine exc_class_get X I T.ob ?_
  repeat lk
  exact h
theorem exc_class {Q : Option Value → Shared → Prop} (X : K.In s.heap) (T : ExcCls K C) (I : ExcAt C e s.heap) (h : Q (some (.ref C)) { s with toks := s.toks + 1 }) : wpAny (model prog w) A (getAttr? (.ref e) "__class__") Q E s := by
  obtain ⟨hp, gs, dr, t, os⟩ := s
  have l0 := I.type (M := model prog w)
  have l1 := looks_findIn (M := model prog w) X T.ga
  have l2 := looks_findIn (M := model prog w) X T.gt
  have l3 := looks_mroIn (M := model prog w) X T.be
  unfold getAttr? getAttrBy? getAttrBy
  refine wpAny_bind (wpAny_mkText (wpAny_bind (wpAny_attempt (wpAny_holding (wpAny_bind (l0.at (wpAny_bind (l1.at ?_))))))))
  dsimp only
  have ne : (Value.builtin "BaseException.__getattribute__" == Value.builtin "object.__getattribute__") = false := by decide +kernel
  rw [if_neg (by rw [ne, Bool.and_false]; exact Bool.false_ne_true)]
  unfold getAttrByItsOwn hookBefore
  repeat (first | with_reducible refine wpAny_call ?_ | with_reducible refine wpAny_attempt ?_ | lk)
  have hk : builtinKind "BaseException.__getattribute__" = some .slot := by decide +kernel
  have hsplit : splitId "BaseException.__getattribute__" = some ("BaseException", "__getattribute__") := by decide +kernel
  refine codeAny_call_builtin (by decide +kernel) F.entry_bexc_ga ?_
  have ha := F.args_bexc_ga (.ref e) (.str (Str.ofString "__class__") t)
  show wpAny _ _ (checkBuiltinCall "BaseException.__getattribute__" ⟨[.ref e, .str (Str.ofString "__class__") t], []⟩) _ _ _
  simp only [checkBuiltinCall, hk, hsplit]
  unfold isInstance
  refine wpAny_bind (wpAny_bind (l0.at (l3.at ?_)))
  simp only [Bool.not_true, Bool.false_eq_true, if_false]
  refine wpAny_of_eq (show _ = pure () from ha) ?_
  refine wpAny_mono (exc_entry (E := fun _ _ => False) (Q := fun fin s' => fin = .done (.ret (.ref C)) ∧ s' = ⟨hp, gs, dr, t + 1, os⟩) X T I ⟨rfl, rfl⟩) (fun fin s' z => ?_) fun _ _ z => z.elim
  obtain ⟨rfl, rfl⟩ := z
  exact wpAny_pure (wpAny_pure h)
end
theorem kitx_exc {K : Frag} {e C : Addr} (T : ExcCls K C) : KitX K (.ref e) (.ref C) (ExcAt C e) where
  ty := fun _ _ _ I => I.type
  it := fun M h X _ => by
    obtain ⟨cd, hc⟩ := Option.isSome_iff_exists.mp T.cls
    unfold clsIn at hc
    split at hc
    · rename_i c' d' cd' sl' ho
      intro A' Q' E' s' k q
      unfold isType loadHead
      exact wpAny_bind (wpAny_loadPart (k _ _ (X _ _ ho)) (wpAny_pure q))
    · cases hc
  ne := fun h tp dd its n sl X htp => by
    obtain ⟨cd, hc⟩ := Option.isSome_iff_exists.mp T.cls
    refine Bool.eq_false_iff.mpr fun q => ?_
    have ee : C = tp := Value.ref.inj (beq_iff_eq.mp q)
    subst ee
    unfold clsIn at hc
    split at hc
    · rename_i c' d' cd' sl' ho
      have z := (X _ _ ho).symm.trans htp
      cases z
    · cases hc
  ca := fun X I k => exc_class X T I k
end L2

namespace L2
open PySem PySem.Spec PyProof.Rows

structure RoomQ (k : Nat) (A : Around) : Prop where
  dp : A.depth + 3 * k + 5 < recursionLimit
  un : A.units + 16 * k + 200 < cLine
theorem Room.q {k : Nat} {A : Around} (r : Room k A) : RoomQ k A := ⟨r.dp, r.un⟩
theorem RoomQ.mark {k : Nat} {A : Around} (r : RoomQ k A) (h : Option Value) : RoomQ k (A.mark h) := ⟨r.dp, r.un⟩
theorem RoomQ.mono {j k : Nat} {A : Around} (r : RoomQ k A) (h : j ≤ k) : RoomQ j A := ⟨by have := r.dp; omega, by have := r.un; omega⟩
theorem RoomQ.deeper {k : Nat} {A : Around} (r : RoomQ (k + 1) A) (env : Env) : RoomQ k (A.deeper env) :=
  ⟨by have := r.dp; show A.depth + 1 + 3 * k + 5 < _; omega, by have := r.un; show A.units + 3 + 16 * k + 200 < _; omega⟩
structure FnOkQ (P : Program) (w : World) (K : PySem.W.Frag) (mg : Str → Option Value) (base : Heap) (k : Nat) (f : Addr) (fd : FuncData) (ps : List Str) (sp : Sp) : Prop where
  len : ∀ vs H Q E, sp vs H Q E → vs.length = ps.length
  run : ∀ (A : Around) (outer : List Env) (s : Shared) (H : Hp) (args : Args) (us : List Value) (vs : List V) (Q : VK) (E : XK), RoomQ k A → Env0 P w K mg base A outer s H → BindsTo s fd args (ps.zip us) → Vals vs us → sp vs H Q E →
    codeAny (model P w) A (.call (.ref f) args) (CR CX0 outer P w H s Q E) s
def cxQ (P : Program) (w : World) (K : PySem.W.Frag) (mg : Str → Option Value) (base : Heap) (N : List Str) (qual : Str) (scope : Scope) (f : Addr) (cd : Value) (A : Around) (outer : List Env) (s : Shared) (H : Hp) : Cx :=
  { cxOf CX0 P w K mg base N qual scope f cd A outer s H E0 with calm := false, xe := fun _ _ => False }
theorem inv_startQ {P : Program} {w : World} {K : PySem.W.Frag} {mg : Str → Option Value} {base : Heap} {N ps : List Str} {qual : Str} {scope : Scope} {f : Addr} {cd : Value} {A : Around} {outer : List Env} {s s1 : Shared} {H : Hp} {us : List Value} {vs : List V}
    (S : FnScope N ps scope) (e0 : Env0 P w K mg base A outer s H) (hl : vs.length = ps.length) (r : Vals vs us)
    (x : InCallC s s.heap.objs.size (bindL (envOfC qual scope s.heap.objs.size f cd).kindOf (ps.zip us) fun _ => none) (cellsFrom (s.heap.objs.size + 1) scope.names []) (bindC (envOfC qual scope s.heap.objs.size f cd).kindOf (ps.zip us) fun _ => none) s1) :
    Inv (cxQ P w K mg base N qual scope f cd A outer s H) [] (start N vs) H s1 := by
  -- the same state, read under an Around that handles nothing
  have e1 : Env0 P w K mg base { A with handled := none } outer s H := ⟨e0.frames, e0.mod, e0.bs, e0.bsz, e0.funs, e0.frf, e0.hok, e0.bare⟩
  have J := inv_start (CX := CX0) (E := E0) (A := { A with handled := none }) S rfl e1 hl r x
  have ok := J.ok
  exact ⟨⟨ok.mod, ok.kind, ok.glob, ok.blt, ok.above, ok.inj, ok.has, ok.cab, (fun h => by cases h), (show (A.deeper _).frames = some (_ :: outer) from Around.frames_deeper e0.frames), ok.stk, ok.exf, ok.bs, ok.bsz, ok.noex, ok.exfs, ok.funs, ok.frf⟩,
    J.os, J.bare, J.base, J.loc, J.cell, J.free, J.freeC, J.pin, J.hok, J.len⟩
theorem fn_ofQ {P : Program} {w : World} {K : PySem.W.Frag} {mg : Str → Option Value} {base : Heap} {k : Nat} {f : Addr} {name qual : Str} {params : Arguments} {body : List Stmt} {scope : Scope} {dV kV doc pm cdv ct oc : Value} {an od : Option Addr}
    {osl : Array (Option Value)} {N ps : List Str} {sp : Sp} (lk : K.lookup f = some ⟨oc, od, .func (PySem.W.fnOf name qual params body scope dV kV doc pm an cdv ct), osl⟩) (hcd : PySem.W.codeIn K cdv qual = true) (S : FnScope N ps scope)
    (len : ∀ vs H Q E, sp vs H Q E → vs.length = ps.length)
    (hbody : ∀ (A : Around) (outer : List Env) (s : Shared) (H : Hp) (vs : List V) (Q : VK) (E : XK), RoomQ k (A.deeper (envOfC qual scope s.heap.objs.size f cdv)) → sp vs H Q E →
      ∃ t, PSs (cxQ P w K mg base N qual scope f cdv A outer s H) body t ∧ t { nx := fun _ H' => Q .non H', rt := Q } (start N vs) H) :
    FnOkQ P w K mg base (k + 1) f (PySem.W.fnOf name qual params body scope dV kV doc pm an cdv ct) ps sp := by
  refine ⟨len, fun A outer s H args us vs Q E hr e0 hb r hsp => ?_⟩
  have hl := len _ _ _ _ hsp
  have KX : K.In s.heap := e0.mod.kin.keeps fun b o e => (e0.bs b o e).1
  have lim : s.heap.NoLimit := e0.mod.nolimit.keeps fun b o e => (e0.bs b o e).1
  have hkind : ∀ y ∈ ps.zip us, scope.names.lookup y.1 = some .local ∨ (scope.names.lookup y.1 = some .cell ∧ ((cellsFrom (s.heap.objs.size + 1) scope.names []).lookup y.1).isSome = true) := fun ⟨n, v⟩ hy => by
    rcases S.par n (List.of_mem_zip hy).1 with q | q
    · exact .inl q
    · exact .inr ⟨q, PySem.W.cellsFrom_some _ _ _ (.inl q)⟩
  have hdep : A.depth < recursionLimit := by have := hr.dp; omega
  refine codeAny_call_function hdep (KX _ _ lk) rfl S.co S.gen rfl (PySem.W.codeRec_of KX hcd) (hb _ _ _ _ ?_)
  refine wpAny_newFunctionEnv_cells S.kind hkind fun env he s1 x => ?_
  subst he
  refine ⟨lim.keeps x.toInCall.keep, codeAny_func ?_⟩
  obtain ⟨t, ht, hq⟩ := hbody A outer s H vs Q E (hr.deeper _) hsp
  have I : Inv (cxQ P w K mg base N qual scope f cdv A outer s H) [] (start N vs) H s1 := inv_startQ S e0 hl r x
  refine wpAny_mono (ht [] s1 (start N vs) H _ I hq) (fun fl s' hs => ?_) fun e s' hs => False.elim hs
  have fin : ∀ {σ' : St} {H' : Hp} {v : V} {u : Value}, Inv (cxQ P w K mg base N qual scope f cdv A outer s H) [] σ' H' s' → RelV v u → Q v H' → CE outer P w H s Q u s' :=
    fun {σ' H' v u} J rv q => ⟨v, H', J.os, J.bare, J.base, J.hok, rv, q⟩
  cases fl with
  | ret u =>
    obtain ⟨v, σ', H', J, rv, q⟩ := hs
    exact fin J rv q
  | next =>
    obtain ⟨σ', H', J, q⟩ := hs
    exact fin (v := V.non) (u := Value.none) J rfl q
  | brk =>
    obtain ⟨_, _, _, q⟩ := hs
    exact False.elim q
  | cont =>
    obtain ⟨_, _, _, q⟩ := hs
    exact False.elim q
section
variable {P : Program} {w : World} {K : PySem.W.Frag} {mg : Str → Option Value} {base : Heap}
theorem Fun.okQ {x qual : Str} {st : Stmt} {f : Addr} {fd : FuncData} {N ps : List Str} {k : Nat} {sp : Sp} (F : Fun K x qual st f fd) (S : FnScope N ps (defScope st)) (len : ∀ vs H Q E, sp vs H Q E → vs.length = ps.length)
    (hbody : ∀ (cdv : Value) (A : Around) (outer : List Env) (s : Shared) (H : Hp) (vs : List V) (Q : VK) (E : XK), RoomQ k (A.deeper (envOfC qual (defScope st) s.heap.objs.size f cdv)) → sp vs H Q E →
      ∃ t, PSs (cxQ P w K mg base N qual (defScope st) f cdv A outer s H) (defBody st) t ∧ t { nx := fun _ H' => Q .non H', rt := Q } (start N vs) H) : FnOkQ P w K mg base (k + 1) f fd ps sp := by
  obtain ⟨oc, od, kV, doc, pm, an, cdv, ct, osl, rfl, lk, hcd⟩ := F.ex
  exact fn_ofQ lk hcd S len fun A outer s H vs Q E hr hsp => hbody cdv A outer s H vs Q E hr hsp
end
section
variable {X : Cx} {k : Nat} {f : Addr} {fd : FuncData} {ps : List Str} {sp : Sp} {dvs : List V} {ds : List Value} {x : Str} {p pos : Pos} {e : Expr} {es : List Expr} {t : TA}
theorem pe_callQ (F : FnOkQ X.prog X.w X.K X.mg X.base k f fd ps sp) (hr : RoomQ k X.A) (hg : Gl X x) (hm : X.mg x = some (.ref f)) (hk : PySem.W.keepIn X.K (.ref f) = true) (hb : Binds X.K fd ps ds) (hd : Vals dvs ds)
    (ha : PA X (e :: es) t) (hdb : (x == ("__debug__" : Str)) = false := by decide) (he : starEach (e :: es) X.env = (false, eval e X.env) :: starEach es X.env := by rfl) (hpl : (backTo pos (starEach es X.env)).any (·.1) = false := by rfl) :
    PE X (.Call (.Name x p) (e :: es) [] pos) (tCall sp dvs E0 t) := by
  intro pins s σ H Q I h
  refine wpAny_Call_Name_kw (ld_glob I hg hm ?_ hdb)
  refine PySem.W.callWith_K (h₀ := X.base) I.ok.mod.kin hk (thn (ha pos pins s σ H _ I h) fun us s1 ⟨vs, H1, I1, r, q⟩ => ⟨I1.kIn, ?_⟩) he hpl
  have r2 : Vals (vs ++ dvs) (us ++ ds) := r.append hd
  have hl : (us ++ ds).length = ps.length := by rw [← r2.length]; exact F.len _ _ _ _ q
  refine wpAny_call (codeAny_mono (F.run X.A X.stack s1 H1 ⟨us, []⟩ (us ++ ds) (vs ++ dvs) Q E0 hr I1.env0 (hb s1 us I1.kIn hl) r2 q) fun r s' hq => ?_)
  cases r with
  | error e => exact False.elim hq
  | ok fl =>
    cases fl with
    | ret u => exact I1.after hq
    | next => exact False.elim hq
    | brk => exact False.elim hq
    | cont => exact False.elim hq
end
theorem PS.nox {X : Cx} {st : Stmt} {t : TS} (h : PS X.nox st t) : PS X st t := fun pins s σ H D I hw =>
  wpAny_mono (h pins s σ H D (I.wish _) hw) (fun _ _ q => q.unwish) fun _ _ z => z.elim

abbrev bmVE : List Value := [.type "ValueError", .type "Exception", .type "BaseException", .type "object"]
def tRaise (C : Addr) (E : XK) (ta : TA) : TS := fun _ σ H => ta σ H fun vs H1 => vs.length ≤ sizeLine ∧ E (.ref C) none H1
section
variable {P : Program} {w : World} {K : PySem.W.Frag} {mg : Str → Option Value} {base : Heap} {N : List Str} {qual : Str} {scope : Scope} {f : Addr} {cd : Value} {A : Around} {outer : List Env} {s0 : Shared} {H0 : Hp} {E : XK}
  {x : Str} {C : Addr} {np cpos pos : Pos} {e : Expr} {es : List Expr} {t : TA}
end
end L2

namespace L2
open PySem PySem.Spec PyProof.Rows

abbrev Cx.marked (X : Cx) (e : Addr) : Cx := { X with A := X.A.mark (some (.ref e)), calm := false, xe := fun _ _ => False }
theorem Cx.Ok.marked {X : Cx} (ok : X.Ok) (e : Addr) : (X.marked e).Ok :=
  ⟨ok.mod, ok.kind, ok.glob, ok.blt, ok.above, ok.inj, ok.has, ok.cab, (fun h => by cases h), ok.frames, ok.stk, ok.exf, ok.bs, ok.bsz, ok.noex, ok.exfs, ok.funs, ok.frf⟩
section
variable {X : Cx} {pins : List (Addr × Obj)} {σ : St} {H H' : Hp} {s s' : Shared} {e : Addr}
theorem Inv.marked (I : Inv X pins σ H s) (e : Addr) : Inv (X.marked e) pins σ H s := ⟨I.ok.marked e, I.os, I.bare, I.base, I.loc, I.cell, I.free, I.freeC, I.pin, I.hok, I.len⟩
theorem Inv.unmarked (ok : X.Ok) (I : Inv (X.marked e) pins σ H s) : Inv X pins σ H s := ⟨ok, I.os, I.bare, I.base, I.loc, I.cell, I.free, I.freeC, I.pin, I.hok, I.len⟩
theorem Un.more {fs : List Addr} {H H1 : Hp} {h h1 : Heap} {a : Addr} {o : HO} (u : Un fs [] H H1 h h1) (n : h.get? a = none) (n1 : H1 a = none) : Un fs [] H (upd H1 a o) h h1 where
  keep := u.keep
  slot := u.slot
  free := fun b ob q m hx => by
    have ne : b ≠ a := fun z => by subst z; rw [n] at q; cases q
    rw [upd_ne ne]
    exact u.free b ob q m hx
  there := u.there
  tups := fun b xs q => by
    have z := u.tups b xs q
    rw [upd_ne (ne_of_none z n1)]
    exact z
  frzs := fun b ob v q => by
    have z := u.frzs b ob v q
    rw [upd_ne (ne_of_none z n1)]
    exact z
  tbls := fun b ps q => by
    obtain ⟨m, z⟩ := u.tbls b ps q
    exact ⟨m, by rw [upd_ne (ne_of_none z n1)]; exact z⟩
theorem HOk.more {P : Program} {w : World} {H1 : Hp} {h1 : Heap} {a : Addr} {o : HO} (x : HOk P w H1 h1) (n1 : H1 a = none) (new : ObjOk P w (upd H1 a o) h1 a o) : HOk P w (upd H1 a o) h1 := fun b u e => by
  by_cases hb : b = a
  · subst hb; rw [upd_same] at e; cases e; exact new
  · rw [upd_ne hb] at e
    exact (x b u e).stay (fun _ _ _ q => q) (fun c q => by rw [upd_ne (ne_of_none q n1)]; exact q) fun c xs q => by rw [upd_ne (ne_of_none q n1)]; exact q
variable {cls a0 : Value} {ea C : Addr} {B h' : Heap} {t' : Nat}
theorem unbind_ok {M : Model} {A : Around} {E : Value → Shared → Prop} {i : Nat} {n : Str} {pos : Pos} {Q : Unit → Shared → Prop} (I : Inv X pins σ H s) (hN : X.N.Nodup) (hi : X.N[i]? = some n) (hk : X.env.scope.names.lookup n = some .local)
    (h : ∀ s', Inv X pins (σ.set i none) H s' → Q () s') : wpAny M A (do bindName X.env n .none; unbindBehindTheSuite X.env n pos) Q E s := by
  obtain ⟨m, hn, hl⟩ := id I.loc
  have hcls : (X.env.scope.kind == .class || (X.env.scope.kind == .module && X.env.locals != X.env.globals)) = false := by rw [I.ok.kind]; rfl
  have cne := I.cne
  obtain ⟨oL, _, _, hoL, _⟩ := id hn
  refine wpAny_nameGoes_keeps hk hn hcls fun h' v hn' hs => ?_
  have old : ∀ b o, X.s₀.heap.get? b = some o → h'.get? b = s.heap.get? b := fun b o e => hs.2 b (Nat.ne_of_lt (Nat.lt_of_lt_of_le (Heap.lt_size e) I.ok.above))
  refine h _ ⟨I.ok, I.os, I.bare, ⟨fun b o e k hb hx => (old b o e).trans (I.base.keep b o e k hb hx), fun b o e k hb hx => ?_, I.base.free, fun b o e hx => ?_, I.base.tups, I.base.frzs, I.base.tbls⟩, ⟨_, hn', fun j y v' e1 e2 e3 => ?_⟩, fun y c e => ?_, I.free, I.freeC, fun p hp => ?_, fun b ob e => ?_, by simpa using I.len⟩
  · obtain ⟨sl, e1⟩ := I.base.slot b o e k hb hx
    exact ⟨sl, (old b o e).trans e1⟩
  · obtain ⟨o', e1⟩ := I.base.there b o e hx
    exact ⟨o', (old b o e).trans e1⟩
  · by_cases hj : j = i
    · subst hj
      exfalso
      have hlt : j < σ.length := by rw [I.len]; exact (List.getElem?_eq_some_iff.mp hi).1
      rw [List.getElem?_set_self hlt] at e2
      cases e2
    · rw [List.getElem?_set_ne (Ne.symm hj)] at e2
      obtain ⟨u', r', q⟩ := hl j y v' e1 e2 e3
      refine ⟨u', r', ?_⟩
      rcases q with ⟨k, e⟩ | ⟨k, c, e, z⟩
      · refine .inl ⟨k, ?_⟩
        have ne : y ≠ n := fun z => hj (nodup_ix hN e1 (z ▸ hi))
        show (if y = n then v else m y) = some u'
        rw [if_neg ne]
        exact e
      · exact .inr ⟨k, c, e, z.sameBut hs (cne y c e)⟩
  · obtain ⟨w', z⟩ := I.cell y c e
    exact ⟨w', z.sameBut hs (cne y c e)⟩
  · obtain ⟨e, k, ne, nf, d⟩ := I.pin p hp
    exact ⟨(hs.2 p.1 ne).trans e, k, ne, nf, d⟩
  · refine (I.hok b ob e).stay (fun c w' hc q => (hs.2 c ?_).trans q) (fun _ q => q) fun _ _ q => q
    rintro rfl
    rcases hc with rfl | hc
    · rw [I.free] at e; cases e
    · rw [I.free] at hc; cases hc
def asEnds (D : Ends) (i : Nat) : Ends := { nx := fun σ H => D.nx (σ.set i none) H, rt := D.rt, bk := fun σ H => D.bk (σ.set i none) H, ct := fun σ H => D.ct (σ.set i none) H }
end
def tTryAs (sp : Sp) (C : Addr) (i : Nat) (ta : TA) (ts : TS) : TS := fun D σ H => ta σ H fun vs H1 => sp vs H1 (fun _ H2 => D.nx σ H2) fun cls _ H2 => cls = .ref C ∧ ∀ e, H2 e = none → ts (asEnds D i) (σ.set i (some (.ref e))) (upd H2 e (.ext (ExcAt C e)))
section
variable {X : Cx} {k : Nat} {f C : Addr} {fd : FuncData} {ps : List Str} {sp : Sp} {g x n : Str} {p pos pos2 pos3 np hpos : Pos} {e : Expr} {es : List Expr} {t : TA} {ts : TS} {b₀ : Stmt} {suite : List Stmt} {i : Nat}
end
end L2

namespace L2
open PySem PySem.Spec PyProof.Rows

theorem reads_bools (h : Heap) : ∀ {bs : List Bool} {us : List Value}, Vals (bs.map V.bl) us → ReadsAll h us (bs.map PyData.bool) []
  | [], _, .nil => .nil
  | b :: r, _, .cons q t => by
    have q' : _ = Value.bool b := q
    subst q'
    exact ReadsAll.cons (as := []) (bs := []) (.bool b) (reads_bools h t)
def rCount : V → List V → Hp → VK → Prop := fun x vs H Q => ∃ (l : Addr) (bs : List Bool) (k : Bool), x = .ref l ∧ vs = [.bl k] ∧ H l = some (.lst (bs.map V.bl)) ∧ Q (.int (countIn (.bool k) (bs.map PyData.bool))) H
theorem mt_count {X : Cx} : MtR X "list.count" rCount := by
  intro pins s σ H x vs v us Q I rx rv h
  obtain ⟨l, bs, k, rfl, rfl, hH, q⟩ := h
  cases rx
  obtain ⟨u, rfl, ru⟩ := rv.one
  have ru' : u = Value.bool k := ru
  subst ru'
  obtain ⟨z, its, n, r, hl, e⟩ := I.lstM hH
  exact count_list_bools (hp := s.heap) ⟨_, e, rfl, n, rfl⟩ (reads_bools _ r) (by rw [List.all_map]; simp [Shape.has]) ⟨.int (countIn (.bool k) (bs.map PyData.bool)), H, I.tok _, ⟨_, rfl⟩, q⟩

inductive TyX (K : PySem.W.Frag) (H : Hp) : V → Value → Prop where
  | of {x : V} {t : Value} (h : TyOf K H x t) : TyX K H x t
  | exc {e C : Addr} (T : ExcCls K C) (h : H e = some (.ext (ExcAt C e))) : TyX K H (.ref e) (.ref C)
def valOf : V → Value
  | .ref a => .ref a
  | .ty n => .type n
  | _ => .none
def rIsi (K : PySem.W.Frag) : List V → Hp → VK → Prop := fun xs H Q => ∃ x c t b, xs = [x, c] ∧ ((∃ a, c = .ref a) ∨ ∃ n, c = .ty n) ∧ TyX K H x t ∧ PySem.W.kitOne K t (valOf c) = some b ∧ Q (.bl b) H
theorem call_isi {X : Cx} : CallR X (.builtin "isinstance") (rIsi X.K) := by
  intro pins s σ H xs us Q I rv h
  obtain ⟨x, c, t, b, rfl, hc, ty, e, q⟩ := h
  obtain ⟨u, uc, rfl, ru, rc⟩ := rv.two
  have huc : uc = valOf c := by
    rcases hc with ⟨a, rfl⟩ | ⟨n, rfl⟩
    · exact rc
    · exact rc
  subst huc
  have fin : ∀ tk, EP X pins σ Q (.bool b) { s with toks := tk } := fun tk => ⟨.bl b, H, I.tok tk, rfl, q⟩
  cases ty with
  | of ty => exact isinst_ok I ru ty e fin
  | @exc ea C T he =>
    have ru' : u = Value.ref ea := ru
    subst ru'
    obtain ⟨p, _, _⟩ := (show ObjOk X.prog X.w H s.heap ea (.ext (ExcAt C ea)) from I.hok ea _ he)
    exact PySem.W.kia_one (kitx_exc T) I.kIn p e (fun z => nomatch z) fin

theorem bits_of_lay {ns : List Int} (h : PySem.W.WData.layableAll [PySem.W.WData.list (ns.map PySem.W.WData.int)] = true) : ∀ n ∈ ns, Builtin.Int.intBits n ≤ 1048576 := fun n hn => by
  have h1 := (PySem.W.layW_cons h).1
  have h2 := PySem.W.layableW_item h1 (.int n) (List.mem_map.mpr ⟨n, hn, rfl⟩)
  have h3 : PyData.layable0 (.int n) = true := h2
  exact PyData.bits_of_layable h3
theorem walk_b {l : PySem.W.OpenLaw} {n k : Nat} {q : Program} {loose : List Str} {XP : (Str → Option Value) → Heap → Prop} {YP : World → Heap → Prop} {d : DefRec} {K : Params → PySem.W.Frag} {CX : World → CXT} {sp : World → Sp} {x : Str}
    (hn : l.most = some n) (hn2 : n ≤ sizeLine) (hdf : d.params.defaults = []) (hr : Room k callerA)
    (hY : ∀ (w : World) (h : Heap), YP w h → (K w.params).In h)
    (F : ∀ (w : World) (mg : Str → Option Value) (fa : Addr) (h : Heap), (K w.params).In h → h.Ns mainGlobals mg → mg d.name = some (.ref fa) →
      ∃ fd : FuncData, (∀ (s : Shared) (u : Value), BindsTo s fd ⟨[u], []⟩ [(x, u)]) ∧
        ∀ base : Heap, (K w.params).In base → base.Ns mainGlobals mg → FnOk l.prog w (K w.params) mg base (CX w) k fa fd [x] (sp w))
    (hsp : ∀ (w : World) (H : Hp) (a : Addr) (ns : List Int), ns.length ≤ n → (∀ m ∈ ns, Builtin.Int.intBits m ≤ 1048576) → SqL (K w.params) H a (ns.map V.int) → sp w [.ref a] H (fun v _ => v = .bl true) fun _ _ _ => False)
    (hCX : ∀ (w : World) (H : Hp) (s : Shared) (e : Value) (s' : Shared), CX w [] H s (fun _ _ _ => False) e s' → False) :
    PySem.W.WalkO q loose XP YP l.row.toRowW d [] (fun f vs => PySem.call f vs) := by
  intro w s₀ s₁ mg mb G Y fa o pm cd doc dV kV ho hd hcd hD hmg hg args vals as hpre hlay hrd hwl hlo
  obtain ⟨a, vs, ns, rfl, rfl, hobj, hints, hlen⟩ := Att.script_of hn hpre hwl
  have KX := hY w _ Y
  obtain ⟨fd, hb, hF⟩ := F w mg fa _ KX G.T.g hmg
  have call := law_call KX G.T.g G.T.b G.T.builtins G.T.nolimit hg hobj hints (Nat.le_trans hlen hn2) hr hF hb (fun H hO hS => hsp w H a ns hlen (bits_of_lay hlay) hS) fun H e s' => hCX w H s₁ e s'
  refine PySem.W.enter_call (codeAny_mono call fun r s' hq => ?_)
  obtain ⟨rfl, h2, h3, h4⟩ := hq
  exact ⟨.inl ⟨.bool true, .bool true, [], rfl, fun _ => rfl, .bool true, Att.post_true l _, fun _ => ⟨List.Pairwise.nil, fun _ hm => (nomatch hm)⟩⟩, h2, h3, h4⟩
def spLaw (K : PySem.W.Frag) : Sp := fun vs H Q _ => ∃ (a : Addr) (ns : List Int), vs = [.ref a] ∧ SqL K H a (ns.map V.int) ∧ ns.length ≤ 63 ∧ (∀ m ∈ ns, Builtin.Int.intBits m ≤ 1048576) ∧ ∀ H', Q (.bl true) H'
end L2

namespace L2
open PySem PySem.Spec PyProof.Rows

def tCut (t u : TS) : TS := fun D σ H => ∃ R : St → Hp → Prop, t { D with nx := R } σ H ∧ ∀ σ' H', R σ' H' → u D σ' H'
theorem pss_cut {X : Cx} {st : Stmt} {rest : List Stmt} {t u : TS} (h1 : PS X st t) (h2 : PSs X rest u) : PSs X (st :: rest) (tCut t u) := by
  intro pins s σ H D I h
  obtain ⟨R, h, k⟩ := h
  refine wpAny_execs_cons (thn (h1 pins s σ H { D with nx := R } I h) fun f s1 q => ?_)
  cases f with
  | next =>
    obtain ⟨σ', H', I', q⟩ := q
    exact h2 pins s1 σ' H' D I' (k _ _ q)
  | ret v => exact q
  | brk => exact q
  | cont => exact q

theorem bits_lit {i : Int} {k : Nat} (h : i.natAbs < 2 ^ k) (hk : k ≤ 1048576) : Builtin.Int.intBits i ≤ 1048576 := Nat.le_trans (intBits_le h) hk
theorem bits_getD {ns : List Int} (h : ∀ m ∈ ns, Builtin.Int.intBits m ≤ 1048576) (k : Nat) : Builtin.Int.intBits (ns.getD k 0) ≤ 1048576 := by
  rw [List.getD_eq_getElem?_getD]
  cases e : ns[k]? with
  | none => exact bits_lit (k := 1) (by decide) (by decide)
  | some m => exact h m (List.mem_of_getElem? e)
theorem log2_lt_of {i : Int} {k : Nat} (h : i.natAbs < 2 ^ k) (hk : 0 < k) : i.natAbs.log2 < k := by
  by_cases h0 : i.natAbs = 0
  · rw [h0]; exact hk
  · exact (Nat.log2_lt h0).mpr h

def spCell (K : PySem.W.Frag) : Sp := fun vs H Q _ => ∃ (a : Addr) (ns : List Int) (k : Int), vs = [.ref a, .int k] ∧ SqL K H a (ns.map V.int) ∧ 0 ≤ k ∧ Q (.int (ns.getD k.toNat 0)) H
theorem cell_in {ns : List Int} {k : Int} (h0 : 0 ≤ k) (h : k < ((ns.map V.int).length : Nat)) : atI (ns.map V.int) k = some (.int (ns.getD k.toNat 0)) := by
  rw [List.length_map] at h
  have hk : k.toNat < ns.length := by omega
  have ek : k = ((k.toNat : Nat) : Int) := by omega
  have q : atI (ns.map V.int) ((k.toNat : Nat) : Int) = some (.int (ns.getD k.toNat 0)) := atI_nat (by
    rw [List.getElem?_map, List.getElem?_eq_getElem hk, List.getD_eq_getElem?_getD, List.getElem?_eq_getElem hk]
    rfl)
  rw [← ek] at q
  exact q
theorem cell_out {ns : List Int} {k : Int} (h : ¬ k < ((ns.map V.int).length : Nat)) (h0 : 0 ≤ k) : ns.getD k.toNat 0 = 0 := by
  rw [List.length_map] at h
  rw [List.getD_eq_getElem?_getD, List.getElem?_eq_none (by omega)]
  rfl
def spWhole : Sp := fun vs H Q _ => ∃ n, vs = [.int n] ∧ Q (.bl true) H
def spAlone (C : Addr) : Sp := fun vs H Q _ => ∃ e, vs = [.ref e] ∧ H e = some (.ext (ExcAt C e)) ∧ ∀ H', Same H H' → Q (.bl true) H'
theorem same_new {H : Hp} {p : Addr} (h : H p = none) (o : HO) : Same H (upd H p o) := fun b u q => by rw [upd_ne (ne_of_none q h)]; exact q
end L2
namespace L2
open PySem PySem.Spec PyProof.Rows
def Has (P : Program) (w : World) (K : PySem.W.Frag) (mg : Str → Option Value) (base : Heap) (CX : CXT) (k : Nat) (x : Str) (ps : List Str) (sp : Sp) : Prop :=
  ∃ (f : Addr) (fd : FuncData), FnOk P w K mg base CX k f fd ps sp ∧ Binds K fd ps [] ∧ PySem.W.keepIn K (.ref f) = true ∧ mg x = some (.ref f)
def HasQ (P : Program) (w : World) (K : PySem.W.Frag) (mg : Str → Option Value) (base : Heap) (k : Nat) (x : Str) (ps : List Str) (sp : Sp) : Prop :=
  ∃ (f : Addr) (fd : FuncData), FnOkQ P w K mg base k f fd ps sp ∧ Binds K fd ps [] ∧ PySem.W.keepIn K (.ref f) = true ∧ mg x = some (.ref f)
theorem decT {p : Prop} [Decidable p] (h : decide p = true) : p := of_decide_eq_true h
theorem decF {p : Prop} [Decidable p] (h : ¬ decide p = true) : ¬ p := of_decide_eq_false (Bool.eq_false_iff.mpr h)
theorem int_inj {a b : Int} (h : V.int a = V.int b) : a = b := V.int.inj h
end L2
namespace L2
open PySem PySem.Spec PyProof.Rows
inductive IntsE : List Expr → List Int → Prop where
  | nil : IntsE [] []
  | cons {i : Int} {j : Nat} {pos : Pos} {es : List Expr} {ns : List Int} (h : IntsE es ns) : IntsE (.Constant (.int i) j pos :: es) (i :: ns)
end L2
namespace L2
open PySem PySem.Spec PyProof.Rows
end L2

namespace Sh
theorem quot (x y : Int) : x = y * Int.fdiv x y + Int.fmod x y := by rw [Int.fmod_def]; omega
structure Rows (x y a s t b u v : Int) : Prop where
  up : a = s * x + t * y
  lo : b = u * x + v * y
  one : ∃ p q, x = p * a + q * b
  two : ∃ p q, y = p * a + q * b
theorem rows_start (x y : Int) : Rows x y x 1 0 y 0 1 := ⟨by omega, by omega, ⟨1, 0, by omega⟩, ⟨0, 1, by omega⟩⟩
theorem rows_turn {x y a s t b u v : Int} (h : Rows x y a s t b u v) (q : Int) : Rows x y b u v (a - q * b) (s - q * u) (t - q * v) := by
  obtain ⟨h1, h2, ⟨p1, q1, h3⟩, ⟨p2, q2, h4⟩⟩ := h
  refine ⟨h2, by grind, ⟨p1 * q + q1, p1, ?_⟩, ⟨p2 * q + q2, p2, ?_⟩⟩ <;> grind
theorem rows_end {x y a s t b u v : Int} (h : Rows x y a s t b u v) (hb : b = 0) : a = s * x + t * y ∧ (∃ p, x = p * a) ∧ (∃ p, y = p * a) := by
  obtain ⟨h1, h2, ⟨p1, q1, h3⟩, ⟨p2, q2, h4⟩⟩ := h
  subst hb
  exact ⟨h1, ⟨p1, by grind⟩, ⟨p2, by grind⟩⟩
structure Sz (B a s t b u v : Int) : Prop where
  a0 : a.natAbs ≤ B.natAbs
  b0 : b.natAbs ≤ B.natAbs
  s0 : s.natAbs ≤ B.natAbs
  t0 : t.natAbs ≤ B.natAbs
  u0 : u.natAbs ≤ B.natAbs
  v0 : v.natAbs ≤ B.natAbs
  way : (s = 1 ∧ t = 0 ∧ u = 0 ∧ v = 1 ∧ a.natAbs + 2 * b.natAbs ≤ B.natAbs) ∨
    ((0 ≤ a ∧ 0 ≤ b ∨ a ≤ 0 ∧ b ≤ 0) ∧ s.natAbs * b.natAbs + u.natAbs * a.natAbs ≤ B.natAbs ∧ t.natAbs * b.natAbs + v.natAbs * a.natAbs ≤ B.natAbs)
theorem le_of_mul {m n B : Nat} (h : m * n ≤ B) (hn : n ≠ 0) : m ≤ B := Nat.le_trans (Nat.le_mul_of_pos_right m (Nat.pos_of_ne_zero hn)) h
theorem fmod_abs {a b : Int} (hb : b ≠ 0) : (Int.fmod a b).natAbs < b.natAbs := by
  rcases Int.lt_or_gt_of_ne hb with h | h
  · have h1 := Int.fmod_lt_of_pos (-a) (show 0 < -b by omega)
    have h2 := Int.fmod_nonneg_of_pos (-a) (show 0 < -b by omega)
    rw [Int.neg_fmod_neg] at h1 h2
    omega
  · have h1 := Int.fmod_lt_of_pos a h
    have h2 := Int.fmod_nonneg_of_pos a h
    omega
theorem fmod_sign {a b : Int} (hb : b ≠ 0) : 0 ≤ b ∧ 0 ≤ Int.fmod a b ∨ b ≤ 0 ∧ Int.fmod a b ≤ 0 := by
  rcases Int.lt_or_gt_of_ne hb with h | h
  · have h2 := Int.fmod_nonneg_of_pos (-a) (show 0 < -b by omega)
    rw [Int.neg_fmod_neg] at h2
    omega
  · have h2 := Int.fmod_nonneg_of_pos a h
    omega
theorem abs_sub_mul (s q u : Int) : (s - q * u).natAbs ≤ s.natAbs + q.natAbs * u.natAbs := by
  have := Int.natAbs_sub_le s (q * u)
  rw [Int.natAbs_mul] at this
  exact this
theorem sum_turn {s u a b q r : Int} (hq : (q * b).natAbs + r.natAbs ≤ a.natAbs) : u.natAbs * r.natAbs + (s - q * u).natAbs * b.natAbs ≤ s.natAbs * b.natAbs + u.natAbs * a.natAbs := by
  have h1 := Nat.mul_le_mul_right b.natAbs (abs_sub_mul s q u)
  have h2 := Nat.mul_le_mul_left u.natAbs hq
  rw [Int.natAbs_mul] at h2
  rw [Nat.add_mul] at h1
  rw [Nat.mul_add] at h2
  have e : q.natAbs * u.natAbs * b.natAbs = u.natAbs * (q.natAbs * b.natAbs) := by
    rw [Nat.mul_comm q.natAbs, Nat.mul_assoc]
  omega
theorem sz_start {x y : Int} : Sz ((x.natAbs : Int) + 2 * y.natAbs + 1) x 1 0 y 0 1 := by
  refine ⟨by omega, by omega, by omega, by omega, by omega, by omega, .inl ⟨rfl, rfl, rfl, rfl, by omega⟩⟩
theorem sz_turn {B a s t b u v : Int} (h : Sz B a s t b u v) (hb : b ≠ 0) (q r : Int) (hq : a = b * q + r) (hr : r = Int.fmod a b) :
    Sz B b u v r (s - q * u) (t - q * v) := by
  have ra : r.natAbs < b.natAbs := hr ▸ fmod_abs hb
  have rs : 0 ≤ b ∧ 0 ≤ r ∨ b ≤ 0 ∧ r ≤ 0 := hr ▸ fmod_sign hb
  have eq : q * b = a - r := by rw [Int.mul_comm]; omega
  rcases h.way with ⟨rfl, rfl, rfl, rfl, h1⟩ | ⟨hs, h1, h2⟩
  · have hq' : (q * b).natAbs ≤ a.natAbs + r.natAbs := by rw [eq]; omega
    have hqb : q.natAbs ≤ (q * b).natAbs := by
      rw [Int.natAbs_mul]
      exact Nat.le_mul_of_pos_right _ (by omega)
    have e1 : (1 - q * 0).natAbs = 1 := by rw [Int.mul_zero]; rfl
    have e2 : (0 - q * 1).natAbs = q.natAbs := by rw [Int.mul_one]; omega
    have b0 := h.b0
    refine ⟨h.b0, by omega, h.u0, h.v0, by rw [e1]; omega, by rw [e2]; omega, .inr ⟨rs, ?_, ?_⟩⟩
    · rw [e1]; simp; omega
    · have e3 : q.natAbs * b.natAbs = (q * b).natAbs := (Int.natAbs_mul q b).symm
      have e4 : (1 : Int).natAbs * r.natAbs = r.natAbs := by rw [show (1 : Int).natAbs = 1 from rfl, Nat.one_mul]
      rw [e2, e3, e4]
      omega
  · have hq' : (q * b).natAbs + r.natAbs ≤ a.natAbs := by
      have q0 : 0 ≤ q := by
        rcases (show 0 ≤ q ∨ q ≤ -1 by omega) with h0 | h0
        · exact h0
        · exfalso
          rcases (show 0 < b ∨ b < 0 by omega) with hb' | hb'
          · have := Int.mul_le_mul_of_nonneg_left h0 (Int.le_of_lt hb')
            omega
          · have := Int.mul_le_mul_of_nonneg_left h0 (show 0 ≤ -b by omega)
            rw [Int.neg_mul, Int.neg_mul] at this
            omega
      rcases (show 0 < b ∨ b < 0 by omega) with hb' | hb'
      · have := Int.mul_nonneg q0 (Int.le_of_lt hb')
        omega
      · have := Int.mul_nonneg q0 (show 0 ≤ -b by omega)
        rw [Int.mul_neg] at this
        omega
    have k1 := sum_turn (s := s) (u := u) hq'
    have k2 := sum_turn (s := t) (u := v) hq'
    refine ⟨h.b0, by have := h.b0; omega, h.u0, h.v0, ?_, ?_, .inr ⟨rs, by omega, by omega⟩⟩
    · exact le_of_mul (n := b.natAbs) (by omega) (by omega)
    · exact le_of_mul (n := b.natAbs) (by omega) (by omega)
end Sh

namespace L2
open PySem PySem.Spec PyProof.Rows

def cxC (X : Cx) (N : List Str) (scope : Scope) (cl : List (Str × Addr)) (C : Addr) (s0 : Shared) (H0 : Hp) (fp : List Addr) (pins : List (Addr × Obj)) : Cx :=
  { X with N := N, s₀ := s0, H₀ := H0, env := compEnvC scope cl C X.env, outer := X.stack, ex := fp, fn := fun _ => false, pn := X.pn ++ pins, xe := fun _ _ => False }
structure CompScope (X : Cx) (N : List Str) (fr : List Nat) (x : Str) (scope : Scope) (cl : List (Str × Addr)) : Prop where
  kind : scope.kind = .function
  nocell : ∀ y ∈ scope.names, y.2 ≠ .cell
  loc : ∀ y ∈ scope.names, y.2 = .local → scope.names.lookup y.1 = some .local
  own : scope.names.lookup x = some .local
  clos : closureFor scope X.env = pure cl
  sub : ∀ y c, cl.lookup y = some c → X.env.cells.lookup y = some c
  has : ∀ y, ((relabel scope X.env).names.lookup y = some .cell ∨ (relabel scope X.env).names.lookup y = some .free) → ∃ c, cl.lookup y = some c
  nd : N.Nodup
  hN : N[0]? = some x
  len : N.length = fr.length + 1
  ownOnly : ∀ (j : Nat) (y : Str), N[j + 1]? = some y → (relabel scope X.env).names.lookup y ≠ some .local
  out : ∀ (j k : Nat), fr[j]? = some k → ∃ y, N[j + 1]? = some y ∧ X.N[k]? = some y ∧ X.env.kindOf y = some .cell
def compSt (σ : St) (fr : List Nat) (v : Option V) : St := v :: fr.map fun k => (σ[k]?).join
def tComp (wi : TI) (fr : List Nat) (te : TE) : TE := fun σ H Q => wi σ H fun J H1 => ∀ acc, H1 acc = none → ∃ W : Nat → Nat → Hp → List V → Prop, (∃ m, W 0 m (upd H1 acc (.lst [])) []) ∧
  ∀ i m H' vs, W i m H' vs → H' acc = some (.lst vs) ∧ ((J.stop i H' ∧ Q (.ref acc) H') ∨ (J.go i H' ∧ vs.length < sizeLine ∧ ∀ x H2, J.yld i H' x H2 → te (compSt σ fr (some x)) H2 fun y H3 => H3 acc = some (.lst vs) ∧ ∃ m', m' < m ∧ W (i + 1) m' (upd H3 acc (.lst (vs ++ [y]))) (vs ++ [y])))
section
variable {X : Cx} {N : List Str} {fr : List Nat} {x : Str} {scope : Scope} {cl : List (Str × Addr)} {elt iter : Expr} {px pos : Pos} {wi : TI} {te : TE}
end
end L2

namespace L2
open PySem PySem.Spec PyProof.Rows
end L2

namespace L2
open PySem PySem.Spec PyProof.Rows

section
variable {κ : Type} [DecidableEq κ]
def valV (kvs : List (κ × V)) (k : κ) : Option V := (kvs.find? fun kv => decide (kv.1 = k)).map (·.2)
def putK (kvs : List (κ × V)) (k : κ) (v : V) : List (κ × V) :=
  if (kvs.any fun kv => decide (kv.1 = k)) = true then kvs.map (fun kv => if kv.1 = k then (kv.1, v) else kv) else kvs ++ [(k, v)]
def dropK (kvs : List (κ × V)) (k : κ) : List (κ × V) := kvs.filter fun kv => decide (kv.1 ≠ k)

end

abbrev KT (H : Hp) : List (List Key × V) → List (List Key × Addr × Value) → Prop := Paired fun p q => p.1 = q.1 ∧ H q.2.1 = some (.tup (p.1.map kV)) ∧ RelV p.2 q.2.2
section
variable {P : Program} {w : World} {H : Hp} {h : Heap} {a : Addr}
end

def DGet (H : Hp) (a : Addr) (y : V) (r : Option V) : Prop :=
  (∃ kvs k, Rd H a (.dK kvs) ∧ y = kV k ∧ r = valV kvs k) ∨ ∃ kvs k b, Rd H a (.dT kvs) ∧ y = .ref b ∧ H b = some (.tup (k.map kV)) ∧ r = valV kvs k
def DPut (H : Hp) (a : Addr) (y v : V) (H' : Hp) : Prop :=
  (∃ kvs k, H a = some (.dK kvs) ∧ y = kV k ∧ kvs.length < sizeLine ∧ H' = upd H a (.dK (putK kvs k v))) ∨
  ∃ kvs k b, H a = some (.dT kvs) ∧ y = .ref b ∧ H b = some (.tup (k.map kV)) ∧ kvs.length < sizeLine ∧ H' = upd H a (.dT (putK kvs k v))
section
variable {X : Cx} {pins : List (Addr × Obj)} {σ : St} {H : Hp} {s : Shared} {a : Addr} {y v : V} {u r : Value} {o : Option V} {A : Around} {E : Value → Shared → Prop}

end

section
variable {X : Cx} {pins : List (Addr × Obj)} {σ : St} {H : Hp} {s : Shared} {a : Addr} {kvs : List (Key × V)} {k : Key} {u : Value} {A : Around} {E : Value → Shared → Prop}
end

def NoSl (i : Expr) : Prop := ∀ ov iv, subscripted i false ov iv = operate [ov, iv] (getItem ov iv)
def tDGet (td ty : TE) : TE := fun σ H Q => td σ H fun x H1 => ty σ H1 fun y H2 => ∃ a v, x = .ref a ∧ DGet H2 a y (some v) ∧ Q v H2
def tDIn (ty td : TE) : TE := fun σ H Q => ty σ H fun y H1 => td σ H1 fun x H2 => ∃ a o, x = .ref a ∧ DGet H2 a y o ∧ Q (.bl o.isSome) H2
def tDNotIn (ty td : TE) : TE := fun σ H Q => ty σ H fun y H1 => td σ H1 fun x H2 => ∃ a o, x = .ref a ∧ DGet H2 a y o ∧ Q (.bl (!o.isSome)) H2
def sDPut (td ty tv : TE) : TS := fun D σ H => tv σ H fun v H1 => td σ H1 fun x H2 => ty σ H2 fun y H3 => ∃ a H4, x = .ref a ∧ DPut H3 a y v H4 ∧ D.nx σ H4
def sDAug (td ty tv : TE) (rd : V → V → Hp → VK → Prop) : TS := fun D σ H => td σ H fun x H1 => ty σ H1 fun y H2 => ∃ a v, x = .ref a ∧ DGet H2 a y (some v) ∧
  tv σ H2 fun y2 H3 => rd v y2 H3 fun z H4 => ∃ H5, DPut H4 a y z H5 ∧ D.nx σ H5
def sDDel (td ty : TE) : TS := fun D σ H => td σ H fun x H1 => ty σ H1 fun y H2 => ∃ a kvs k, x = .ref a ∧ H2 a = some (.dK kvs) ∧ y = kV k ∧ (valV kvs k).isSome = true ∧ D.nx σ (upd H2 a (.dK (dropK kvs k)))

section
variable {X : Cx} {o i e value : Expr} {pos pos' tpos : Pos} {td ty tv : TE}
end

def tDNewK : TE := fun _ H Q => ∀ p, H p = none → Q (.ref p) (upd H p (.dK []))
def tDNewT : TE := fun _ H Q => ∀ p, H p = none → Q (.ref p) (upd H p (.dT []))
section
variable {X : Cx} {pos : Pos}
end

def tPairs : List (TE × TE) → St → Hp → (List (V × V) → Hp → Prop) → Prop
  | [], _, H, Q => Q [] H
  | (tk, tv) :: r, σ, H, Q => tk σ H fun x H1 => tv σ H1 fun y H2 => tPairs r σ H2 fun ps H3 => Q ((x, y) :: ps) H3
abbrev VV : List (V × V) → List (Value × Value) → Prop := Paired fun p q => RelV p.1 q.1 ∧ RelV p.2 q.2
def PPs (X : Cx) (pos : Pos) (keys : List (Option Expr)) (values : List Expr) (trs : List (TE × TE)) : Prop :=
  ∀ (pins : List (Addr × Obj)) (s : Shared) (σ : St) (H : Hp) (Q : List (V × V) → Hp → Prop), Inv X pins σ H s → tPairs trs σ H Q →
    wpAny (model X.prog X.w) X.A (evalPairs (pairTrees keys values X.env pos)) (fun vs s' => ∃ ps H', Inv X pins σ H' s' ∧ VV ps vs ∧ Q ps H') X.xe s
def mergeK (kvs more : List (Key × V)) : List (Key × V) := more.foldl (fun acc kv => putK acc kv.1 kv.2) kvs
def tDisp (trs : List (TE × TE)) : TE := fun σ H Q => ∀ p, H p = none → tPairs trs σ (upd H p (.dK [])) fun ps H2 => H2 p = some (.dK []) ∧ ∃ kvs : List (Key × V), ps = kvs.map (fun kv => (kV kv.1, kv.2)) ∧ kvs.length ≤ 15 ∧ Q (.ref p) (upd H2 p (.dK (mergeK [] kvs)))
structure M1 (X : Cx) (o : Expr) (m : Str) (apos : Pos) (e : Expr) (cpos : Pos) : Prop where
  base : attributeBase o m X.env (eval o X.env) = eval o X.env
  few : ((backTo cpos (starEach [e] X.env)).all (fun x => !x.1) && (backToKw cpos (keywordEach [] X.env)).all (fun x => x.1.isSome)
    && decide (([e] : List Expr).length + ([] : List Keyword).length + (if ([] : List Keyword).isEmpty then 0 else 1) < 30)) = true
  line : (apos.endLine == cpos.line) = true
  trees : backTo cpos (starEach [e] X.env) = [(false, eval e X.env)]
structure M2 (X : Cx) (o : Expr) (m : Str) (apos : Pos) (e f : Expr) (cpos : Pos) : Prop where
  base : attributeBase o m X.env (eval o X.env) = eval o X.env
  few : ((backTo cpos (starEach [e, f] X.env)).all (fun x => !x.1) && (backToKw cpos (keywordEach [] X.env)).all (fun x => x.1.isSome)
    && decide (([e, f] : List Expr).length + ([] : List Keyword).length + (if ([] : List Keyword).isEmpty then 0 else 1) < 30)) = true
  line : (apos.endLine == cpos.line) = true
  trees : backTo cpos (starEach [e, f] X.env) = [(false, eval e X.env), (false, eval f X.env)]

def IsD (H : Hp) (a : Addr) : Prop := (∃ kvs, Rd H a (.dK kvs)) ∨ ∃ kvs, Rd H a (.dT kvs)
section
variable {X : Cx} {pins : List (Addr × Obj)} {σ : St} {H : Hp} {s : Shared} {a : Addr} {y d : V} {u r : Value} {o : Option V} {A : Around} {E : Value → Shared → Prop}
end

def tDGet1 (td ty : TE) : TE := fun σ H Q => td σ H fun x H1 => ∃ a, x = .ref a ∧ IsD H1 a ∧ ty σ H1 fun y H2 => ∃ o, DGet H2 a y o ∧ Q (o.getD .non) H2
def tDGet2 (td ty tx : TE) : TE := fun σ H Q => td σ H fun x H1 => ∃ a, x = .ref a ∧ IsD H1 a ∧ ty σ H1 fun y H2 => tx σ H2 fun z H3 => ∃ o, DGet H3 a y o ∧ Q (o.getD z) H3
def tDPop1 (td ty : TE) : TE := fun σ H Q => td σ H fun x H1 => ∃ a, x = .ref a ∧ IsD H1 a ∧ ty σ H1 fun y H2 => ∃ kvs k v, H2 a = some (.dK kvs) ∧ y = kV k ∧ valV kvs k = some v ∧ Q v (upd H2 a (.dK (dropK kvs k)))
def tDPop2 (td ty tx : TE) : TE := fun σ H Q => td σ H fun x H1 => ∃ a, x = .ref a ∧ IsD H1 a ∧ ty σ H1 fun y H2 => tx σ H2 fun z H3 => ∃ kvs k, H3 a = some (.dK kvs) ∧ y = kV k ∧
  (∀ v, valV kvs k = some v → Q v (upd H3 a (.dK (dropK kvs k)))) ∧ (valV kvs k = none → Q z H3)
section
variable {X : Cx} {o e f : Expr} {apos cpos : Pos} {td ty tx : TE}
end

section
variable {X : Cx} {pins : List (Addr × Obj)} {σ : St} {H : Hp} {s : Shared} {a : Addr} {y : V} {u : Value} {A : Around} {E : Value → Shared → Prop}
end
end L2

namespace L2
open PySem PySem.Spec PyProof.Rows

section
variable {P : Program} {w : World} {K : PySem.W.Frag} {mg : Str → Option Value} {base : Heap}
end
section
variable {X : Cx}
end

section
variable {κ : Type} [DecidableEq κ]
end
end L2

namespace L2
open PySem PySem.Spec PyProof.Rows
abbrev pairD (x : Int × Int) : PyData := .tuple [.int x.1, .int x.2]
end L2

namespace L2
open PySem PySem.Spec PyProof.Rows
def tCompIf (wi : TI) (fr : List Nat) (tc : TT) (te : TE) : TE := fun σ H Q => wi σ H fun J H1 => ∀ acc, H1 acc = none → ∃ W : Nat → Nat → Hp → List V → Prop, (∃ m, W 0 m (upd H1 acc (.lst [])) []) ∧
  ∀ i m H' vs, W i m H' vs → H' acc = some (.lst vs) ∧ ((J.stop i H' ∧ Q (.ref acc) H') ∨ (J.go i H' ∧ vs.length < sizeLine ∧ ∀ x H2, J.yld i H' x H2 → tc (compSt σ fr (some x)) H2 fun b H3 =>
    if b = true then te (compSt σ fr (some x)) H3 fun y H4 => H4 acc = some (.lst vs) ∧ ∃ m', m' < m ∧ W (i + 1) m' (upd H4 acc (.lst (vs ++ [y]))) (vs ++ [y]) else ∃ m', m' < m ∧ W (i + 1) m' H3 vs))
section
variable {X : Cx} {N : List Str} {fr : List Nat} {x : Str} {scope : Scope} {cl : List (Str × Addr)} {elt iter : Expr} {px pos : Pos} {wi : TI} {te : TE}
end
end L2

namespace L2
open PySem PySem.Spec PyProof.Rows
section
variable {M : Model} {A : Around} {E : Value → Shared → Prop}
variable {nm q nm' q' : Str} {C N D N' : Addr} {bs bm bs' bm' : List Value} {hdct hdct' : Bool} {sn sn' : List Str} {sub sub' : List Value} {ab ab' : Bool} {col col' : Option Bool} {dd dd' : Option Addr} {k0 k1 k2 k3 k5 j0 j1 j2 j3 j5 : Option Value} {newId newId' : String}
end
section
variable {X : Cx} {pins : List (Addr × Obj)} {σ : St} {H H' : Hp} {s s' : Shared} {e : Addr} {cls a0 : Value} {ea C : Addr} {B h' : Heap} {t' : Nat}
end
section
variable {X : Cx} {k : Nat} {f C : Addr} {fd : FuncData} {ps : List Str} {sp : Sp} {g x n : Str} {p pos pos2 pos3 np hpos : Pos} {e : Expr} {es : List Expr} {t : TA} {ts : TS} {b₀ : Stmt} {suite : List Stmt} {i : Nat}
end
end L2

namespace L2
open PySem PySem.Spec PyProof.Rows
def bls (c : Int) (i : Nat) : List Bool := (List.range i).map fun (j : Nat) => decide (V.int (0 + (j : Int)) = V.int c)
def spAloneS (C : Addr) (k : Int) : Sp := fun vs H Q _ => ∃ e, vs = [.ref e, .int k] ∧ H e = some (.ext (ExcAt C e)) ∧ ∀ H', Same H H' → Q (.bl true) H'
end L2

namespace L2
open PySem PySem.Spec PyProof.Rows
end L2

namespace L2
open PySem PySem.Spec PyProof.Rows
def tTryAs3 (sp : Sp) (C C2 : Addr) (i : Nat) (ta : TA) (ts : TS) : TS := fun D σ H => ta σ H fun vs H1 => sp vs H1 (fun _ H2 => D.nx σ H2) fun cls _ H2 =>
  (cls = .ref C ∧ ∀ e, H2 e = none → ts (asEnds D i) (σ.set i (some (.ref e))) (upd H2 e (.ext (ExcAt C e)))) ∨ (cls = .ref C2 ∧ ∀ e, H2 e = none → ts (asEnds D i) (σ.set i (some (.ref e))) (upd H2 e (.ext (ExcAt C2 e))))
section
variable {X : Cx} {k : Nat} {f C : Addr} {fd : FuncData} {ps : List Str} {sp : Sp} {g x n : Str} {p pos pos2 pos3 np hpos : Pos} {e : Expr} {es : List Expr} {t : TA} {ts : TS} {b₀ : Stmt} {suite : List Stmt} {i : Nat}
end
end L2

namespace L2
open PySem PySem.Spec PyProof.Rows
inductive IsiE (X : Cx) (C0 : Addr) : List Expr → List Bool → Prop where
  | nil : IsiE X C0 [] []
  | cons {x : Str} {C : Addr} {b : Bool} {p p2 p3 p4 : Pos} {es : List Expr} {bs : List Bool} (h5 : Gl X x) (h6 : X.mg x = some (.ref C)) (h7 : (x == ("__debug__" : Str)) = false) (k : PySem.W.kitOne X.K (.ref C0) (.ref C) = some b) (h : IsiE X C0 es bs) :
      IsiE X C0 (.Call (.Name "isinstance" p) [.Name "_law_e" p2, .Name x p3] [] p4 :: es) (b :: bs)
def tIsis (C0 : Addr) (bs : List Bool) : TA := fun σ H Q => ∃ a, σ[0]? = some (some (V.ref a)) ∧ H a = some (.ext (ExcAt C0 a)) ∧ Q (bs.map V.bl) H
end L2

namespace L2
open PySem PySem.Spec PyProof.Rows
def tSetC (wi : TI) (fr : List Nat) (tc : TT) (te : TE) (k : Nat) : TS := fun D σ H => tCompIf wi fr tc te σ H fun v H' => D.nx (σ.set k (some v)) H'
section
variable {X : Cx} {N : List Str} {fr : List Nat} {x : Str} {scope : Scope} {cl : List (Str × Addr)} {elt iter : Expr} {px pos : Pos} {wi : TI} {te : TE}
end
end L2

namespace L2
open PySem PySem.Spec PyProof.Rows
def CompEnd (J : It) (Q : VK) (H1 : Hp) (te : TE) (σ : V → St) : Prop := ∀ acc, H1 acc = none → ∃ W : Nat → Nat → Hp → List V → Prop, (∃ m, W 0 m (upd H1 acc (.lst [])) []) ∧
  ∀ i m H' vs, W i m H' vs → H' acc = some (.lst vs) ∧ ((J.stop i H' ∧ Q (.ref acc) H') ∨ (J.go i H' ∧ vs.length < sizeLine ∧ ∀ x H2, J.yld i H' x H2 → te (σ x) H2 fun y H3 => H3 acc = some (.lst vs) ∧ ∃ m', m' < m ∧ W (i + 1) m' (upd H3 acc (.lst (vs ++ [y]))) (vs ++ [y])))
def CompIfEnd (J : It) (Q : VK) (H1 : Hp) (tc : TT) (te : TE) (σ : V → St) : Prop := ∀ acc, H1 acc = none → ∃ W : Nat → Nat → Hp → List V → Prop, (∃ m, W 0 m (upd H1 acc (.lst [])) []) ∧
  ∀ i m H' vs, W i m H' vs → H' acc = some (.lst vs) ∧ ((J.stop i H' ∧ Q (.ref acc) H') ∨ (J.go i H' ∧ vs.length < sizeLine ∧ ∀ x H2, J.yld i H' x H2 → tc (σ x) H2 fun b H3 =>
    if b = true then te (σ x) H3 fun y H4 => H4 acc = some (.lst vs) ∧ ∃ m', m' < m ∧ W (i + 1) m' (upd H4 acc (.lst (vs ++ [y]))) (vs ++ [y]) else ∃ m', m' < m ∧ W (i + 1) m' H3 vs))
def tCompC (wi : TI) (fr : List Nat) (te : TE) : TE := fun σ H Q => wi σ H fun J H1 => CompEnd J Q H1 te (fun x => compSt σ fr (some x))
def tCompIfC (wi : TI) (fr : List Nat) (tc : TT) (te : TE) : TE := fun σ H Q => wi σ H fun J H1 => CompIfEnd J Q H1 tc te (fun x => compSt σ fr (some x))
def tSetC0 (wi : TI) (fr : List Nat) (te : TE) (k : Nat) : TS := fun D σ H => tCompC wi fr te σ H fun v H' => D.nx (σ.set k (some v)) H'
section
variable {X : Cx} {N : List Str} {fr : List Nat} {x : Str} {scope : Scope} {cl : List (Str × Addr)} {elt iter : Expr} {px pos : Pos} {wi : TI} {te : TE}
end

section
variable {X : Cx} {N : List Str} {fr : List Nat} {x : Str} {scope : Scope} {cl : List (Str × Addr)} {elt iter : Expr} {px pos : Pos} {wi : TI} {te : TE}
end
mutual
inductive DA (H : Hp) : V → PyData → Prop where
  | int {i : Int} : DA H (.int i) (.int i)
  | bl {b : Bool} : DA H (.bl b) (.bool b)
  | str {x : Str} : DA H (.str x) (.str x)
  | lst {p : Addr} {xs : List V} {ds : List PyData} : H p = some (.lst xs) → DAs H xs ds → DA H (.ref p) (.list ds)
  | tup {p : Addr} {xs : List V} {ds : List PyData} : H p = some (.tup xs) → DAs H xs ds → DA H (.ref p) (.tuple ds)
inductive DAs (H : Hp) : List V → List PyData → Prop where
  | nil : DAs H [] []
  | cons {x : V} {d : PyData} {xs : List V} {ds : List PyData} : DA H x d → DAs H xs ds → DAs H (x :: xs) (d :: ds)
end
mutual
theorem DA.reads {X : Cx} {pins : List (Addr × Obj)} {σ : St} {H : Hp} {s : Shared} (I : Inv X pins σ H s) : ∀ {v : V} {d : PyData} {u : Value}, DA H v d → RelV v u → ∃ as, Reads s.heap u d as
  | _, _, _, .int, r => by obtain ⟨t, rfl⟩ := r; exact ⟨_, .int _ _⟩
  | _, _, _, .bl, r => by cases r; exact ⟨_, .bool _⟩
  | _, _, _, .str, r => by obtain ⟨t, rfl⟩ := r; exact ⟨_, .str _ _⟩
  | _, _, _, .lst h hs, r => by
    cases r
    obtain ⟨its, rv, ⟨o, n, e1, e2, _, e3⟩, _⟩ := I.list (SqL.of h)
    obtain ⟨as, z⟩ := DAs.reads I hs rv
    exact ⟨_, .list e1 e2 e3 z⟩
  | _, _, _, .tup h hs, r => by
    cases r
    obtain ⟨its, rv, ⟨o, e1, e2, n, e3⟩, _⟩ := I.tuple (SqT.of h)
    obtain ⟨as, z⟩ := DAs.reads I hs rv
    exact ⟨_, .tuple e1 e2 e3 z⟩
theorem DAs.reads {X : Cx} {pins : List (Addr × Obj)} {σ : St} {H : Hp} {s : Shared} (I : Inv X pins σ H s) : ∀ {vs : List V} {ds : List PyData} {us : List Value}, DAs H vs ds → Vals vs us → ∃ as, ReadsAll s.heap us ds as
  | _, _, _, .nil, r => by cases r; exact ⟨_, .nil⟩
  | _, _, _, .cons h hs, r => by
    cases r with
    | cons r1 r2 =>
      obtain ⟨a1, z1⟩ := DA.reads I h r1
      obtain ⟨a2, z2⟩ := DAs.reads I hs r2
      exact ⟨_, .cons z1 z2⟩
end
def rEqD : R2 := fun x y H Q => ∃ da db : PyData, DA H x da ∧ DA H y db ∧ SeqAt.shaped da = true ∧ SeqAt.shaped db = true ∧ Q (.bl (PyData.eqv da db)) H
def rNeD : R2 := fun x y H Q => ∃ da db : PyData, DA H x da ∧ DA H y db ∧ SeqAt.shaped da = true ∧ SeqAt.shaped db = true ∧ Q (.bl (!PyData.eqv da db)) H
theorem op_eqD {X : Cx} (hu : X.A.units + 64 < cLine) : OpR X (compareOp .Eq) rEqD := by
  intro pins s σ H x y v u Q I rx ry h
  obtain ⟨da, db, ha, hb, sa, sb, q⟩ := h
  obtain ⟨as, ra⟩ := ha.reads I rx
  obtain ⟨bs, rb⟩ := hb.reads I ry
  exact eq_dataH ra rb sa sb hu ⟨.bl _, H, I, rfl, q⟩
end L2

namespace L2
open PySem PySem.Spec PyProof.Rows
theorem dict_map (o : Obj) (f : Array Value → Array Value) : (o.mapFields f).dict = o.dict := by
  unfold Obj.mapFields
  split <;> rfl
def TrD (h base : Heap) (e : Addr) (cls : Value) (dx : Option Addr) (fl : Value) : Prop :=
  ∃ oe vs T oT ts, h.get? e = some oe ∧ (oe.cls = cls ∧ oe.dict = dx) ∧ oe.data = .fields vs ∧ vs[1]? = some (.ref T) ∧ base.get? T = none ∧ T ≠ e ∧ h.get? T = some oT ∧ oT.data = .fields ts ∧ ts[3]? = some fl
structure FlyAt (base : Heap) (l : List Env) (e : Addr) (cls : Value) (dx : Option Addr) (fl : Value) (h : Heap) : Prop where
  (stays : base.StaysIn h) (new : base.get? e = none) (frm : h.FunFrames base l) (tr : TrD h base e cls dx fl)
theorem FlyAt.there {base h : Heap} {l : List Env} {e : Addr} {cls fl : Value} {dx : Option Addr} (x : FlyAt base l e cls dx fl h) : ∃ ob, h.get? e = some ob ∧ ob.cls = cls ∧ ob.dict = dx ∧ ∃ vs, ob.data = .fields vs := by
  obtain ⟨oe, vs, _, _, _, he, hc, hd, _⟩ := x.tr
  exact ⟨oe, he, hc.1, hc.2, vs, hd⟩
section
variable {M : Model} {A : Around} {E : Value → Shared → Prop} {s : Shared}
theorem entryD {base : Heap} {env : Env} {outer : List Env} {L e : Addr} {oe : Obj} {vs : Array Value} {head : Value} {more : Bool} {Q : Unit → Shared → Prop}
    (fr : A.frames = some (env :: outer)) (fl : s.heap.FunFrames base (env :: outer)) (ef : env.frame = some L) (oe' : s.heap.get? e = some oe) (sb : base.StaysIn s.heap) (nb : base.get? e = none) (od : oe.data = .fields vs) (z1 : 1 < vs.size)
    (k : ∀ h', FlyAt base (env :: outer) e oe.cls oe.dict (rawInt L) h' → s.heap.UpToSlots h' → Q () { s with heap := h' }) :
    wpAny M A (do let a ← frameOf env; let pl ← entryPlaceOf L more; let b ← EntryCells.newEntry head a .none (rawInt L) .none pl; setField (.ref e) 1 b) Q E s := by
  have nf : e ∉ (env :: outer).filterMap (·.frame) := fun m => by
    obtain ⟨_, o, h1, h2⟩ := fl.mem m
    rw [oe'] at h1
    cases h1
    exact h2 vs od
  refine wpAny_bind (wpAny_frameOf_fun fr fl ef fun h1 q1 => wpAny_bind (wpAny_entryPlaceOf fun pl sp => ?_))
  unfold EntryCells.newEntry newFields
  refine wpAny_bind (wpAny_newObj_type ?_ (sp.sizeOk5 _ _ _ _ _))
  generalize hob : ([head, Value.ref L, .none, rawInt L, .none] ++ (if pl.isEmpty then List.replicate 6 Value.none else pl)).toArray = tb
  have e1 : h1.get? e = some oe := (q1.2.1 e nf).trans oe'
  have s1 : base.StaysIn h1 := fun b o x => (q1.2.1 b fun m => by rw [(fl.mem m).1] at x; cases x).trans (sb b o x)
  have e2 := Heap.get?_push_of_some (h := h1) { cls := .type "traceback", dict := none, data := .fields tb } e1
  have ne : h1.objs.size ≠ e := Nat.ne_of_gt (Heap.lt_size e1)
  have d3 := Obj.data_mapFields od (·.setIfInBounds 1 (Value.ref h1.objs.size))
  have e3 := Heap.get?_update_self (Obj.mapFields (·.setIfInBounds 1 (Value.ref h1.objs.size))) e2 (Obj.isFreed_of_fields d3)
  have t3 := (Heap.get?_update_other (h1.push { cls := .type "traceback", dict := none, data := .fields tb }) (Obj.mapFields (·.setIfInBounds 1 (Value.ref h1.objs.size))) (Ne.symm ne)).trans (Heap.get?_push_size h1 rfl)
  have kp : ∀ b o, b ≠ e → h1.get? b = some o → ((h1.push { cls := .type "traceback", dict := none, data := .fields tb }).update e (Obj.mapFields (·.setIfInBounds 1 (Value.ref h1.objs.size)))).get? b = some o := fun b o ne' x => by
    rw [Heap.get?_update_other _ _ (Ne.symm ne')]
    exact Heap.get?_push_of_some _ x
  have nr : ∀ b o, s.heap.get? b = some o → (∀ vs, o.data ≠ .fields vs) → b ≠ e := fun b o x y z => by
    rw [z, oe'] at x
    cases x
    exact y vs od
  have f3 : tb[3]? = some (rawInt L) := by
    rw [← hob]
    first | (simp; done) | (rcases sp with rfl | ⟨_, _, _, _, _, _, _, rfl⟩ <;> simp)
  refine wpAny_setField e2 od z1 (k _ ⟨fun b o x => kp b o (fun z => by rw [z, nb] at x; cases x) (s1 b o x), nb, fl.of_keeps fun b o x y => ?_, ⟨_, _, h1.objs.size, _, _, e3, ⟨Obj.cls_mapFields _ _, dict_map _ _⟩, d3, by simp [z1], s1.fresh, ne, t3, rfl, f3⟩⟩ fun b o x y => ?_)
  · obtain ⟨sl, z⟩ := q1.2.2 b o x
    exact ⟨_, kp b _ (nr b o x y) z, rfl⟩
  · obtain ⟨sl, z⟩ := q1.2.2 b o x
    exact ⟨sl, kp b _ (nr b o x y) z⟩
theorem noteFirstD {base : Heap} {env : Env} {outer : List Env} {L e : Addr} {oe : Obj} {vs : Array Value} {Q : Unit → Shared → Prop}
    (fr : A.frames = some (env :: outer)) (fl : s.heap.FunFrames base (env :: outer)) (ef : env.frame = some L) (oe' : s.heap.get? e = some oe) (sb : base.StaysIn s.heap) (nb : base.get? e = none) (od : oe.data = .fields vs) (v1 : vs[1]? = some .none)
    (k : ∀ h', FlyAt base (env :: outer) e oe.cls oe.dict (rawInt L) h' → s.heap.UpToSlots h' → Q () { s with heap := h' }) : wpAny M A (noteFrame (.ref e) env) Q E s := by
  unfold noteFrame
  simp only [ef]
  refine wpAny_bind (wpAny_field oe' od v1 ?_)
  rw [if_neg (by decide)]
  exact entryD fr fl ef oe' sb nb od (Array.getElem?_eq_some_iff.mp v1).1 k
theorem noteNextD {base : Heap} {env : Env} {outer : List Env} {L e : Addr} {cls : Value} {dx : Option Addr} {Q : Unit → Shared → Prop}
    (fr : A.frames = some (env :: outer)) (ef : env.frame = some L) (x : FlyAt base (env :: outer) e cls dx .none s.heap)
    (k : ∀ h', FlyAt base (env :: outer) e cls dx (rawInt L) h' → s.heap.UpToSlots h' → Q () { s with heap := h' }) : wpAny M A (noteFrame (.ref e) env) Q E s := by
  obtain ⟨sb, nb, fl, oe, vs, T, oT, ts, oe', ⟨rfl, rfl⟩, od, v1, nT, ne, hT, dT, t3⟩ := x
  unfold noteFrame
  simp only [ef]
  refine wpAny_bind (wpAny_field oe' od v1 ?_)
  rw [if_pos (show (Value.ref T != Value.none) = true by simp)]
  refine wpAny_bind (wpAny_field hT dT t3 ?_)
  rw [if_neg (show ¬ ((Value.none == rawInt L) = true) by simp [rawInt])]
  refine wpAny_bind (wpAny_setField hT dT (Array.getElem?_eq_some_iff.mp t3).1 ?_)
  have ot : ∀ b, b ≠ T → (s.heap.update T (Obj.mapFields (·.setIfInBounds 3 Value.none))).get? b = s.heap.get? b := fun b z => Heap.get?_update_other _ _ (Ne.symm z)
  have nr : ∀ b o, s.heap.get? b = some o → (∀ vs, o.data ≠ .fields vs) → b ≠ T := fun b o x y z => by
    rw [z, hT] at x
    cases x
    exact y ts dT
  exact entryD fr (fl.of_keeps fun b o x y => ⟨o, (ot b (nr b o x y)).trans x, rfl⟩) ef ((ot e (Ne.symm ne)).trans oe') (fun b o x => (ot b fun z => by rw [z, nT] at x; cases x).trans (sb b o x)) nb od (Array.getElem?_eq_some_iff.mp v1).1
    fun h' a b => k h' a fun c o x y => b c o ((ot c (nr c o x y)).trans x) y
theorem landD {base : Heap} {l : List Env} {e : Addr} {cls fl : Value} {dx : Option Addr} {Q : Unit → Shared → Prop} (x : FlyAt base l e cls dx fl s.heap)
    (k : ∀ h', FlyAt base l e cls dx .none h' → s.heap.UpToSlots h' → Q () { s with heap := h' }) : wpAny M A (setFlight (.ref e) none) Q E s := by
  obtain ⟨sb, nb, frm, oe, vs, T, oT, ts, oe', hc, od, v1, nT, ne, hT, dT, t3⟩ := x
  have z3 : 3 < ts.size := (Array.getElem?_eq_some_iff.mp t3).1
  have ot : ∀ b, b ≠ T → (s.heap.update T (Obj.mapFields (·.setIfInBounds 3 ((none : Option Addr).elim Value.none fun f => rawInt f)))).get? b = s.heap.get? b := fun b z => Heap.get?_update_other _ _ (Ne.symm z)
  have nr : ∀ b o, s.heap.get? b = some o → (∀ vs, o.data ≠ .fields vs) → b ≠ T := fun b o x y z => by
    rw [z, hT] at x
    cases x
    exact y ts dT
  unfold setFlight
  refine wpAny_bind (wpAny_field oe' od v1 ?_)
  rw [if_pos (show (Value.ref T != Value.none) = true by simp)]
  exact wpAny_setField hT dT z3 (k _ ⟨fun b o x => (ot b fun z => by rw [z, nT] at x; cases x).trans (sb b o x), nb, frm.of_keeps fun b o x y => ⟨o, (ot b (nr b o x y)).trans x, rfl⟩,
    ⟨oe, vs, T, _, _, (ot e (Ne.symm ne)).trans oe', hc, od, v1, nT, ne, Heap.get?_update_self _ hT (Obj.isFreed_of_fields (Obj.data_mapFields dT _)), Obj.data_mapFields dT _, by simp [z3]⟩⟩ fun b o x y => ⟨o.slots, (ot b (nr b o x y)).trans x⟩)
theorem leaveFirstD {base : Heap} {env : Env} {outer : List Env} {L e : Addr} {oe : Obj} {vs : Array Value} {Q : Unit → Shared → Prop}
    (fr : A.frames = some (env :: outer)) (fl : s.heap.FunFrames base (env :: outer)) (ef : env.frame = some L) (oe' : s.heap.get? e = some oe) (sb : base.StaysIn s.heap) (nb : base.get? e = none) (od : oe.data = .fields vs) (v1 : vs[1]? = some .none)
    (k : ∀ h', FlyAt base outer e oe.cls oe.dict .none h' → s.heap.UpToSlots h' → Q () { s with heap := h' }) : wpAny M A (leaving env (.ref e)) Q E s := by
  unfold leaving
  refine wpAny_bind (noteFirstD fr fl ef oe' sb nb od v1 fun h1 x1 u1 => ?_)
  refine landD (s := { s with heap := h1 }) x1 fun h2 x2 u2 => ?_
  obtain ⟨a, b, ⟨_, _, c⟩, d⟩ := x2
  exact k h2 ⟨a, b, c, d⟩ (u1.trans u2)
end
end L2

namespace L2
open PySem PySem.Spec PyProof.Rows PySem.W PySem.Calls Builtin Builtin.ObjectAttr
def ExcD (C e dx : Addr) (h : Heap) : Prop := ∃ o, h.get? e = some o ∧ o.cls = .ref C ∧ o.dict = some dx ∧ notCls o = true
theorem ExcD.exc {C e dx : Addr} {h : Heap} (x : ExcD C e dx h) : ExcAt C e h := let ⟨o, a, b, _, c⟩ := x; ⟨o, a, b, c⟩
structure ExcFld (K : Frag) (C : Addr) (f : Str) : Prop where
  cls : ExcCls K C
  no : findIn K (.ref C) f = some none
  hd : (clsIn K C).map (·.hasDict) = some true
section
variable {prog : Program} {w : World} {A : Around} {E : Value → Shared → Prop} {s : Shared} {K : Frag} {e C dx : Addr} {f : Str}
theorem own_find {M : Model} {h : Heap} {mA : Str → Option Value} {v : Value} (X : K.In h) (T : ExcFld K C f) (I : ExcD C e dx h) (N : h.Ns dx mA) (hv : mA f = some v) : Looks M h (Builtin.ObjectAttr.find (.ref e) (.ref C) f) (.value v) := by
  obtain ⟨cd, hc⟩ : ∃ cd, clsIn K C = some cd := by
    cases q : clsIn K C with
    | none => have := T.hd; rw [q] at this; cases this
    | some cd => exact ⟨cd, rfl⟩
  have hd : cd.hasDict = true := by
    have := T.hd
    rw [hc] at this
    exact Option.some.inj this
  obtain ⟨o, he, ho, hdx, hn⟩ := I
  intro A Q E s k q
  have lc := looks_clsIn (M := M) X hc
  unfold Builtin.ObjectAttr.find
  refine wpAny_bind (looks_findIn (M := M) X T.no A _ E s k ?_)
  unfold getOf dataDescriptor? ownThenClass inOwnDict ObjectAttr.ownDict
  refine wpAny_bind (wpAny_pure (wpAny_bind (wpAny_pure ?_)))
  refine wpAny_bind (wpAny_bind (wpAny_bind ?_))
  unfold loadHead
  refine wpAny_loadPart (k _ _ he) ?_
  have key : wpAny M A (instanceDict e false) (fun d s' => d = some dx ∧ s' = s) E s := by
    unfold instanceDict
    refine wpAny_bind (wpAny_loadPart (k _ _ he) ?_)
    rw [ho]
    refine wpAny_bind (lc A _ E s k ?_)
    simp only [hd, hdx, Bool.not_true, Bool.false_eq_true, if_false]
    exact wpAny_pure ⟨rfl, rfl⟩
  have key2 : wpAny M A (instanceDict e false) (fun d s' => wpAny M A (inDict f d) (fun r s'' => wpAny M A (match r with | some v => do rule "getattr.instance-dict"; pure (Found.value v) | none => do copiedAttributeGuard f (.ref e); byTheClass none none) Q E s'') E s') E s := by
    refine wpAny_mono key (fun d s' z => ?_) fun _ _ z => z
    obtain ⟨rfl, rfl⟩ := z
    unfold inDict
    refine wpAny_nsGet (let ⟨o', es, ep, a, b⟩ := N; ⟨o', es, ep, k _ _ a, b⟩) ?_
    rw [hv]
    exact wpAny_bind (wpAny_rule (wpAny_pure q))
  unfold notCls at hn
  split at hn
  · cases hn
  · rename_i hnc
    split
    · rename_i c hc'
      exact absurd hc' (hnc c)
    · exact key2
theorem own_entry {tk : Tok} {Q : PySem.Fin → Shared → Prop} {mA : Str → Option Value} {v : Value} (X : K.In s.heap) (T : ExcFld K C f) (I : ExcD C e dx s.heap) (N : s.heap.Ns dx mA) (hv : mA f = some v) (h : Q (.done (.ret v)) s) :
    wpAny (model prog w) A (Builtin.«object.__getattribute__» ⟨[.ref e, .str f tk], []⟩) Q E s := by
  obtain ⟨hp, gs, dr, t, os⟩ := s
  have l0 := I.exc.type (M := model prog w)
  have l1 := own_find (M := model prog w) X T I N hv
  unfold Builtin.«object.__getattribute__»
  repeat (first | with_reducible refine wpAny_call ?_ | lk)
  exact h
theorem own_field {Q : Value → Shared → Prop} {mA : Str → Option Value} {v : Value} (X : K.In s.heap) (T : ExcFld K C f) (I : ExcD C e dx s.heap) (N : s.heap.Ns dx mA) (hv : mA f = some v) (hh : handedOut v = pure v)
    (h : Q v { s with toks := s.toks + 1 }) : wpAny (model prog w) A (getAttr (.ref e) f true) Q E s := by
  obtain ⟨hp, gs, dr, t, os⟩ := s
  have l0 := I.exc.type (M := model prog w)
  have l1 := looks_findIn (M := model prog w) X T.cls.ga
  have l2 := looks_findIn (M := model prog w) X T.cls.gt
  have l3 := looks_mroIn (M := model prog w) X T.cls.be
  unfold getAttr getAttrBy
  refine wpAny_bind (wpAny_mkText (wpAny_holding (wpAny_bind (l0.at (wpAny_bind (l1.at ?_))))))
  dsimp only
  have ne : (Value.builtin "BaseException.__getattribute__" == Value.builtin "object.__getattribute__") = false := by decide +kernel
  rw [if_neg (by rw [ne, Bool.and_false]; exact Bool.false_ne_true)]
  unfold getAttrByItsOwn hookBefore
  repeat (first | with_reducible refine wpAny_call ?_ | with_reducible refine wpAny_attempt ?_ | lk)
  have hk : builtinKind "BaseException.__getattribute__" = some .slot := by decide +kernel
  have hsplit : splitId "BaseException.__getattribute__" = some ("BaseException", "__getattribute__") := by decide +kernel
  refine codeAny_call_builtin (by decide +kernel) F.entry_bexc_ga ?_
  have ha := F.args_bexc_ga (.ref e) (.str f t)
  show wpAny _ _ (checkBuiltinCall "BaseException.__getattribute__" ⟨[.ref e, .str f t], []⟩) _ _ _
  simp only [checkBuiltinCall, hk, hsplit]
  unfold isInstance
  refine wpAny_bind (wpAny_bind (l0.at (l3.at ?_)))
  simp only [Bool.not_true, Bool.false_eq_true, if_false]
  refine wpAny_of_eq (show _ = pure () from ha) ?_
  refine wpAny_mono (own_entry (E := fun _ _ => False) (Q := fun fin s' => fin = .done (.ret v) ∧ s' = ⟨hp, gs, dr, t + 1, os⟩) X T I N hv ⟨rfl, rfl⟩) (fun fin s' z => ?_) fun _ _ z => z.elim
  obtain ⟨rfl, rfl⟩ := z
  exact wpAny_of_eq hh h
end
end L2

namespace L2
open PySem PySem.Spec PyProof.Rows PySem.W PySem.Calls Builtin Builtin.ObjectAttr
def onlyVE : List Value → Bool
  | .ref _ :: r => onlyVE r
  | l => l == bmVE
theorem refuse_VE (self : Value) : ∀ {l : List Value}, onlyVE l = true → refuseLoop self "__setattr__" l = pure ()
  | .ref c :: r, e => by rw [refuseLoop_ref]; exact refuse_VE self e
  | [], e => by cases e
  | .type n :: r, e => by
    have : (Value.type n :: r) = bmVE := beq_iff_eq.mp e
    rw [this]
    exact PySem.F.store_ValueError.passes self
  | .none :: r, e => by have : (Value.none :: r) = bmVE := beq_iff_eq.mp e; cases this
  | .bool _ :: r, e => by have : (_ :: r) = bmVE := beq_iff_eq.mp e; cases this
  | .int _ _ :: r, e => by have : (_ :: r) = bmVE := beq_iff_eq.mp e; cases this
  | .str _ _ :: r, e => by have : (_ :: r) = bmVE := beq_iff_eq.mp e; cases this
  | .bytes _ _ :: r, e => by have : (_ :: r) = bmVE := beq_iff_eq.mp e; cases this
  | .float _ _ :: r, e => by have : (_ :: r) = bmVE := beq_iff_eq.mp e; cases this
  | .ellipsis :: r, e => by have : (_ :: r) = bmVE := beq_iff_eq.mp e; cases this
  | .notImplemented :: r, e => by have : (_ :: r) = bmVE := beq_iff_eq.mp e; cases this
  | .builtin _ :: r, e => by have : (_ :: r) = bmVE := beq_iff_eq.mp e; cases this
structure ExcSet (K : Frag) (C : Addr) (f : Str) : Prop where
  fld : ExcFld K C f
  sa : findIn K (.ref C) "__setattr__" = some (some (.builtin "object.__setattr__"))
  over : (clsIn K C).any (fun cd => onlyVE cd.mro) = true
section
variable {prog : Program} {w : World} {A : Around} {E : Value → Shared → Prop} {s : Shared} {K : Frag} {e C : Addr} {f : Str} {R : Result → Shared → Prop}
theorem exc_looks {M : Model} {h : Heap} {o : Obj} (he : h.get? e = some o) (hc : o.cls = .ref C) : Looks M h (typeOf (.ref e)) (.ref C) := hc ▸ (Looks.ld he).andThen .now
theorem osaD {vs : Array Value} {sl : Array (Option Value)} {tk : Tok} {v : Value} (X : K.In s.heap) (T : ExcSet K C f) (he : s.heap.get? e = some ⟨.ref C, none, .fields vs, sl⟩)
    (h : ∀ h', h'.get? e = some ⟨.ref C, some s.heap.objs.size, .fields vs, sl⟩ → h'.Ns1 s.heap.objs.size (fun y => if y = f then some v else none) → (∀ b o, b ≠ e → s.heap.get? b = some o → h'.get? b = some o) → R (.ok (.ret .none)) { s with heap := h', toks := s.toks + 1 }) :
    codeAny (model prog w) A (.call (.builtin "object.__setattr__") ⟨[.ref e, .str f tk, v], []⟩) R s := by
  have SF := PySem.F.store_object
  obtain ⟨cd, hc, ho⟩ := any_some T.over
  have hd : cd.hasDict = true := by
    have := T.fld.hd
    rw [hc] at this
    exact Option.some.inj this
  have l0 : Looks (model prog w) s.heap (typeOf (.ref e)) (.ref C) := exc_looks he rfl
  have sub : Looks (model prog w) s.heap (isInstance (.ref e) (.type "object")) true := l0.andThen (looks_mroIn X T.fld.cls.ob)
  refine codeAny_call_builtin SF.slot.plain SF.entry (@check_slot (model prog w) _ _ s "object.__setattr__" "object" "__setattr__" (.ref e) [.str f tk, v] [] _ SF.kind SF.split sub (SF.args (.ref e) (.str f tk) v) ?_)
  have hm : Looks (model prog w) s.heap (mroOf (.ref C)) cd.mro := (looks_clsIn X hc).andThen .now
  rw [osa_eq, refuse_eq]
  refine wpAny_bind (wpAny_bind (l0.here (wpAny_bind (hm.here ?_))))
  rw [refuse_VE _ ho]
  refine wpAny_pure (wpAny_bind (l0.here (wpAny_bind ((looks_findIn X T.fld.no).here (wpAny_bind (wpAny_pure ?_))))))
  have ns : e ≠ s.heap.objs.size := Nat.ne_of_lt (Heap.lt_size he)
  have h1 : (s.heap.push { cls := .type "dict", data := .dict #[] }).get? e = some ⟨.ref C, none, .fields vs, sl⟩ := Heap.get?_push_of_some _ he
  show wpAny _ _ (storeInOwnDict (.ref e) (.ref C) (.str f tk) f v _) _ _ _
  unfold storeInOwnDict ownDictForStores instanceDict
  refine wpAny_bind (wpAny_pure (wpAny_bind (wpAny_bind (wpAny_loadPart he (wpAny_bind ((looks_clsIn X hc).here ?_))))))
  simp only [hd, Bool.not_true, Bool.false_eq_true, if_false, typeHasDict, Bool.or_self]
  refine wpAny_bind (wpAny_alloc' ?_)
  refine wpAny_bind (wpAny_update' h1 ?_)
  have gd : ((s.heap.push { cls := .type "dict", data := .dict #[] }).update e fun o => { cls := o.cls, dict := some s.heap.objs.size, data := o.data, slots := o.slots }).get? s.heap.objs.size = some { cls := .type "dict", data := .dict #[] } :=
    (Heap.get?_update_ne _ _ _ _ (Ne.symm ns)).trans (Heap.get?_push_at rfl rfl)
  have nd : ((s.heap.push { cls := .type "dict", data := .dict #[] }).update e fun o => { cls := o.cls, dict := some s.heap.objs.size, data := o.data, slots := o.slots }).Ns s.heap.objs.size (fun _ => none) :=
    ⟨_, #[], _, gd, rfl, fun x hx => absurd hx (by simp), fun _ => rfl⟩
  refine wpAny_pure ?_
  show wpAny _ _ (storeInDict s.heap.objs.size (.str f tk) f v) _ _ _
  unfold storeInDict newKeyGuard
  refine wpAny_bind (wpAny_pure (wpAny_bind (wpAny_nsSet1 (Heap.Ns1.of_empty nd) fun h' hn' hs => ?_)))
  obtain ⟨oD, esD, epD, hoD, hdD, hcD⟩ := hn'.count (Within.cons f v Within.nil)
  refine wpAny_bind (wpAny_lookBehind hoD (by rw [hdD]; exact pastItsLine_dict (Nat.le_trans hcD (by rw [List.length_cons, List.length_nil, sizeLine_eq]; omega))) ?_)
  refine wpAny_pure (h h' ((hs.2 e ns).trans (Heap.get?_update_self _ h1 rfl)) hn' fun b o nb hb => ?_)
  exact (hs.2 b (Nat.ne_of_lt (Heap.lt_size hb))).trans ((Heap.get?_update_ne _ _ _ _ nb).trans (Heap.get?_push_of_some _ hb))
theorem setD {vs : Array Value} {sl : Array (Option Value)} {v : Value} {Q : Unit → Shared → Prop} (X : K.In s.heap) (T : ExcSet K C f) (he : s.heap.get? e = some ⟨.ref C, none, .fields vs, sl⟩)
    (h : ∀ h', h'.get? e = some ⟨.ref C, some s.heap.objs.size, .fields vs, sl⟩ → h'.Ns1 s.heap.objs.size (fun y => if y = f then some v else none) → (∀ b o, b ≠ e → s.heap.get? b = some o → h'.get? b = some o) → Q () { s with heap := h', toks := s.toks + 1 + 1 }) :
    wpAny (model prog w) A (setAttr (.ref e) f v) Q E s := by
  have l0 : Looks (model prog w) s.heap (typeOf (.ref e)) (.ref C) := exc_looks he rfl
  refine wpAny_bind (wpAny_mkText (wpAny_bind (wpAny_bind (wpAny_bind (l0 _ _ _ _ (fun _ _ e => e) (looks_findIn X T.sa _ _ _ _ (fun _ _ e => e) (wpAny_holding ?_)))))))
  rw [PySem.F.store_object.slot.bind]
  refine wpAny_bind (wpAny_pure (wpAny_bind (wpAny_call ?_)))
  refine osaD (s := { s with toks := s.toks + 1 }) X T he fun h' a b c => ?_
  exact wpAny_pure (wpAny_pure (h h' a b c))
end
end L2

namespace L2
open PySem PySem.Spec PyProof.Rows PySem.W PySem.Calls
def excInB (K : Frag) (C fI : Addr) : Bool := match K.lookup C with
  | some ⟨.type "type", _, .cls cd, sl⟩ => (match cd.mro, sl.toList with
    | .ref C' :: bm, [_, _, _, _, some (.builtin n), _] => C' == C && n == "ValueError.__new__" && !cd.hasDel && tailIn K bmVE bm && nsOkIn K cd.ns && nsIn K cd.ns "__init__" == some (some (.ref fI))
    | _, _ => false)
  | _ => false
theorem ns_some_of {K : Frag} {h : Heap} {N : Addr} {mg : Str → Option Value} {n : Str} {v : Value} (X : K.In h) (G : h.Ns N mg) (e : nsIn K N n = some (some v)) : mg n = some v := by
  obtain ⟨o, es, ep, ho, hd, _, hf⟩ := G
  unfold nsIn at e
  split at e
  · rename_i q
    have z := (X _ _ q).symm.trans ho
    cases z
    cases hd
    split at e
    · rename_i en fe
      have ev : en.val = v := Option.some.inj (Option.some.inj e)
      rw [← hf n, ← ev]
      show Option.map _ (Array.find? _ es) = _
      rw [← Array.find?_toList, fe]
      rfl
    · split at e <;> cases e
  · cases e
theorem exc_objI {K : Frag} {h : Heap} {C fI : Addr} (X : K.In h) (q : excInB K C fI = true) :
    ∃ bm N nm qn bs hdct sn sub ab col dd k0 k1 k2 k3 k5 mN, h.get? C = some (excClassObj nm qn C N bs bm hdct sn sub ab col dd k0 k1 k2 k3 k5 "ValueError.__new__") ∧ h.Ns N mN ∧ mN "__init__" = some (.ref fI) ∧ OwnTail h bmVE bm := by
  unfold excInB at q
  split at q
  · rename_i dd cd sl ho
    split at q
    · rename_i C' bm k0 k1 k2 k3 n k5 hm hs
      simp only [Bool.and_eq_true, beq_iff_eq, Bool.not_eq_true'] at q
      obtain ⟨⟨⟨⟨⟨c1, c2⟩, c3⟩, c4⟩, c5⟩, c6⟩ := q
      subst c1 c2
      obtain ⟨nm, bs, mro, ns, qn, hd, sn, sub, ab, col, del⟩ := cd
      dsimp only at hm c3 c5 c6
      subst hm c3
      obtain ⟨l⟩ := sl
      have hs' : l = [k0, k1, k2, k3, some (.builtin "ValueError.__new__"), k5] := hs
      subst hs'
      exact ⟨bm, ns, nm, qn, bs, hd, sn, sub, ab, col, dd, k0, k1, k2, k3, k5, _, X _ _ ho, .of_isNs (PySem.W.isNs_of_in X c5), ns_some_of X (.of_isNs (PySem.W.isNs_of_in X c5)) c6, PySem.W.tail_of_in X c4⟩
    · cases q
  · cases q
abbrev excNew (C t : Addr) : Obj := { cls := .ref C, data := .fields #[.ref t, .none, .none, .none, .bool false, .none] }
abbrev excLaid (C t dx : Addr) : Obj := { cls := .ref C, dict := some dx, data := .fields #[.ref t, .none, .none, .none, .bool false, .none] }
section
variable {prog : Program} {w : World} {A : Around} {E : Value → Shared → Prop} {h : Heap} {g : Array GenState} {d : Drawn} {t : Nat} {os : OsState}
variable {nm q : Str} {C N : Addr} {bs bm : List Value} {hdct : Bool} {sn : List Str} {sub : List Value} {ab : Bool} {col : Option Bool} {dd : Option Addr} {k0 k1 k2 k3 k5 : Option Value}
theorem type_initT (T : OwnTail h bmVE bm) {mN : Str → Option Value} {rest : List Value} {fI : Addr} {oI : Obj} {Q : Fin → Shared → Prop}
    (hC : h.get? C = some (excClassObj nm q C N bs bm hdct sn sub ab col dd k0 k1 k2 k3 k5 "ValueError.__new__")) (hn : h.Ns N mN) (hi : mN "__init__" = some (.ref fI)) (hfI : h.get? fI = some oI) (hfc : oI.cls = .type "function")
    (hq : wpAny (model prog w) A (call (.ref fI) (.ref (h.objs.size + 1) :: rest)) (fun r s' => r = .none ∧ Q (.done (.ret (.ref (h.objs.size + 1)))) s') E
      ⟨(h.push { cls := .type "tuple", data := .seq rest.toArray }).push (excNew C h.objs.size), g, d, t, os⟩) (hrest : rest.length ≤ sizeLine) :
    wpAny (model prog w) A (Builtin.«type.__call__» ⟨.ref C :: rest, []⟩) Q E ⟨h, g, d, t, os⟩ := by
  have BF := PySem.F.excBase_ValueError
  have hB : bmVE.contains (.type "ValueError") = true := by decide
  repeat (first | with_reducible refine wpAny_loadPart_at hC ?_ | with_reducible refine wpAny_madeBy_exc hC ?_ | wp_step)
  refine codeAny_call_builtin_code (Code.quiet_builtin _ BF.quiet) (wpAny_check_new_subU BF hB T hC (codeAny_exc_new_subU BF hB BF T hC ?_ hrest))
  show wpAny _ _ _ _ _ _
  have p1 : ∀ b o, h.get? b = some o → ((h.push { cls := .type "tuple", data := .seq rest.toArray }).push (excNew C h.objs.size)).get? b = some o := fun b o z => Heap.get?_push_of_some _ (Heap.get?_push_of_some _ z)
  have C1 := p1 _ _ hC
  have f1 := p1 _ _ hfI
  have n1 : ((h.push { cls := .type "tuple", data := .seq rest.toArray }).push (excNew C h.objs.size)).Ns N mN := let ⟨o, es, ep, z, r⟩ := hn; ⟨o, es, ep, p1 _ _ z, r⟩
  have g1 : ((h.push { cls := .type "tuple", data := .seq rest.toArray }).push (excNew C h.objs.size)).get? (h.objs.size + 1) = some (excNew C h.objs.size) := by heap_get
  have cc : (Value.ref C :: bm).contains (.ref C) = true := by simp
  have T1 := T.keeps p1
  unfold isInstance
  repeat (first | with_reducible refine wpAny_loadPart_at g1 ?_ | (with_reducible refine wpAny_isSubtype_exc C1 ?_; rw [cc]) | wp_step)
  show wpAny _ _ (typeLookup (.ref C) _) _ _ _
  refine wpAny_typeLookup_tail C1 n1 T1 BF.mroIs BF.init.lookup ?_
  rw [hi]
  refine wpAny_holding (wpAny_bind ?_)
  unfold bindSpecial
  refine wpAny_bind (wpAny_typeOf (T := "function") ⟨_, f1, hfc⟩ ?_)
  rw [if_pos (by decide)]
  refine wpAny_pure (wpAny_bind (wpAny_mono hq (fun r s' hr => ?_) fun _ _ x => x))
  obtain ⟨rfl, z⟩ := hr
  wp_walk
  exact z
theorem call_initT (T : OwnTail h bmVE bm) {mN : Str → Option Value} {rest : List Value} {fI : Addr} {oI : Obj} {Q : Value → Shared → Prop}
    (hC : h.get? C = some (excClassObj nm q C N bs bm hdct sn sub ab col dd k0 k1 k2 k3 k5 "ValueError.__new__")) (hn : h.Ns N mN) (hi : mN "__init__" = some (.ref fI)) (hfI : h.get? fI = some oI) (hfc : oI.cls = .type "function")
    (hq : wpAny (model prog w) (A.under (.builtin "type.__call__" ⟨.ref C :: rest, []⟩)) (call (.ref fI) (.ref (h.objs.size + 1) :: rest)) (fun r s' => r = .none ∧ Q (.ref (h.objs.size + 1)) s') E
      ⟨(h.push { cls := .type "tuple", data := .seq rest.toArray }).push (excNew C h.objs.size), g, d, t, os⟩) (hrest : rest.length ≤ sizeLine) :
    wpAny (model prog w) A (call (.ref C) rest) Q E ⟨h, g, d, t, os⟩ := by
  have f1 := tc_lookup
  have f2 := tc_bind (.ref C)
  have hT : (⟨h, g, d, t, os⟩ : Shared).TypeIs (.ref C) "type" := ⟨_, hC, rfl⟩
  refine wpAny_call (codeAny_of_tree ?_)
  show wpAny _ _ (callAny (.ref C) _) _ _ _
  repeat (any_goals (first | assumption | with_reducible refine wpAny_loadPart_at hC ?_ | wp_step))
  refine ⟨rfl, codeAny_call_builtin_at (Code.quiet_builtin _ (by decide +kernel)) entry_typeCall (wpAny_check_type_call_sub hC (type_initT T hC hn hi hfI hfc ?_ hrest))⟩
  exact hq
theorem base_init (T : OwnTail h bmVE bm) {e a : Addr} {x : Value} {Q : Value → Shared → Prop} (hC : h.get? C = some (excClassObj nm q C N bs bm hdct sn sub ab col dd k0 k1 k2 k3 k5 "ValueError.__new__")) (he : h.get? e = some (excNew C a))
    (hq : ∀ h', h'.get? e = some (excNew C h.objs.size) → (∀ b o, b ≠ e → h.get? b = some o → h'.get? b = some o) → Q .none ⟨h', g, d, t, os⟩) :
    wpAny (model prog w) A (call (.builtin "ValueError.__init__") [.ref e, x]) Q E ⟨h, g, d, t, os⟩ := by
  have BF := PySem.F.excBase_ValueError
  refine wpAny_call (codeAny_call_builtin BF.init.plain BF.initEntry (wpAny_check_init_subU BF T hC he rfl ?_))
  wp_walk
  refine hq _ ?_ fun b o nb hb => ?_
  · rw [Heap.get?_update_self _ (Heap.get?_push_of_some _ he) rfl]
    rfl
  · rw [Heap.get?_update_other _ _ (Ne.symm nb)]
    exact Heap.get?_push_of_some _ hb
end
end L2

namespace L2
open PySem PySem.Spec PyProof.Rows PySem.W PySem.Calls
def ExcN (C e : Addr) (h : Heap) : Prop := ∃ a, h.get? e = some (excNew C a)
def ExcL (C e dx : Addr) (h : Heap) : Prop := ∃ a, h.get? e = some (excLaid C a dx)
theorem okN {P : Program} {w : World} {H : Hp} {h : Heap} {C e a : Addr} (he : h.get? e = some (excNew C a)) : ObjOk P w H h e (.ext (ExcN C e)) := ⟨⟨a, he⟩, ⟨_, he⟩, fun _ _ ⟨b, z⟩ k => ⟨b, k _ z⟩⟩
theorem okL {P : Program} {w : World} {H : Hp} {h : Heap} {C e dx a : Addr} (he : h.get? e = some (excLaid C a dx)) : ObjOk P w H h e (.ext (ExcL C e dx)) := ⟨⟨a, he⟩, ⟨_, he⟩, fun _ _ ⟨b, z⟩ k => ⟨b, k _ z⟩⟩
def tBI (K : Frag) (ta : TA) : TE := fun σ H Q => ta σ H fun vs H1 => ∃ e C fI x, vs = [.ref e, x] ∧ H1 e = some (.ext (ExcN C e)) ∧ excInB K C fI = true ∧ Q .non (upd H1 e (.ext (ExcN C e)))
theorem callWith_B {M : Model} {A : Around} {K : Frag} {pos : Pos} {env : Env} {n : String} {first : List Value} {e : Expr} {rest : List Expr} {Q : Value → Shared → Prop} {E : Value → Shared → Prop} {s : Shared}
    (h : wpAny M A (spliced (backTo pos (starEach (e :: rest) env))) (fun vs s₁ => K.In s₁.heap ∧ wpAny M A (call (.builtin n) (first ++ vs)) Q E s₁) E s)
    (he : starEach (e :: rest) env = (false, eval e env) :: starEach rest env := by rfl) (hplain : (backTo pos (starEach rest env)).any (·.1) = false := by rfl) :
    wpAny M A (callWith pos (.builtin n) first (backTo pos (starEach (e :: rest) env)) []) Q E s := by
  rw [he] at h ⊢
  exact PySem.W.callWith_of (by show ((false || (backTo pos (starEach rest env)).any (·.1)) || false) = false; rw [hplain]; rfl) (fun h (_ : K.In h) => ⟨.machine, .inr (.inl rfl), .now⟩) (evalArgs_plain h)
section
variable {X : Cx}
theorem pe_baseInit {cn : Str} {B : Addr} {np ap pos : Pos} {a : Expr} {es : List Expr} {t : TA} {pl : Sem Bool} (hg : Gl X cn) (hm : X.mg cn = some (.ref B)) (h1 : specialIn X.K (.ref B) "__getattribute__" = some (some (.builtin "type.__getattribute__")))
    (h2 : readsIn X.K B (.type "type") = true) (h3 : findCls X.K (.ref B) (.type "type") "__init__" = some (.val (.builtin "ValueError.__init__"))) (ha : PA X (a :: es) t)
    (hdb : (cn == ("__debug__" : Str)) = false := by decide)
    (hst : starEach (a :: es) X.env = (false, eval a X.env) :: starEach es X.env := by rfl) (hpl : (backTo pos (starEach es X.env)).any (·.1) = false := by rfl)
    (ht : eval (.Call (.Attribute (.Name cn np) "__init__" ap) (a :: es) [] pos) X.env = (do
      let ov ← eval (.Name cn np) X.env
      standAt ap.atName
      let (f, first) ← holding [ov] (getMethod ov "__init__" pl)
      callWith pos f first (backTo pos (starEach (a :: es) X.env)) (backToKw pos (keywordEach [] X.env))) := by rfl) :
    PE X (.Call (.Attribute (.Name cn np) "__init__" ap) (a :: es) [] pos) (tBI X.K t) := by
  intro pins s σ H Q I h
  refine PySem.W.methodCall_KW (pl := pl) (ld_glob I hg hm ?_ hdb) ht
  refine method_cls I.kIn h1 (cls_value I.kIn h2 h3 (by decide +kernel) ?_)
  have I' := I.tok (s.toks + 1)
  refine callWith_B (K := X.K) (first := []) (thn (ha pos pins _ σ H _ I' h) fun us s1 ⟨vs, H1, I1, r, q⟩ => ⟨I1.kIn, ?_⟩) hst hpl
  obtain ⟨e, C, fI, x, rfl, hH, hI, q⟩ := q
  obtain ⟨u1, u2, rfl, r1, r2⟩ := r.two
  obtain rfl : u1 = Value.ref e := r1
  obtain ⟨bm, Nn, nm, qn, bs, hdct, sn, sub, ab, col, dd, k0, k1, k2, k3, k5, mN, hC, hNs, hni, TL⟩ := exc_objI I1.kIn hI
  obtain ⟨⟨a0, he⟩, _, _⟩ := (show ObjOk X.prog X.w H1 s1.heap e (.ext (ExcN C e)) from I1.hok e _ hH)
  obtain ⟨hp, gs, dr, tk, os⟩ := s1
  show wpAny _ _ (call (.builtin "ValueError.__init__") [.ref e, u2]) _ _ _
  refine base_init TL hC he fun h' he' kp => ?_
  exact ⟨.non, _, I1.write (t' := tk) (x := e) (e := e) (by rw [hH]; exact True.intro) (.inl rfl) (fun b u nb z => kp b u nb z) ⟨_, he'⟩ (okN he'), rfl, q⟩
def sXF (K : Frag) (ta tv : TE) (f : Str) : TS := fun D σ H => tv σ H fun y H1 => ta σ H1 fun x H2 => ∃ e C, x = .ref e ∧ H2 e = some (.ext (ExcN C e)) ∧ ExcSet K C f ∧ ∀ dx, H2 dx = none → D.nx σ (upd (upd H2 dx (.xd [(f, y)])) e (.ext (ExcL C e dx)))
theorem ps_excfld {o value : Expr} {f : Str} {pos pos' : Pos} {ta tv : TE} (ha : PE X o ta) (hv : PE X value tv) (hs : swapsWith value (some (.Attribute o f pos')) pos.line X.env = pure false) : PS X (.Assign [.Attribute o f pos'] value pos) (sXF X.K ta tv f) := by
  intro pins s σ H D I h
  refine plainObj_wpAny_Assign_Attribute (thn (hv pins s σ H _ I h) fun u s1 ⟨y, H1, I1, ry, q⟩ => thn (ha pins s1 σ H1 _ I1 q) fun ov s2 ⟨x, H2, I2, rx, e, C, ex, hH, T, q2⟩ => ?_) hs
  subst ex
  obtain rfl : ov = Value.ref e := rx
  obtain ⟨⟨a0, he⟩, _, _⟩ := (show ObjOk X.prog X.w H2 s2.heap e (.ext (ExcN C e)) from I2.hok e _ hH)
  refine setD I2.kIn T he fun h' he' ns kp => ?_
  obtain ⟨oD, es, ep, gD, dD⟩ := id ns
  have fr : H2 s2.heap.objs.size = none := I2.hok.fresh (Nat.le_refl _)
  have ne : e ≠ s2.heap.objs.size := Nat.ne_of_lt (Heap.lt_size he)
  have nfr : oD.isFreed = false := by
    have := (Heap.get?_some_iff.mp gD).2
    exact this
  have g1 : (s2.heap.push oD).get? s2.heap.objs.size = some oD := Heap.get?_push_size _ nfr
  have n1 : (s2.heap.push oD).Ns1 s2.heap.objs.size (fun y => if y = f then some u else none) := ⟨oD, es, ep, g1, dD⟩
  have J := I2.laid (a := s2.heap.objs.size) (o := .xd [(f, y)]) (h' := s2.heap.push oD) (t' := s2.toks) (fun b v z => Heap.get?_push_of_some _ z) (Nat.le_refl _) ⟨_, n1, fun g => by
    show RelO (List.lookup g [(f, y)]) (if g = f then some u else none)
    by_cases c : g = f
    · subst c
      rw [if_pos rfl, List.lookup_cons_self]
      exact ry
    · rw [if_neg c, List.lookup_cons]
      have : (g == f) = false := by simpa using c
      rw [this]
      exact True.intro⟩
  have hH' : (upd H2 s2.heap.objs.size (.xd [(f, y)])) e = some (.ext (ExcN C e)) := by rw [upd_ne ne]; exact hH
  have J2 := J.write (x := e) (e := e) (o := .ext (ExcL C e s2.heap.objs.size)) (h' := h') (t' := s2.toks + 1 + 1) (by rw [hH']; exact True.intro) (.inl rfl) (fun b v nb z => by
    by_cases c : b = s2.heap.objs.size
    · subst c
      have z' : (s2.heap.push oD).get? s2.heap.objs.size = some v := z
      rw [g1] at z'
      cases z'
      exact gD
    · have z' : (s2.heap.push oD).get? b = some v := z
      rw [Heap.get?_push_ne _ _ _ c] at z'
      exact kp b v nb z') ⟨_, he'⟩ (okL he')
  exact ⟨σ, _, J2, q2 _ fr⟩
end
end L2

namespace L2
open PySem PySem.Spec PyProof.Rows PySem.W PySem.Calls
structure FlyX (P : Program) (w : World) (outer : List Env) (H : Hp) (s : Shared) (cls : Value) (dx ea : Addr) (B : Heap) (H' : Hp) (s' : Shared) : Prop where
  os : s'.os = s.os
  bare : AllBare s'.gens
  un : Un (frs outer) [] H H' s.heap s'.heap
  hok : HOk P w H' s'.heap
  fly : FlyAt B outer ea cls (some dx) .none s'.heap
  frf : ∀ b ∈ frs outer, H' b = none
  cov : ∀ b o, s'.heap.get? b = some o → b ∉ frs outer → (H' b ≠ none ∨ ∃ o', s.heap.get? b = some o') → B.get? b = some o
  he : H' ea = none
  hs : s.heap.get? ea = none
def XD (P : Program) (w : World) : CXT := fun outer H s E e s' => ∃ (ea : Addr) (cls : Value) (dx : Addr) (B : Heap) (H' : Hp), e = .ref ea ∧ FlyX P w outer H s cls dx ea B H' s' ∧ E cls (some dx) H'
def without (H : Hp) (e : Addr) : Hp := fun b => if b = e then none else H b
theorem without_ne {H : Hp} {e b : Addr} (h : b ≠ e) : without H e b = H b := if_neg h
theorem without_at {H : Hp} {e : Addr} : without H e e = none := if_pos rfl
theorem without_some {H : Hp} {e b : Addr} {o : HO} (h : without H e b = some o) : b ≠ e ∧ H b = some o := by
  unfold without at h
  split at h
  · cases h
  · rename_i c; exact ⟨c, h⟩
section
variable {P : Program} {w : World} {K : PySem.W.Frag} {mg : Str → Option Value} {base : Heap} {N : List Str} {qual : Str} {scope : Scope} {f : Addr} {cd : Value} {A : Around} {outer : List Env} {s0 s1 : Shared} {H0 H1 : Hp} {E : XK}
  {pins : List (Addr × Obj)} {σ : St}
theorem raise_xeD {e C dx : Addr} (I : Inv (cxOf (XD P w) P w K mg base N qual scope f cd A outer s0 H0 E) pins σ H1 s1) (hH : H1 e = some (.ext (ExcL C e dx))) (h0 : s0.heap.get? e = none) (hE : E (.ref C) (some dx) (without H1 e)) :
    (cxOf (XD P w) P w K mg base N qual scope f cd A outer s0 H0 E).xe (.ref e) s1 := by
  have st : s1.heap.FunFrames base (envOfC qual scope s0.heap.objs.size f cd :: outer) := I.stack
  have fz : ∀ b ∈ frs (envOfC qual scope s0.heap.objs.size f cd :: outer), H1 b = none := I.stkFree
  have sub : ∀ b ∈ frs (envOfC qual scope s0.heap.objs.size f cd :: outer), b = (envOfC qual scope s0.heap.objs.size f cd).locals ∨ b ∈ frs outer := fun b hb => List.mem_cons.mp (I.stkSub b hb)
  have above : s0.heap.objs.size ≤ (envOfC qual scope s0.heap.objs.size f cd).locals := I.ok.above
  have old : ∀ b o, s0.heap.get? b = some o → b ∉ frs outer → b ∉ frs (envOfC qual scope s0.heap.objs.size f cd :: outer) := fun b o q nb z => by
    rcases sub b z with z | z
    · subst z
      exact absurd (Nat.lt_of_lt_of_le (Heap.lt_size q) above) (Nat.lt_irrefl _)
    · exact nb z
  obtain ⟨⟨a, he⟩, _, _⟩ := (show ObjOk P w H1 s1.heap e (.ext (ExcL C e dx)) from I.hok e _ hH)
  show wpAny (model P w) (A.deeper (envOfC qual scope s0.heap.objs.size f cd)) (leaving (envOfC qual scope s0.heap.objs.size f cd) (.ref e)) _ _ _
  refine leaveFirstD (base := PySem.W.hideAll s1.heap (e :: frs (envOfC qual scope s0.heap.objs.size f cd :: outer))) I.ok.frames (PySem.W.funFrames_hide st fun env' h' a ha => List.mem_cons_of_mem _ (List.mem_filterMap.mpr ⟨env', h', ha⟩)) rfl he (fun b o q => PySem.W.of_hideAll _ q) (PySem.W.hideAll_none _ (List.mem_cons_self ..)) rfl rfl fun h'' fl ups => ?_
  have kept : ∀ b o, s1.heap.get? b = some o → b ≠ e → b ∉ frs (envOfC qual scope s0.heap.objs.size f cd :: outer) → h''.get? b = some o := fun b o q ne nb => fl.stays b o (PySem.W.hideAll_get _ q fun z => by
    rcases List.mem_cons.mp z with z | z
    · exact ne z
    · exact nb z)
  have u : Un (frs outer) [] H0 H1 s0.heap s1.heap := I.base
  have u' : Un (frs outer) [] H0 (without H1 e) s0.heap s1.heap := ⟨u.keep, u.slot, fun b o q n hx => by
      by_cases c : b = e
      · subst c; exact without_at
      · rw [without_ne c]; exact u.free b o q n hx, u.there, fun b xs q => by
      have z := u.tups b xs q
      rw [without_ne fun c => by subst c; rw [hH] at z; cases z]
      exact z, fun b o v q => by
      have z := u.frzs b o v q
      rw [without_ne fun c => by subst c; rw [hH] at z; cases z]
      exact z, fun b ps q => by
      obtain ⟨m, z⟩ := u.tbls b ps q
      exact ⟨m, by rw [without_ne fun c => by subst c; rw [hH] at z; cases z]; exact z⟩⟩
  refine ⟨e, .ref C, dx, _, without H1 e, rfl, ⟨I.os, I.bare, u'.onward (fun b o q nb old' => ?_) (fun b o q hb old' => ?_), fun c v hc => ?_, fl, fun b hb => ?_, fun b o q nb hc => ?_, without_at, h0⟩, hE⟩
  · obtain ⟨o', q'⟩ := old'
    exact kept b o q (fun z => by subst z; rw [h0] at q'; cases q') (old b o' q' nb)
  · obtain ⟨_, o', ho', nf⟩ := st.mem (frs_tail hb)
    rw [q] at ho'; cases ho'
    exact ups b o q nf
  · obtain ⟨ne, hc'⟩ := without_some hc
    have no : ∀ b y, H1 b = some (.own y) → b ≠ e := fun b y z c => by subst c; rw [hH] at z; cases z
    refine (I.hok c v hc').stay (fun b o hb q => ?_) (fun b z => by rw [without_ne (no b _ z)]; exact z) fun b xs z => by
      rw [without_ne fun c => by subst c; rw [hH] at z; cases z]
      exact z
    rcases hb with rfl | hb
    · exact kept b o q ne fun z => by rw [fz b z] at hc'; cases hc'
    · exact kept b o q (no b _ hb) fun z => by rw [fz b z] at hb; cases hb
  · by_cases c : b = e
    · subst c; exact without_at
    · rw [without_ne c]; exact fz b (frs_tail hb)
  · have key : ∃ o1, s1.heap.get? b = some o1 ∧ b ≠ e ∧ b ∉ frs (envOfC qual scope s0.heap.objs.size f cd :: outer) := by
      rcases hc with hc | ⟨o', q'⟩
      · cases e1 : without H1 e b with
        | none => exact absurd e1 hc
        | some u1 =>
          obtain ⟨ne, e2⟩ := without_some e1
          obtain ⟨o1, q1⟩ := (I.hok b u1 e2).there
          exact ⟨o1, q1, ne, fun z => by rw [fz b z] at e2; cases e2⟩
      · obtain ⟨o1, q1⟩ := u.there b o' q' (by simp)
        exact ⟨o1, q1, (fun z => by subst z; rw [h0] at q'; cases q'), old b o' q' nb⟩
    obtain ⟨o1, q1, ne, n1⟩ := key
    have z := kept b o1 q1 ne n1
    have q2 : h''.get? b = some o := q
    rw [q2] at z; cases z
    exact PySem.W.hideAll_get _ q1 fun z => by
      rcases List.mem_cons.mp z with z | z
      · exact ne z
      · exact n1 z
theorem Fun.okD {x qual : Str} {st : Stmt} {f : Addr} {fd : FuncData} {N ps : List Str} {k : Nat} {sp : Sp} (F : Fun K x qual st f fd) (S : FnScope N ps (defScope st)) (len : ∀ vs H Q E, sp vs H Q E → vs.length = ps.length)
    (hbody : ∀ (cdv : Value) (A : Around) (outer : List Env) (s : Shared) (H : Hp) (vs : List V) (Q : VK) (E : XK), Room k (A.deeper (envOfC qual (defScope st) s.heap.objs.size f cdv)) → sp vs H Q E →
      ∃ t, PSs (cxOf (XD P w) P w K mg base N qual (defScope st) f cdv A outer s H E) (defBody st) t ∧ t { nx := fun _ H' => Q .non H', rt := Q } (start N vs) H) : FnOk P w K mg base (XD P w) (k + 1) f fd ps sp := by
  obtain ⟨oc, od, kV, doc, pm, an, cdv, ct, osl, rfl, lk, hcd⟩ := F.ex
  exact fn_of lk hcd S len fun A outer s H vs Q E hr hsp => hbody cdv A outer s H vs Q E hr hsp
end
structure MkX (K : Frag) (C fI : Addr) : Prop where
  ex : excInB K C fI = true
  fn : isFn K (.ref fI) = true
section
variable {X : Cx} {CX : CXT} {k : Nat} {fI C : Addr} {fd : FuncData} {ps : List Str} {sp : Sp} {E : XK}
theorem run_excmake {pins : List (Addr × Obj)} {σ : St} {H : Hp} {s : Shared} {us : List Value} {vs : List V} {QQ : Addr → Hp → Prop} (M : MkX X.K C fI) (F : FnOk X.prog X.w X.K X.mg X.base CX k fI fd ps sp) (hr : Room (k + 1) X.A) (hb : Binds X.K fd ps [])
    (hx : Passes CX X E) (I : Inv X pins σ H s) (r : Vals vs us) (hz : us.length ≤ sizeLine)
    (h : ∀ e, H e = none → sp (.ref e :: vs) (upd H e (.ext (ExcN C e))) (fun v H2 => v = .non ∧ QQ e H2) E) :
    wpAny (model X.prog X.w) X.A (call (.ref C) us) (fun v s' => ∃ e H', v = .ref e ∧ Inv X pins σ H' s' ∧ s.heap.get? e = none ∧ QQ e H') X.xe s := by
  obtain ⟨bm, Nn, nm, qn, bs, hdct, sn, sub, ab, col, dd, k0, k1, k2, k3, k5, mN, hC, hNs, hni, TL⟩ := exc_objI I.kIn M.ex
  have ty : typeIn X.K (.ref fI) = some (.type "function") := beq_iff_eq.mp M.fn
  obtain ⟨oI, lk, hfc⟩ : ∃ oI, X.K.lookup fI = some oI ∧ oI.cls = .type "function" := by
    have ty' : (X.K.lookup fI).map (·.cls) = some (.type "function") := ty
    cases q : X.K.lookup fI with
    | none => rw [q] at ty'; cases ty'
    | some oI => rw [q] at ty'; exact ⟨oI, rfl, Option.some.inj ty'⟩
  have hfI := I.kIn _ _ lk
  have hq := h (s.heap.objs.size + 1) (I.hok.fresh (Nat.le_succ _))
  have nn : s.heap.get? (s.heap.objs.size + 1) = none := Heap.get?_none_of_le (Nat.le_succ _)
  have g1 : ((s.heap.push { cls := .type "tuple", data := .seq us.toArray }).push (excNew C s.heap.objs.size)).get? (s.heap.objs.size + 1) = some (excNew C s.heap.objs.size) := by heap_get
  have I2 := I.laid (a := s.heap.objs.size + 1) (o := .ext (ExcN C (s.heap.objs.size + 1))) (h' := (s.heap.push { cls := .type "tuple", data := .seq us.toArray }).push (excNew C s.heap.objs.size)) (t' := s.toks)
    (fun b u q => Heap.get?_push_of_some _ (Heap.get?_push_of_some _ q)) (Nat.le_succ _) (okN g1)
  have r2 : Vals (V.ref (s.heap.objs.size + 1) :: vs) (Value.ref (s.heap.objs.size + 1) :: us) := .cons rfl r
  have hl : (Value.ref (s.heap.objs.size + 1) :: us).length = ps.length := by
    have e := r2.length
    rw [F.len _ _ _ _ hq] at e
    exact e.symm
  have hb' := hb { s with heap := (s.heap.push { cls := .type "tuple", data := .seq us.toArray }).push (excNew C s.heap.objs.size) } (Value.ref (s.heap.objs.size + 1) :: us) I2.kIn (by rw [List.append_nil]; exact hl)
  rw [List.append_nil] at hb'
  obtain ⟨hp, gs, dr, tk, os⟩ := s
  refine call_initT TL hC hNs hni hfI hfc ?_ hz
  refine wpAny_call (codeAny_mono (F.run _ X.stack _ _ ⟨Value.ref (hp.objs.size + 1) :: us, []⟩ (Value.ref (hp.objs.size + 1) :: us) _ _ E (hr.make C us []) (I2.env0.make C us []) hb' r2 hq) fun rr s' hq' => ?_)
  cases rr with
  | error e => exact hx pins σ _ _ e s' I2 hq'
  | ok fl =>
    cases fl with
    | ret u =>
      obtain ⟨v, H', I3, rv, ev, q3⟩ := I2.after hq'
      subst ev
      exact ⟨rv, _, H', rfl, I3, nn, q3⟩
    | next => exact False.elim hq'
    | brk => exact False.elim hq'
    | cont => exact False.elim hq'
end
end L2

namespace L2
open PySem PySem.Spec PyProof.Rows PySem.W PySem.Calls
section
variable {M : Model} {A : Around} {E : Value → Shared → Prop} {s : Shared} {env : Env}
variable {nm q : Str} {C N : Addr} {bs bm : List Value} {hdct : Bool} {sn : List Str} {sub : List Value} {ab : Bool} {col : Option Bool} {dd : Option Addr} {k0 k1 k2 k3 k5 : Option Value}
theorem raise_laid {x : Sem Value} {Q : Flow → Shared → Prop} (hB : bm.contains (.type "BaseException") = true) (hh : A.handled = none)
    (h : wpAny M A x (fun v s1 => ∃ e t dx, v = .ref e ∧ s1.heap.get? C = some (excClassObj nm q C N bs bm hdct sn sub ab col dd k0 k1 k2 k3 k5 "ValueError.__new__") ∧ s1.heap.get? e = some (excLaid C t dx) ∧ E (.ref e) s1) E s) :
    wpAny M A (raiseStmt env (some x) none) Q E s := by
  have cB : (Value.ref C :: bm).contains (.type "BaseException") = true := by rw [List.contains_cons, hB, Bool.or_true]
  unfold raiseStmt
  refine wpAny_bind (wpAny_mono h (fun v s1 z => ?_) fun _ _ y => y)
  obtain ⟨e, t, dx, rfl, hC, he, hE⟩ := z
  obtain ⟨hp, g, d, tk, os⟩ := s1
  repeat (first | with_reducible refine wpAny_loadPart_at he ?_ | with_reducible refine wpAny_loadPart_at hC ?_ | (with_reducible refine wpAny_isSubtype_exc hC ?_; rw [cB]) | wp_step)
  exact wpAny_raiseNew_none hh hE
end
section
variable {prog : Program} {w : World} {A : Around} {E : Value → Shared → Prop} {s : Shared} {env : Env}
variable {nm q : Str} {C N : Addr} {bs bm : List Value} {hdct : Bool} {sn : List Str} {sub : List Value} {ab : Bool} {col : Option Bool} {dd : Option Addr} {k0 k1 k2 k3 k5 : Option Value}
theorem Raise_laid {x : Str} {np cpos pos : Pos} {args : List Expr} {Q : Flow → Shared → Prop} (hB : bm.contains (.type "BaseException") = true) (hh : A.handled = none) (hp : (backTo cpos (starEach args env)).any (·.1) = false)
    (h : wpAny (model prog w) A (eval (.Name x np) env) (fun f s1 => f = .ref C ∧ wpAny (model prog w) A (evalArgs (.ref C) true (backTo cpos (starEach args env)) [])
      (fun a s2 => a.kw = [] ∧ s2.heap.get? C = some (excClassObj nm q C N bs bm hdct sn sub ab col dd k0 k1 k2 k3 k5 "ValueError.__new__") ∧
        wpAny (model prog w) A (call (.ref C) a.pos) (fun v s3 => ∃ e t dx, v = .ref e ∧ s3.heap.get? C = some (excClassObj nm q C N bs bm hdct sn sub ab col dd k0 k1 k2 k3 k5 "ValueError.__new__") ∧ s3.heap.get? e = some (excLaid C t dx) ∧ E (.ref e) s3) E s2) E s1) E s) :
    wpAny (model prog w) A (exec (.Raise (some (.Call (.Name x np) args [] cpos)) none pos) env) Q E s := by
  rw [arm_exec_Raise]
  first
    | refine wpAny_bind (wpAny_standAt (raise_laid (C := C) (nm := nm) (q := q) (N := N) (bs := bs) (bm := bm) (hdct := hdct) (sn := sn) (sub := sub) (ab := ab) (col := col) (dd := dd) (k0 := k0) (k1 := k1) (k2 := k2) (k3 := k3) (k5 := k5) hB hh (wpAny_bind (wpAny_mono (wpAny_Call_ofName (wpAny_mono h (fun f s1 z => ?_) fun _ _ y => y)) (fun v s3 z => wpAny_bind (wpAny_standAt (wpAny_pure z))) fun _ _ y => y))))
    | (simp only [evalOpt, Option.map]; refine wpAny_bind (wpAny_standAt (raise_laid (C := C) (nm := nm) (q := q) (N := N) (bs := bs) (bm := bm) (hdct := hdct) (sn := sn) (sub := sub) (ab := ab) (col := col) (dd := dd) (k0 := k0) (k1 := k1) (k2 := k2) (k3 := k3) (k5 := k5) hB hh (wpAny_bind (wpAny_mono (wpAny_Call_ofName (wpAny_mono h (fun f s1 z => ?_) fun _ _ y => y)) (fun v s3 z => wpAny_bind (wpAny_standAt (wpAny_pure z))) fun _ _ y => y)))))
    | (refine wpAny_bind (wpAny_standAt (raise_laid (C := C) (nm := nm) (q := q) (N := N) (bs := bs) (bm := bm) (hdct := hdct) (sn := sn) (sub := sub) (ab := ab) (col := col) (dd := dd) (k0 := k0) (k1 := k1) (k2 := k2) (k3 := k3) (k5 := k5) hB hh ?_)); refine wpAny_bind (wpAny_mono (wpAny_Call_ofName (wpAny_mono h (fun f s1 z => ?_) fun _ _ y => y)) (fun v s3 z => wpAny_bind (wpAny_standAt (wpAny_pure z))) fun _ _ y => y))
  obtain ⟨rfl, z⟩ := z
  unfold callWith
  refine wpAny_bind (wpAny_holding (wpAny_mono z (fun a s2 z2 => wpAny_bind (wpAny_standAt ?_)) fun _ _ y => y))
  obtain ⟨ap, ak⟩ := a
  obtain ⟨hk, hC, z3⟩ := z2
  obtain rfl : ak = [] := hk
  obtain ⟨hp', g, d, tk, os⟩ := s2
  simp only [hp]
  refine wpAny_bind (wpAny_keeperOf_exc hC ?_)
  refine wpAny_bind (wpAny_mono z3 (fun v s3 z4 => wpAny_bind (wpAny_holding (wpAny_point (wpAny_pure ?_)))) fun _ _ y => y)
  exact z4
end
def tRaiseD (C : Addr) (sp : Sp) (E : XK) (ta : TA) : TS := fun _ σ H => ta σ H fun vs H1 => vs.length ≤ sizeLine ∧ ∀ e, H1 e = none → sp (.ref e :: vs) (upd H1 e (.ext (ExcN C e))) (fun v H2 => v = .non ∧ ∃ dx, H2 e = some (.ext (ExcL C e dx)) ∧ E (.ref C) (some dx) (without H2 e)) E0
section
variable {P : Program} {w : World} {K : PySem.W.Frag} {mg : Str → Option Value} {base : Heap} {N : List Str} {qual : Str} {scope : Scope} {f : Addr} {cd : Value} {A : Around} {outer : List Env} {s0 : Shared} {H0 : Hp} {E : XK}
  {x : Str} {C fI : Addr} {np cpos pos : Pos} {e : Expr} {es : List Expr} {t : TA} {k : Nat} {fd : FuncData} {ps : List Str} {sp : Sp}
theorem ps_raiseD (M : MkX K C fI) (F : FnOk P w K mg base CX0 k fI fd ps sp) (hr : Room (k + 1) (cxOf (XD P w) P w K mg base N qual scope f cd A outer s0 H0 E).A) (hb : Binds K fd ps []) (hm : mg x = some (.ref C)) (hg : Gl (cxOf (XD P w) P w K mg base N qual scope f cd A outer s0 H0 E) x)
    (ha : PA (cxOf (XD P w) P w K mg base N qual scope f cd A outer s0 H0 E) (e :: es) t) (hdb : (x == ("__debug__" : Str)) = false := by decide)
    (he : starEach (e :: es) (cxOf (XD P w) P w K mg base N qual scope f cd A outer s0 H0 E).env = (false, eval e (cxOf (XD P w) P w K mg base N qual scope f cd A outer s0 H0 E).env) :: starEach es (cxOf (XD P w) P w K mg base N qual scope f cd A outer s0 H0 E).env := by rfl)
    (hpl : (backTo cpos (starEach es (cxOf (XD P w) P w K mg base N qual scope f cd A outer s0 H0 E).env)).any (·.1) = false := by rfl) :
    PS (cxOf (XD P w) P w K mg base N qual scope f cd A outer s0 H0 E) (.Raise (some (.Call (.Name x np) (e :: es) [] cpos)) none pos) (tRaiseD C sp E t) := by
  intro pins s σ H D I h
  obtain ⟨bm, Nn, nm, qn, bs, hdct, sn, sub, ab, col, dd, k0, k1, k2, k3, k5, mN, hC, hN, hni, TL⟩ := exc_objI I.mod.kin M.ex
  have hpl' : (backTo cpos (starEach (e :: es) (cxOf (XD P w) P w K mg base N qual scope f cd A outer s0 H0 E).env)).any (·.1) = false := by
    rw [he]
    show (false || (backTo cpos (starEach es _)).any (·.1)) = false
    rw [hpl]
    rfl
  refine Raise_laid (C := C) (nm := nm) (q := qn) (N := Nn) (bs := bs) (bm := bm) (hdct := hdct) (sn := sn) (sub := sub) (ab := ab) (col := col) (dd := dd) (k0 := k0) (k1 := k1) (k2 := k2) (k3 := k3) (k5 := k5)
    (TL.hasType PySem.F.excBase_ValueError.hasBase) (I.ok.hd rfl) hpl' (ld_glob I hg hm ⟨rfl, ?_⟩ hdb)
  have h2 := ha cpos pins s σ H _ I h
  rw [he] at h2 ⊢
  refine Calls.evalArgs_plain (wpAny_mono h2 (fun us s1 ⟨vs, H1, I1, r, z, q⟩ => ⟨rfl, I1.bk _ _ hC, ?_⟩) fun _ _ y => y)
  have xe0 : Passes CX0 (cxOf (XD P w) P w K mg base N qual scope f cd A outer s0 H0 E) E0 := pass0
  refine wpAny_mono (run_excmake (QQ := fun e H2 => ∃ dx, H2 e = some (.ext (ExcL C e dx)) ∧ E (.ref C) (some dx) (without H2 e)) M F hr hb xe0 I1 r (by rw [← r.length]; exact z) q) (fun v s3 z3 => ?_) fun _ _ y => y
  obtain ⟨e', H', rfl, I3, nn, dx, hH, hE⟩ := z3
  obtain ⟨⟨a, hl⟩, _, _⟩ := (show ObjOk P w H' s3.heap e' (.ext (ExcL C e' dx)) from I3.hok e' _ hH)
  have h0 : s0.heap.get? e' = none := by
    cases q0 : s0.heap.get? e' with
    | none => rfl
    | some o =>
      have u0 : Un (frs outer) [] H0 H1 s0.heap s1.heap := I1.base
      obtain ⟨o1, q1⟩ := u0.there e' o q0 (by simp)
      rw [nn] at q1; cases q1
  exact ⟨e', a, dx, rfl, I3.bk _ _ hC, hl, raise_xeD I3 hH h0 hE⟩
end
end L2

namespace L2
open PySem PySem.Spec PyProof.Rows PySem.W PySem.Calls
section
variable {X : Cx} {pins : List (Addr × Obj)} {σ : St} {H H' : Hp} {s s' : Shared} {cls : Value} {ea C dx : Addr} {B h' : Heap} {t' : Nat}
theorem FlyX.unF (x : FlyX X.prog X.w X.stack H s cls dx ea B H' s') (k : B.StaysIn h') (ups : s'.heap.UpToSlots h') : Un (frs X.stack) [] H H' s.heap h' :=
  x.un.onward (fun b o q nb old => k b o (x.cov b o q nb (.inr old))) fun b o q hb old => by
    obtain ⟨_, o', ho', nf⟩ := x.fly.frm.mem hb
    rw [q] at ho'; cases ho'
    exact ups b o q nf
theorem FlyX.hokF (x : FlyX X.prog X.w X.stack H s cls dx ea B H' s') (k : B.StaysIn h') : HOk X.prog X.w H' h' :=
  x.hok.onward fun b o hb q => k b o (x.cov b o q (fun z => hb (x.frf b z)) (.inl hb))
theorem Inv.landed0 (I : Inv X pins σ H s) (x : FlyX X.prog X.w X.stack H s cls dx ea B H' s') (k : B.StaysIn h') (ups : s'.heap.UpToSlots h') : Inv X pins σ H' { s' with heap := h', toks := t' } :=
  I.call' (s' := { s' with heap := h', toks := t' }) (ch := []) x.os (x.unF k ups) (x.hokF k) x.bare fun b z => absurd z (by simp)
theorem okD {P : Program} {w : World} {H : Hp} {h : Heap} {C e dx : Addr} (he : ExcD C e dx h) : ObjOk P w H h e (.ext (ExcD C e dx)) := ⟨he, let ⟨o, a, _⟩ := he; ⟨o, a⟩, fun _ _ ⟨o, a, b⟩ k => ⟨o, k _ a, b⟩⟩
theorem Inv.landedD (I : Inv X pins σ H s) (x : FlyX X.prog X.w X.stack H s (.ref C) dx ea B H' s') {l : List Env} {fl : Value} (f2 : FlyAt B l ea (.ref C) (some dx) fl h') (ups : s'.heap.UpToSlots h') :
    Inv X pins σ (upd H' ea (.ext (ExcD C ea dx))) { s' with heap := h', toks := t' } := by
  obtain ⟨oe, he, hc, hx, vs, hd⟩ := f2.there
  have at_ : ExcD C ea dx h' := ⟨oe, he, hc, hx, by unfold PySem.W.notCls; rw [hd]⟩
  exact I.call' (s' := { s' with heap := h', toks := t' }) (ch := []) x.os ((x.unF f2.stays ups).more x.hs x.he) ((x.hokF f2.stays).more x.he (okD at_)) x.bare fun b z => absurd z (by simp)
theorem handle_asD {D : Ends} {ts : TS} {x n : Str} {np hpos : Pos} {b₀ : Stmt} {suite : List Stmt} {i : Nat} {fI : Addr} (I : Inv X pins σ H s) (fly : FlyX X.prog X.w X.stack H s (.ref C) dx ea B H' s') (hst : X.stack = X.env :: X.outer) (hf : X.env.frame = some X.env.locals)
    (hm : X.mg x = some (.ref C)) (hg : Gl X x) (hq : excInB X.K C fI = true) (hN : X.N.Nodup) (hi : X.N[i]? = some n) (hk : X.env.scope.names.lookup n = some .local)
    (hsu : PSs (X.marked ea) (b₀ :: suite) ts) (h : ts (asEnds D i) (σ.set i (some (.ref ea))) (upd H' ea (.ext (ExcD C ea dx)))) (hdb : (x == ("__debug__" : Str)) = false) :
    wpAny (model X.prog X.w) X.A (noteFrame (.ref ea) X.env) (fun _ s₂ => wpAny (model X.prog X.w) X.A (setFlight (.ref ea) none) (fun _ s₃ =>
      wpAny (model X.prog X.w) X.A (handleBy (.ref ea) X.env [.ExceptHandler (some (.Name x np)) (some n) (b₀ :: suite) hpos]) (SP X pins D) X.xe s₃) X.xe s₂) X.xe s' := by
  obtain ⟨hp, gs, dr, tk, os⟩ := s'
  have fr : X.A.frames = some (X.env :: X.outer) := by rw [← hst]; exact I.ok.frames
  have fl : FlyAt B (X.env :: X.outer) ea (.ref C) (some dx) .none hp := by rw [← hst]; exact fly.fly
  refine noteNextD fr hf fl fun h4 held4 u4 => ?_
  refine landD held4 fun h5 fl5 u5 => ?_
  have I5 : Inv X pins σ H' ⟨h5, gs, dr, tk, os⟩ := I.landed0 (t' := tk) fly fl5.stays (u4.trans u5)
  obtain ⟨ob, hob, hobc, _⟩ := fl5.there
  refine wpAny_handleBy_cons (codeAny_handlers_test (ld_glob (I5.marked ea) hg hm ?_ hdb)) (by intro q; cases q)
  obtain ⟨bm, Nn, nm, qn, bs, hdct, sn, sub, ab, col, dd, k0, k1, k2, k3, k5, mN, hC, hNs, hni, TL⟩ := exc_objI I5.kIn hq
  refine wpAny_excMatches_sub_self hC hob hobc (TL.hasType PySem.F.excBase_ValueError.hasBase) ?_
  refine codeAny_handlers_suite_as ?_
  refine landD fl5 fun h6 fl6 u6 => ?_
  have I6 : Inv X pins σ (upd H' ea (.ext (ExcD C ea dx))) ⟨h6, gs, dr, tk, os⟩ := I.landedD (t' := tk) fly fl6 ((u4.trans u5).trans u6)
  refine store_ok (X := X.marked ea) (i := i) (v := .ref ea) (I6.marked ea) hN hi (.inl hk) rfl (fun s7 I7 => ?_) (.inr hk)
  refine wpAny_mono (hsu pins s7 _ _ _ I7 h) (fun fw s8 q => ?_) fun _ _ z => False.elim z
  cases fw with
  | next =>
    obtain ⟨σ2, H2, J, q⟩ := q
    exact unbind_ok (J.unmarked I.ok) hN hi hk fun s9 J9 => ⟨_, _, J9, q⟩
  | ret v =>
    obtain ⟨v', σ2, H2, J, r, q⟩ := q
    exact unbind_ok (J.unmarked I.ok) hN hi hk fun s9 J9 => ⟨v', _, _, J9, r, q⟩
  | brk =>
    obtain ⟨σ2, H2, J, q⟩ := q
    exact unbind_ok (J.unmarked I.ok) hN hi hk fun s9 J9 => ⟨_, _, J9, q⟩
  | cont =>
    obtain ⟨σ2, H2, J, q⟩ := q
    exact unbind_ok (J.unmarked I.ok) hN hi hk fun s9 J9 => ⟨_, _, J9, q⟩
end
def tTryTup (sp : Sp) (C : Addr) (c : Str) (iy i : Nat) (ta : TA) (ts : TS) : TS := fun D σ H => ta σ H fun vs H1 => sp vs H1 (fun v H2 => ∀ p, H2 p = none → D.nx (σ.set iy (some (.ref p))) (upd H2 p (.tup [.str c, v])))
  fun cls od H2 => ∃ dx, od = some dx ∧ cls = .ref C ∧ ∀ e, H2 e = none → ts (asEnds D i) (σ.set i (some (.ref e))) (upd H2 e (.ext (ExcD C e dx)))
section
variable {X : Cx} {k : Nat} {f C fI : Addr} {fd : FuncData} {ps : List Str} {sp : Sp} {g x n y c : Str} {p pos pos3 np hpos yp cp tp ap : Pos} {e : Expr} {es : List Expr} {t : TA} {ts : TS} {b₀ : Stmt} {suite : List Stmt} {i iy : Nat} {cj tk}
theorem ps_tryTup (F : FnOk X.prog X.w X.K X.mg X.base (XD X.prog X.w) k f fd ps sp) (hr : Room k X.A) (hgf : Gl X g) (hmf : X.mg g = some (.ref f)) (hkf : PySem.W.keepIn X.K (.ref f) = true) (hb : Binds X.K fd ps []) (ha : PA X.nox (e :: es) t)
    (hm : X.mg x = some (.ref C)) (hg : Gl X x) (hq : excInB X.K C fI = true) (hN : X.N.Nodup) (hi : X.N[i]? = some n) (hk : X.env.scope.names.lookup n = some .local) (hiy : X.N[iy]? = some y) (hky : X.env.scope.names.lookup y = some .local) (hsu : ∀ ea, PSs (X.marked ea) (b₀ :: suite) ts)
    (hst : X.stack = X.env :: X.outer := by rfl) (hf : X.env.frame = some X.env.locals := by rfl)
    (hdf : (g == ("__debug__" : Str)) = false := by decide) (hdb : (x == ("__debug__" : Str)) = false := by decide)
    (he : starEach (e :: es) X.env = (false, eval e X.env) :: starEach es X.env := by rfl) (hpl : (backTo pos (starEach es X.env)).any (·.1) = false := by rfl)
    (hT : backTo tp (starEach [.Constant (.str c) cj cp, .Call (.Name g p) (e :: es) [] pos] X.env) = (false, eval (.Constant (.str c) cj cp) X.env) :: backTo tp (starEach [.Call (.Name g p) (e :: es) [] pos] X.env) := by rfl)
    (hT2 : ∃ m : Sem Value, backTo tp (starEach [.Call (.Name g p) (e :: es) [] pos] X.env) = [(false, m)] ∧ ∀ (M : Model) (A : Around) (Q : Value → Shared → Prop) (E : Value → Shared → Prop) (s : Shared), wpAny M A (eval (.Call (.Name g p) (e :: es) [] pos) X.env) Q E s → wpAny M A m Q E s := by exact ⟨_, rfl, fun _ _ _ _ _ h => h⟩)
    (hsw : swapsWith (.Tuple [.Constant (.str c) cj cp, .Call (.Name g p) (e :: es) [] pos] tk tp) (some (.Name y yp)) ap.line X.env = pure false := by rfl) :
    PS X (.Try [.Assign [.Name y yp] (.Tuple [.Constant (.str c) cj cp, .Call (.Name g p) (e :: es) [] pos] tk tp) ap] [.ExceptHandler (some (.Name x np)) (some n) (b₀ :: suite) hpos] [] [] pos3) (tTryTup sp C c iy i t ts) := by
  intro pins s σ H D I h
  obtain ⟨m, em, hmm⟩ := hT2
  refine wpAny_Try_except (wpAny_execs_cons (wpAny_Assign_Name (wpAny_Tuple_spliced ?_) hsw))
  rw [hT, em]
  refine Calls.spliced_cons (Calls.Constant_str (Calls.spliced_cons (hmm _ _ _ _ _ ?_)))
  have I0 := I.tok (s.toks + 1)
  refine wpAny_Call_Name_kw (ld_glob I0 hgf hmf ?_ hdf)
  refine PySem.W.callWith_K (h₀ := X.base) I.ok.mod.kin hkf (wpAny_mono (ha pos pins _ σ H _ (I0.wish _) h) (fun us s1 ⟨vs, H1, I1, r, q⟩ => ⟨I1.unwish.kIn, ?_⟩) fun _ _ z => z.elim) he hpl
  have J := I1.unwish
  have hl : us.length = ps.length := by rw [← r.length]; exact F.len _ _ _ _ q
  have hb' := hb s1 us J.kIn (by rw [List.append_nil]; exact hl)
  rw [List.append_nil] at hb'
  refine wpAny_call (codeAny_mono (F.run X.A X.stack s1 H1 ⟨us, []⟩ us vs _ _ hr J.env0 hb' r q) fun rr s' hq' => ?_)
  cases rr with
  | error ex =>
    obtain ⟨ea, cls, dx, B, H', rfl, fly, dx', hdx, hcl, hh⟩ := hq'
    cases hdx
    subst hcl
    exact handle_asD J fly hst hf hm hg hq hN hi hk (hsu ea) (hh ea fly.he) hdb
  | ok fl =>
    cases fl with
    | ret u =>
      obtain ⟨v, H2, I2, r2, q2⟩ := J.after hq'
      refine Calls.spliced_nil ⟨by show 2 ≤ sizeLine; decide, ?_⟩
      have hf2 : H2 s'.heap.objs.size = none := I2.hok.fresh (Nat.le_refl _)
      have I3 := I2.laid (a := s'.heap.objs.size) (o := .tup [.str c, v]) (h' := s'.heap.push { cls := .type "tuple", data := .seq [Value.str c s.toks, u].toArray }) (t' := s'.toks) (fun b w e => Heap.get?_push_of_some _ e) (Nat.le_refl _)
        ⟨by show 2 ≤ sizeLine; decide, [Value.str c s.toks, u], .cons ⟨_, rfl⟩ (.cons r2 .nil), ⟨_, Heap.get?_push_size _ rfl, rfl, _, rfl⟩⟩
      exact store_ok (v := .ref s'.heap.objs.size) I3 hN hiy (.inl hky) rfl (fun s5 I5 => wpAny_execs_nil (wpAny_execs_nil ⟨_, _, I5, q2 _ hf2⟩)) (.inr hky)
    | next => exact False.elim hq'
    | brk => exact False.elim hq'
    | cont => exact False.elim hq'
end
def tXFld (K : Frag) (ta : TE) (f : Str) : TE := fun σ H Q => ta σ H fun x H1 => ∃ e C dx fs v, x = .ref e ∧ H1 e = some (.ext (ExcD C e dx)) ∧ H1 dx = some (.xd fs) ∧ ExcFld K C f ∧ fs.lookup f = some v ∧ Q v H1
theorem pe_xfld {X : Cx} {e : Expr} {f : Str} {pos : Pos} {ta : TE} (K : PySem.W.Frag) (he : PE X e ta) (hb : attributeBase e f X.env (eval e X.env) = eval e X.env := by rfl) (hK : X.K = K := by rfl) : PE X (.Attribute e f pos) (tXFld K ta f) := by
  subst hK
  intro pins s σ H Q I h
  refine attr_of hb (thn (he pins s σ H _ I h) fun u s1 ⟨x, H1, I1, rx, ea, C, dx, fs, v, ex, h1, h2, T, l, q⟩ => ?_)
  subst ex
  obtain rfl : u = Value.ref ea := rx
  obtain ⟨at_, _, _⟩ := (show ObjOk X.prog X.w H1 s1.heap ea (.ext (ExcD C ea dx)) from I1.hok ea _ h1)
  obtain ⟨mA, ns, r⟩ := (show ObjOk X.prog X.w H1 s1.heap dx (.xd fs) from I1.hok dx _ h2)
  obtain ⟨u, hu, ru⟩ := RelO.some_of (v := v) (o := mA f) (by rw [← l]; exact r f)
  exact own_field I1.kIn T at_ ns.ns hu (PySem.W.handedOut_of (handed_of ru)) ⟨v, H1, I1.tok _, ru, q⟩
inductive TyY (K : PySem.W.Frag) (H : Hp) : V → Value → Prop where
  | of {x : V} {t : Value} (h : TyX K H x t) : TyY K H x t
  | exc {e C dx : Addr} (T : ExcCls K C) (h : H e = some (.ext (ExcD C e dx))) : TyY K H (.ref e) (.ref C)
def rIsiY (K : PySem.W.Frag) : List V → Hp → VK → Prop := fun xs H Q => ∃ x c t b, xs = [x, c] ∧ ((∃ a, c = .ref a) ∨ ∃ n, c = .ty n) ∧ TyY K H x t ∧ PySem.W.kitOne K t (valOf c) = some b ∧ Q (.bl b) H
theorem call_isiY {X : Cx} : CallR X (.builtin "isinstance") (rIsiY X.K) := by
  intro pins s σ H xs us Q I rv h
  obtain ⟨x, c, t, b, rfl, hc, ty, e, q⟩ := h
  cases ty with
  | of ty => exact call_isi pins s σ H _ us Q I rv ⟨x, c, t, b, rfl, hc, ty, e, q⟩
  | @exc ea C dx T he =>
    obtain ⟨u, uc, rfl, ru, rc⟩ := rv.two
    have huc : uc = valOf c := by
      rcases hc with ⟨a, rfl⟩ | ⟨n, rfl⟩
      · exact rc
      · exact rc
    subst huc
    have ru' : u = Value.ref ea := ru
    subst ru'
    obtain ⟨p, _, _⟩ := (show ObjOk X.prog X.w H s.heap ea (.ext (ExcD C ea dx)) from I.hok ea _ he)
    exact PySem.W.kia_one (kitx_exc T) I.kIn p.exc e (fun z => nomatch z) fun tk => ⟨.bl b, H, I.tok tk, rfl, q⟩
end L2

namespace L2
open PySem PySem.Spec PyProof.Rows PySem.W PySem.Calls
def HasI (P : Program) (w : World) (K : PySem.W.Frag) (mg : Str → Option Value) (base : Heap) (k : Nat) (f : Addr) (ps : List Str) (sp : Sp) : Prop := ∃ fd : FuncData, FnOk P w K mg base CX0 k f fd ps sp ∧ Binds K fd ps []
def spIni (C : Addr) (f : Str) : Sp := fun vs H Q _ => ∃ (e : Addr) (v : V), vs = [.ref e, v] ∧ H e = some (.ext (ExcN C e)) ∧ ∀ (dx : Addr) (H' : Hp), H' e = some (.ext (ExcL C e dx)) → H' dx = some (.xd [(f, v)]) → (∀ b o, b ≠ e → H b = some o → H' b = some o) → Q .non H'
def spAloneD (C : Addr) : Sp := fun vs H Q _ => ∃ e dx, vs = [.ref e] ∧ H e = some (.ext (ExcD C e dx)) ∧ ∀ H', Same H H' → Q (.bl true) H'
end L2

namespace K07
open PySem L2
def top (i : Nat) : Stmt := PySem.Challenge.pw_conicplaces_k07_rests_joined.main.body.getD i (.Pass ⟨0, 0, 0, 0⟩)
abbrev s_shares_of : Stmt := top 18
abbrev s_row_less : Stmt := top 19
abbrev s_joined_rests : Stmt := top 21
abbrev s_cell_at : Stmt := top 23
abbrev s_whole : Stmt := top 24
abbrev s_either_way : Stmt := top 25
abbrev s_alone : Stmt := top 26
abbrev s_shared : Stmt := top 27
abbrev s_told : Stmt := top 28
abbrev s_law : Stmt := top 29
abbrev s_init_NoJoin : Stmt := inClass (top 4) 0
structure Adr where
  (ce c0 c1 c2 c3 c4 c5 c6 c7 c8 c9 c10 c11 c12 c13 c14 iNoJoin : Addr)
structure Txt (K : PySem.W.Frag) (mg : Str → Option Value) (t : Adr) : Prop where
  m_CurveError : mg "CurveError" = some (.ref t.ce)
  m_NoNumber : mg "NoNumber" = some (.ref t.c0)
  m_NoBack : mg "NoBack" = some (.ref t.c1)
  m_NoJoin : mg "NoJoin" = some (.ref t.c2)
  m_NoSign : mg "NoSign" = some (.ref t.c3)
  m_NotPlain : mg "NotPlain" = some (.ref t.c4)
  m_NoPlace : mg "NoPlace" = some (.ref t.c5)
  m_BadPlace : mg "BadPlace" = some (.ref t.c6)
  m_NoVertex : mg "NoVertex" = some (.ref t.c7)
  m_Flat : mg "Flat" = some (.ref t.c8)
  m_OffCurve : mg "OffCurve" = some (.ref t.c9)
  m_NoPair : mg "NoPair" = some (.ref t.c10)
  m_NoLine : mg "NoLine" = some (.ref t.c11)
  m_NoText : mg "NoText" = some (.ref t.c12)
  m_NoRow : mg "NoRow" = some (.ref t.c13)
  m_NoName : mg "NoName" = some (.ref t.c14)
  i_ce : PySem.W.kitOne K (.ref t.c2) (.ref t.ce) = some true
  i_0 : PySem.W.kitOne K (.ref t.c2) (.ref t.c0) = some false
  i_1 : PySem.W.kitOne K (.ref t.c2) (.ref t.c1) = some false
  i_2 : PySem.W.kitOne K (.ref t.c2) (.ref t.c2) = some true
  i_3 : PySem.W.kitOne K (.ref t.c2) (.ref t.c3) = some false
  i_4 : PySem.W.kitOne K (.ref t.c2) (.ref t.c4) = some false
  i_5 : PySem.W.kitOne K (.ref t.c2) (.ref t.c5) = some false
  i_6 : PySem.W.kitOne K (.ref t.c2) (.ref t.c6) = some false
  i_7 : PySem.W.kitOne K (.ref t.c2) (.ref t.c7) = some false
  i_8 : PySem.W.kitOne K (.ref t.c2) (.ref t.c8) = some false
  i_9 : PySem.W.kitOne K (.ref t.c2) (.ref t.c9) = some false
  i_10 : PySem.W.kitOne K (.ref t.c2) (.ref t.c10) = some false
  i_11 : PySem.W.kitOne K (.ref t.c2) (.ref t.c11) = some false
  i_12 : PySem.W.kitOne K (.ref t.c2) (.ref t.c12) = some false
  i_13 : PySem.W.kitOne K (.ref t.c2) (.ref t.c13) = some false
  i_14 : PySem.W.kitOne K (.ref t.c2) (.ref t.c14) = some false
  i_ve : PySem.W.kitOne K (.ref t.c2) (.type "ValueError") = some true
  e0 : (PySem.W.clsIn K t.c2).isSome = true
  e1 : PySem.W.findIn K (.ref t.c2) "__getattribute__" = some (some (.builtin "BaseException.__getattribute__"))
  e2 : PySem.W.findIn K (.ref t.c2) "__getattr__" = some none
  e3 : PySem.W.findIn K (.ref t.c2) "__class__" = some (some (.builtin "object.__class__"))
  e4 : PySem.W.specialIn K (.builtin "object.__class__") "__get__" = some (some (.builtin "getset_descriptor.__get__"))
  e5 : PySem.W.takesIn K (.builtin "object.__class__") = some true
  e6 : PySem.W.mroIn K t.c2 (.type "object") = some true
  e7 : PySem.W.mroIn K t.c2 (.type "BaseException") = some true
  x_NoJoin : excInB K t.c2 t.iNoJoin = true
  xf_NoJoin : PySem.W.isFn K (.ref t.iNoJoin) = true
  xn_NoJoin : PySem.W.findIn K (.ref t.c2) "shared" = some none
  xd_NoJoin : (PySem.W.clsIn K t.c2).map (·.hasDict) = some true
  xs_NoJoin : PySem.W.findIn K (.ref t.c2) "__setattr__" = some (some (.builtin "object.__setattr__"))
  xo_NoJoin : (PySem.W.clsIn K t.c2).any (fun cd => onlyVE cd.mro) = true
  y1 : PySem.W.specialIn K (.ref t.ce) "__getattribute__" = some (some (.builtin "type.__getattribute__"))
  y2 : PySem.W.readsIn K t.ce (.type "type") = true
  y3 : PySem.W.findCls K (.ref t.ce) (.type "type") "__init__" = some (.val (.builtin "ValueError.__init__"))
  i_ib : PySem.W.kitOne K (.type "int") (.type "bool") = some false
  z_isinstance : mg "isinstance" = none
  z_int : mg "int" = none
  z_bool : mg "bool" = none
  z_len : mg "len" = none
  z_tuple : mg "tuple" = none
  z_ValueError : mg "ValueError" = none
theorem Txt.exc {K : PySem.W.Frag} {mg : Str → Option Value} {t : Adr} (T : Txt K mg t) : ExcCls K t.c2 := ⟨T.e0, T.e1, T.e2, T.e3, T.e4, T.e5, T.e6, T.e7⟩
theorem Txt.mk_NoJoin {K : PySem.W.Frag} {mg : Str → Option Value} {t : Adr} (T : Txt K mg t) : MkX K t.c2 t.iNoJoin := ⟨T.x_NoJoin, T.xf_NoJoin⟩
theorem Txt.fld_NoJoin {K : PySem.W.Frag} {mg : Str → Option Value} {t : Adr} (T : Txt K mg t) : ExcFld K t.c2 "shared" := ⟨T.exc, T.xn_NoJoin, T.xd_NoJoin⟩
theorem Txt.set_NoJoin {K : PySem.W.Frag} {mg : Str → Option Value} {t : Adr} (T : Txt K mg t) : ExcSet K t.c2 "shared" := ⟨T.fld_NoJoin, T.xs_NoJoin, T.xo_NoJoin⟩
theorem b_isi : bootBuiltins "isinstance" = some (.builtin "isinstance") := by decide +kernel
theorem b_int : bootBuiltins "int" = some (.type "int") := by decide +kernel
theorem b_bool : bootBuiltins "bool" = some (.type "bool") := by decide +kernel
theorem b_tuple : bootBuiltins "tuple" = some (.type "tuple") := by decide +kernel
theorem b_ValueError : bootBuiltins "ValueError" = some (.type "ValueError") := by decide +kernel
theorem iteDT {c A B : Prop} [Decidable c] (hc : c) (h : A) : if decide c = true then A else B := by
  rw [decide_eq_true hc]
  exact iteT h
theorem neT {c : Prop} [Decidable c] (h : (!decide c) = true) : ¬ c := by
  intro z
  rw [decide_eq_true z] at h
  cases h
theorem neF {c : Prop} [Decidable c] (h : ¬ (!decide c) = true) : c := by
  by_cases z : c
  · exact z
  · exact absurd (by rw [decide_eq_false z]; rfl) h
theorem mulS {a b : Int} (h1 : -(2 ^ 64) < b) (h2 : b < 2 ^ 64) : IntMulOk a b := IntMulOk.of_right (intBits_le_64 h1 h2)
@[irreducible] def Rt : Nat := 2 ^ 500
@[irreducible] def Lm : Nat := 2 ^ 1000
theorem Rt_eq : Rt = 2 ^ 500 := by unfold Rt; rfl
theorem Lm_eq : Lm = 2 ^ 1000 := by unfold Lm; rfl
theorem Lm_pos : 1 ≤ Lm := by rw [Lm_eq]; decide +kernel
theorem Lm_bits {x : Int} (h : x.natAbs ≤ 8 * Lm) : Builtin.Int.intBits x ≤ 1004 := intBits_le_iff.mpr (Nat.lt_of_le_of_lt h (by rw [Lm_eq]; decide +kernel))
theorem Lm_log {x : Int} (h : x.natAbs ≤ 8 * Lm) : x.natAbs.log2 < 9000 := Nat.lt_of_lt_of_le (log2_lt_of (k := 1004) (Nat.lt_of_le_of_lt h (by rw [Lm_eq]; decide +kernel)) (by decide)) (by decide)
theorem mulL {a b : Int} (ha : a.natAbs ≤ 8 * Lm) (hb : b.natAbs ≤ 8 * Lm) : IntMulOk a b := IntMulOk.of_le (Lm_bits ha) (Lm_bits hb) (by decide)
abbrev M128 : Int := 10 ^ Int.toNat 64 * 10 ^ Int.toNat 64
abbrev M150 : Int := 10 ^ Int.toNat 64 * 10 ^ Int.toNat 64 * 10 ^ Int.toNat 22
abbrev M140 : Int := 10 ^ Int.toNat 64 * 10 ^ Int.toNat 64 * 10 ^ Int.toNat 12
theorem ok40 {c : Int} (h : Builtin.Int.intBits c ≤ 1048640) : IntMulOk c (32452843 ^ Int.toNat 40) := IntMulOk.of_le (n := 1000) h (intBits_le_iff.mpr (by decide +kernel)) (by decide)
theorem bits26 {c : Int} (h : Builtin.Int.intBits c ≤ 1048576) : Builtin.Int.intBits (c * 49979687) ≤ 1048640 := Nat.le_trans (intBits_mul_le (n := 26) h (intBits_le_iff.mpr (by decide +kernel))) (by decide)
theorem fmod_of_dvd {x k g : Int} (h : x = k * g) : x.fmod g = 0 := by
  subst h
  rw [Int.fmod_def]
  by_cases z : g = 0
  · subst z; simp
  · rw [Int.mul_fdiv_cancel k z, Int.mul_comm]; omega
theorem fdiv_rest (a b : Int) : a - a.fdiv b * b = a.fmod b := by rw [Int.fmod_def, Int.mul_comm]
def spRow : Sp := fun vs H Q _ => ∃ (pa pb : Addr) (x s t y u v k : Int), vs = [.ref pa, .ref pb, .int k] ∧ H pa = some (.tup [.int x, .int s, .int t]) ∧ H pb = some (.tup [.int y, .int u, .int v]) ∧ IntMulOk k y ∧ IntMulOk k u ∧ IntMulOk k v ∧
  ∀ (p : Addr) (H' : Hp), Same H H' → H' p = some (.tup [.int (x - k * y), .int (s - k * u), .int (t - k * v)]) → Q (.ref p) H'
def spShares : Sp := fun vs H Q _ => ∃ (x y : Int), vs = [.int x, .int y] ∧ x.natAbs ≤ Lm ∧ y.natAbs ≤ Lm ∧
  ∀ (p : Addr) (H' : Hp) (g s t : Int), Same H H' → H' p = some (.tup [.int g, .int s, .int t]) → 0 ≤ g → g = s * x + t * y → (∃ k, x = k * g) → (∃ k, y = k * g) → s.natAbs ≤ 8 * Lm → t.natAbs ≤ 8 * Lm → Q (.ref p) H'
def spEither : Sp := fun vs H Q _ => ∃ (c m : Int), vs = [.int c, .int m] ∧ Builtin.Int.intBits c ≤ 1048640 ∧ 0 ≤ m ∧ ∀ n : Int, -m ≤ n → n ≤ m → Q (.int n) H
theorem hu64_of {A : Around} {k : Nat} (hr : Room k A) : A.units + 64 < cLine := by
  have := hr.un
  omega
def Jn (r n s m x l g : Int) : Prop := l = n.fdiv g * m ∧ 0 ≤ x ∧ x < l ∧ n ∣ x - r ∧ m ∣ x - s
def Gd (n m g : Int) : Prop := 0 < g ∧ g ∣ n ∧ g ∣ m ∧ ∀ d : Int, d ∣ n → d ∣ m → d ∣ g
def spJoin (C : Addr) : Sp := fun vs H Q E => ∃ (r n s m : Int), vs = [.int r, .int n, .int s, .int m] ∧ r.natAbs ≤ Lm ∧ n.natAbs ≤ Lm ∧ s.natAbs ≤ Lm ∧ m.natAbs ≤ Lm ∧ 0 < n ∧ 0 < m ∧
  (∀ (p : Addr) (H' : Hp) (x l g : Int), Same H H' → Gd n m g → (s - r).fmod g = 0 → Jn r n s m x l g → H' p = some (.tup [.int x, .int l]) → Q (.ref p) H') ∧
  (∀ (dx : Addr) (H' : Hp) (g : Int), Same H H' → H' dx = some (.xd [("shared", .int g)]) → Gd n m g → (s - r).fmod g ≠ 0 → E (.ref C) (some dx) H')
def spShared : Sp := fun vs H Q _ => ∃ (x y : Int), vs = [.int x, .int y] ∧ 0 < x ∧ 0 ≤ y ∧ ∀ g : Int, Gd x y g → Q (.int g) H
def spTold : Sp := fun vs H Q _ => ∃ (r n s m : Int), vs = [.int r, .int n, .int s, .int m] ∧ r.natAbs ≤ Lm ∧ n.natAbs ≤ Lm ∧ s.natAbs ≤ Lm ∧ m.natAbs ≤ Lm ∧ 0 < n ∧ 0 < m ∧
  (∀ (p p' : Addr) (H' : Hp) (x l g : Int), Same H H' → Gd n m g → (s - r).fmod g = 0 → Jn r n s m x l g → H' p' = some (.tup [.int x, .int l]) → H' p = some (.tup [.str "joined", .ref p']) → Q (.ref p) H') ∧
  (∀ (p : Addr) (H' : Hp) (g : Int), Same H H' → Gd n m g → (s - r).fmod g ≠ 0 → H' p = some (.tup [.str "shared", .int g, .bl true]) → Q (.ref p) H')
theorem jn_of {r n s m u v g : Int} (n0 : 0 < n) (m0 : 0 < m) (g0 : 0 < g) (eg : g = u * n + v * m) (h1 : ∃ k, n = k * g) (h2 : ∃ k, m = k * g) (hf : (s - r).fmod g = 0) :
    Jn r n s m ((r + u * n * (s - r).fdiv g).fmod (n.fdiv g * m)) (n.fdiv g * m) g ∧ 0 < n.fdiv g * m := by
  obtain ⟨a, ea⟩ := h1
  obtain ⟨b, eb⟩ := h2
  have fa : n.fdiv g = a := by rw [ea]; exact Int.mul_fdiv_cancel a (by omega)
  have a0 : 0 < a := by
    rcases Int.lt_or_le 0 a with h | h
    · exact h
    · have := Int.mul_le_mul_of_nonneg_right h (Int.le_of_lt g0)
      rw [Int.zero_mul] at this
      omega
  have l0 : 0 < a * m := Int.mul_pos a0 m0
  have ek : s - r = g * (s - r).fdiv g := by
    have := Int.fmod_def (s - r) g
    omega
  rw [fa]
  generalize (s - r).fdiv g = k at ek
  refine ⟨⟨by rw [fa], Int.fmod_nonneg_of_pos _ l0, Int.fmod_lt_of_pos _ l0, ?_, ?_⟩, l0⟩
  · rw [Int.fmod_def]
    generalize (r + u * n * k).fdiv (a * m) = q
    refine ⟨u * k - b * q, ?_⟩
    grind
  · rw [Int.fmod_def]
    generalize (r + u * n * k).fdiv (a * m) = q
    refine ⟨-(v * k) - a * q, ?_⟩
    have : s = r + g * k := by omega
    subst this
    clear fa ea eb l0 a0 ek hf
    grind
theorem dvd_of_ex {x g : Int} (h : ∃ k, x = k * g) : g ∣ x := let ⟨k, e⟩ := h; ⟨k, by rw [e, Int.mul_comm]⟩
theorem dvd_comb {g x n s t v : Int} (e : v = s * x + t * n) (h1 : g ∣ x) (h2 : g ∣ n) : g ∣ v := by
  rw [e]
  exact Int.dvd_add (Int.dvd_trans h1 (Int.dvd_mul_left s x)) (Int.dvd_trans h2 (Int.dvd_mul_left t n))
theorem mod_dvd {f o : Int} (d : Int) : (d ∣ o ∧ d ∣ f % o) ↔ (d ∣ f ∧ d ∣ o) := by
  constructor
  · rintro ⟨h1, h2⟩
    refine ⟨?_, h1⟩
    have := Int.dvd_add h2 (Int.dvd_trans h1 (Int.dvd_mul_right o (f / o)))
    rw [Int.emod_add_mul_ediv] at this
    exact this
  · rintro ⟨h1, h2⟩
    exact ⟨h2, by rw [Int.emod_def]; exact Int.dvd_sub h1 (Int.dvd_trans h2 (Int.dvd_mul_right o (f / o)))⟩
theorem eqv3 {g : Int} : PyData.eqv (.tuple [.str "shared", .int g, .bool true]) (.tuple [.str "shared", .int g, .bool true]) = true := by simp [PyData.eqv, PyData.eqvAll]
theorem okSh : PyData.strOk "shared" = true := by decide +kernel
theorem sh3 {g : Int} : SeqAt.shaped (.tuple [.str "shared", .int g, .bool true]) = true := by
  unfold SeqAt.shaped
  simp only [PyData.canLay0, PyData.canLayAll0, okSh, Bool.and_self, Bool.true_and]
  rfl
theorem gd_of {n m g u v : Int} (n0 : 0 < n) (g0 : 0 ≤ g) (eg : g = u * n + v * m) (h1 : ∃ k, n = k * g) (h2 : ∃ k, m = k * g) : Gd n m g := by
  refine ⟨?_, dvd_of_ex h1, dvd_of_ex h2, fun d d1 d2 => dvd_comb eg d1 d2⟩
  obtain ⟨k, e⟩ := h1
  rcases Int.lt_or_le 0 g with h | h
  · exact h
  · have : g = 0 := by omega
    subst this
    rw [Int.mul_zero] at e
    omega
theorem gd_same {n m g k : Int} (a : Gd n m g) (b : Gd n m k) : g = k := Int.dvd_antisymm (Int.le_of_lt a.1) (Int.le_of_lt b.1) (b.2.2.2 g a.2.1 a.2.2.1) (a.2.2.2 k b.2.1 b.2.2.1)
theorem fmod_zero {x g : Int} (h : x.fmod g = 0) : g ∣ x := ⟨x.fdiv g, by have := Int.fmod_def x g; omega⟩
theorem dvd_fmod {x g : Int} (h : g ∣ x) : x.fmod g = 0 := by
  obtain ⟨k, e⟩ := h
  exact fmod_of_dvd (by rw [e, Int.mul_comm])
theorem fmod_flip {r s g : Int} : (r - s).fmod g = 0 ↔ (s - r).fmod g = 0 := by
  have e : r - s = -(s - r) := by omega
  constructor
  · intro h
    have := fmod_zero h
    rw [e] at this
    exact dvd_fmod (Int.dvd_neg.mp this)
  · intro h
    rw [e]
    exact dvd_fmod (Int.dvd_neg.mpr (fmod_zero h))
theorem mul3 {a b c : Int} (ha : a.natAbs ≤ 8 * Lm) (hb : b.natAbs ≤ 8 * Lm) (hc : c.natAbs ≤ 8 * Lm) : IntMulOk (a * b) c := IntMulOk.of_le (m := 2100) (n := 1004) (Nat.le_trans (intBits_mul_le (n := 1004) (Lm_bits ha) (Lm_bits hb)) (by decide)) (Lm_bits hc) (by decide)
theorem fdiv_abs {x g : Int} (g0 : 0 < g) (h : x.fmod g = 0) : (x.fdiv g).natAbs ≤ x.natAbs := by
  have e : x = g * x.fdiv g := by have := Int.fmod_def x g; omega
  generalize x.fdiv g = k at e
  rw [e, Int.natAbs_mul]
  exact Nat.le_mul_of_pos_left _ (by omega)
abbrev M70 : Int := 10 ^ Int.toNat 64 * 10 ^ Int.toNat 6
abbrev M60 : Int := 10 ^ Int.toNat 60
theorem ok70 : IntMulOk (10 ^ Int.toNat 64) (10 ^ Int.toNat 6) := IntMulOk.of_le (m := 300) (n := 300) (intBits_le_iff.mpr (by decide +kernel)) (intBits_le_iff.mpr (by decide +kernel)) (by decide)
theorem M70_p : 0 < M70 := by decide +kernel
theorem M60_p : 0 ≤ M60 := by decide +kernel
@[irreducible] def Qt : Nat := 2 ^ 250
theorem Qt_eq : Qt = 2 ^ 250 := by unfold Qt; rfl
theorem M70_l1 : M70.natAbs + 1 ≤ Qt := by rw [Qt_eq]; decide +kernel
theorem M60_l1 : M60.natAbs ≤ Qt := by rw [Qt_eq]; decide +kernel
theorem Qt_big : 1000 ≤ Qt := by rw [Qt_eq]; decide +kernel
theorem Qt_L {x y : Int} (hx : x.natAbs ≤ Qt) (hy : y.natAbs ≤ 10000000) : (x * y).natAbs ≤ Rt := by
  rw [Int.natAbs_mul]
  exact Nat.le_trans (Nat.mul_le_mul hx hy) (by rw [Qt_eq, Rt_eq]; decide +kernel)
theorem Rt_L {x y : Int} (hx : x.natAbs ≤ Rt) (hy : y.natAbs ≤ 10000000) : (x * y).natAbs + Rt ≤ Lm := by
  rw [Int.natAbs_mul]
  exact Nat.le_trans (Nat.add_le_add_right (Nat.mul_le_mul hx hy) Rt) (by rw [Lm_eq, Rt_eq]; decide +kernel)
theorem Qt_Rt : Qt ≤ Rt := by rw [Qt_eq, Rt_eq]; decide +kernel
theorem Rt_Lm1 : Rt ≤ Lm := by rw [Rt_eq, Lm_eq]; decide +kernel
theorem ok11 {c : Int} (h : Builtin.Int.intBits c ≤ 1048576) : IntMulOk c (49979687 ^ Int.toNat 11) := IntMulOk.of_le (n := 1000) h (intBits_le_iff.mpr (by decide +kernel)) (by decide)
theorem ok11b {c : Int} (h : Builtin.Int.intBits c ≤ 1048576) : IntMulOk c (67867967 ^ Int.toNat 11) := IntMulOk.of_le (n := 1000) h (intBits_le_iff.mpr (by decide +kernel)) (by decide)
theorem gd_le {n m g : Int} (n0 : 0 < n) (h : Gd n m g) : g.natAbs ≤ n.natAbs := by
  have := Int.le_of_dvd n0 h.2.1
  have := h.1
  omega
theorem Lm_big : 10000000 ≤ Lm := by rw [Lm_eq]; decide +kernel

section
variable {P : Program} {w : World} {K : PySem.W.Frag} {mg : Str → Option Value} {base : Heap} {t : Adr}
theorem sc_shares_of : FnScope ["one", "other", "upper", "lower", "below"] ["one", "other"] (defScope s_shares_of) := ⟨rfl, rfl, rfl, by decide +kernel, rfl, by decide +kernel, by decide +kernel⟩
theorem sc_row_less : FnScope ["row", "taken", "times"] ["row", "taken", "times"] (defScope s_row_less) := ⟨rfl, rfl, rfl, by decide +kernel, rfl, by decide +kernel, by decide +kernel⟩
theorem sc_joined_rests : FnScope ["r", "n", "s", "m", "shares", "greatest", "least", "steps"] ["r", "n", "s", "m"] (defScope s_joined_rests) := ⟨rfl, rfl, rfl, by decide +kernel, rfl, by decide +kernel, by decide +kernel⟩
theorem sc_cell_at : FnScope ["_law_script", "_law_k"] ["_law_script", "_law_k"] (defScope s_cell_at) := ⟨rfl, rfl, rfl, by decide +kernel, rfl, by decide +kernel, by decide +kernel⟩
theorem sc_whole : FnScope ["_law_found"] ["_law_found"] (defScope s_whole) := ⟨rfl, rfl, rfl, by decide +kernel, rfl, by decide +kernel, by decide +kernel⟩
theorem sc_either_way : FnScope ["_law_cell", "_law_most"] ["_law_cell", "_law_most"] (defScope s_either_way) := ⟨rfl, rfl, rfl, by decide +kernel, rfl, by decide +kernel, by decide +kernel⟩
theorem sc_alone : FnScope ["_law_e", "_law_found"] ["_law_e"] (defScope s_alone) := ⟨rfl, rfl, rfl, by decide +kernel, rfl, by decide +kernel, by decide +kernel⟩
theorem sc_shared : FnScope ["_law_one", "_law_other"] ["_law_one", "_law_other"] (defScope s_shared) := ⟨rfl, rfl, rfl, by decide +kernel, rfl, by decide +kernel, by decide +kernel⟩
theorem sc_told : FnScope ["_law_r", "_law_n", "_law_s", "_law_m", "_law_e", "_law_told_here"] ["_law_r", "_law_n", "_law_s", "_law_m"] (defScope s_told) := ⟨rfl, rfl, rfl, by decide +kernel, rfl, by decide +kernel, by decide +kernel⟩
theorem sc_law : FnScope ["_law_script", "_law_way", "_law_n", "_law_m", "_law_by", "_law_shared_here", "_law_r", "_law_s", "_law_told_here", "_law_x", "_law_least"] ["_law_script"] (defScope s_law) := ⟨rfl, rfl, rfl, by decide +kernel, rfl, by decide +kernel, by decide +kernel⟩
theorem sc_init_NoJoin : FnScope ["self", "shared"] ["self", "shared"] (defScope s_init_NoJoin) := ⟨rfl, rfl, rfl, by decide +kernel, rfl, by decide +kernel, by decide +kernel⟩
theorem ok_cell_at {f : Addr} {fd : FuncData} (F : Fun K "_law_cell_at" "_law_cell_at" s_cell_at f fd) (T : Txt K mg t)  : FnOk P w K mg base CX0 1 f fd ["_law_script", "_law_k"] (spCell K) := by
  refine F.ok sc_cell_at (fun vs H Q E h => ?_) (fun cdv A outer s H vs Q E hr h => ?_)
  · obtain ⟨a, ns, k, rfl, _⟩ := h
    rfl
  obtain ⟨a, ns, k, rfl, hS, h0, q⟩ := h
  refine ⟨_, pss_cons (ps_if (pt_cmpR op_lt (pv 1) (pe_callB call_len_seq rfl T.z_len PySem.boot_len (pa_cons (pv 0) pa_nil)) (nomark _)) (pss_one (ps_ret (pe_ix ix_list (pv 0) (pv 1) (fun _ _ => rfl)))) pss_nil)
    (pss_one (ps_ret pe_int)), ?_⟩
  refine ⟨_, rfl, _, rfl, a, _, rfl, .inl hS, _, _, rfl, rfl, _, rfl, ?_⟩
  refine ite2 (fun c => ?_) (fun c => ?_)
  · exact ⟨_, rfl, _, rfl, a, _, _, _, rfl, rfl, hS, cell_in h0 (decT c), q⟩
  · have e := cell_out (decF c) h0
    rw [e] at q
    exact q
theorem ok_whole {f : Addr} {fd : FuncData} (F : Fun K "_law_whole" "_law_whole" s_whole f fd) (T : Txt K mg t)  : FnOk P w K mg base CX0 1 f fd ["_law_found"] (spWhole) := by
  refine F.ok sc_whole (fun vs H Q E h => ?_) (fun cdv A outer s H vs Q E hr h => ?_)
  · obtain ⟨n, rfl, _⟩ := h
    rfl
  obtain ⟨n, rfl, q⟩ := h
  refine ⟨_, pss_one (ps_ret (pe_and (pe_callB call_isi rfl T.z_isinstance b_isi (pa_cons (pv 0) (pa_cons (pe_bltn (v := .ty "int") rfl T.z_int b_int rfl) pa_nil))) (pe_one (pe_not (pe_callB call_isi rfl T.z_isinstance b_isi (pa_cons (pv 0) (pa_cons (pe_bltn (v := .ty "bool") rfl T.z_bool b_bool rfl) pa_nil))))))), ?_⟩
  refine ⟨_, rfl, _, _, _, _, rfl, .inr ⟨_, rfl⟩, .of (.int _), rfl, _, rfl, ?_⟩
  refine iteT ?_
  exact ⟨_, rfl, _, _, _, _, rfl, .inr ⟨_, rfl⟩, .of (.int _), T.i_ib, _, rfl, q⟩
theorem ok_alone {f : Addr} {fd : FuncData} (F : Fun K "_law_alone" "_law_alone" s_alone f fd) (T : Txt K mg t)  : FnOkQ P w K mg base 1 f fd ["_law_e"] (spAloneD t.c2) := by
  refine F.okQ sc_alone (fun vs H Q E h => ?_) (fun cdv A outer s H vs Q E hr h => ?_)
  · obtain ⟨e, dx, rfl, _⟩ := h
    rfl
  obtain ⟨e, dx, rfl, he, q⟩ := h
  have isi : ∀ {X : Cx} {x : Str} {C : Addr} {p p2 p3 p4 : Pos}, X.N[0]? = some ("_law_e" : Str) → Vis X.env.scope "_law_e" → Gl X "isinstance" → X.mg "isinstance" = none → Gl X x → X.mg x = some (.ref C) → (x == ("__debug__" : Str)) = false →
      PE X (.Call (.Name "isinstance" p) [.Name "_law_e" p2, .Name x p3] [] p4) (tCB (rIsiY X.K) (tCons (tVar 0) (tCons (tC (.ref C)) tNil))) :=
    fun h1 h2 h3 h4 h5 h6 h7 => pe_callB call_isiY h3 h4 b_isi (pa_cons (pv 0 h1 h2) (pa_cons (pe_glob h5 h6 rfl h7) pa_nil))
  refine ⟨_, pss_cons (ps_set (i := 1) sc_alone.nd rfl (Or.inl rfl) (pe_lst (pa_cons (isi rfl (Or.inl rfl) rfl T.z_isinstance rfl T.m_NoNumber (by decide)) (pa_cons (isi rfl (Or.inl rfl) rfl T.z_isinstance rfl T.m_NoBack (by decide)) (pa_cons (isi rfl (Or.inl rfl) rfl T.z_isinstance rfl T.m_NoJoin (by decide)) (pa_cons (isi rfl (Or.inl rfl) rfl T.z_isinstance rfl T.m_NoSign (by decide)) pa_nil))))))
    (pss_cons (ps_set (i := 1) sc_alone.nd rfl (Or.inl rfl) (pe_op op_cat (pv 1) (pe_lst (pa_cons (isi rfl (Or.inl rfl) rfl T.z_isinstance rfl T.m_NotPlain (by decide)) (pa_cons (isi rfl (Or.inl rfl) rfl T.z_isinstance rfl T.m_NoPlace (by decide)) (pa_cons (isi rfl (Or.inl rfl) rfl T.z_isinstance rfl T.m_BadPlace (by decide)) pa_nil))))))
    (pss_cons (ps_set (i := 1) sc_alone.nd rfl (Or.inl rfl) (pe_op op_cat (pv 1) (pe_lst (pa_cons (isi rfl (Or.inl rfl) rfl T.z_isinstance rfl T.m_NoVertex (by decide)) (pa_cons (isi rfl (Or.inl rfl) rfl T.z_isinstance rfl T.m_Flat (by decide)) (pa_cons (isi rfl (Or.inl rfl) rfl T.z_isinstance rfl T.m_OffCurve (by decide)) (pa_cons (isi rfl (Or.inl rfl) rfl T.z_isinstance rfl T.m_NoPair (by decide)) pa_nil)))))))
    (pss_cons (ps_set (i := 1) sc_alone.nd rfl (Or.inl rfl) (pe_op op_cat (pv 1) (pe_lst (pa_cons (isi rfl (Or.inl rfl) rfl T.z_isinstance rfl T.m_NoLine (by decide)) (pa_cons (isi rfl (Or.inl rfl) rfl T.z_isinstance rfl T.m_NoText (by decide)) (pa_cons (isi rfl (Or.inl rfl) rfl T.z_isinstance rfl T.m_NoRow (by decide)) (pa_cons (isi rfl (Or.inl rfl) rfl T.z_isinstance rfl T.m_NoName (by decide)) pa_nil)))))))
    (pss_one (ps_ret (pe_and (pe_cmpR op_eq (pe_bm PySem.F.plainAttrs_list PySem.F.slot_list_count PySem.F.type_list_count mt_count (pv 1) (pa_cons pe_bl pa_nil)) pe_int (nomark _))
      (pe_and (isi rfl (Or.inl rfl) rfl T.z_isinstance rfl T.m_CurveError (by decide)) (pe_one (pe_callB call_isiY rfl T.z_isinstance b_isi (pa_cons (pv 0) (pa_cons (pe_bltn (v := .ty "ValueError") rfl T.z_ValueError b_ValueError rfl) pa_nil))))))))))), ?_⟩
  refine ⟨_, rfl, _, _, _, _, rfl, .inl ⟨_, rfl⟩, .exc T.exc he, T.i_0, _, rfl, _, _, _, _, rfl, .inl ⟨_, rfl⟩, .exc T.exc he, T.i_1, _, rfl, _, _, _, _, rfl, .inl ⟨_, rfl⟩, .exc T.exc he, T.i_2, _, rfl, _, _, _, _, rfl, .inl ⟨_, rfl⟩, .exc T.exc he, T.i_3, (by show 4 ≤ sizeLine; decide), fun p1 n1 => ?_⟩
  have g1 := same_new n1 (.lst [.bl false, .bl false, .bl true, .bl false])
  have he1 := g1 _ _ he
  refine ⟨_, rfl, _, rfl, _, _, _, _, rfl, .inl ⟨_, rfl⟩, .exc T.exc he1, T.i_4, _, rfl, _, _, _, _, rfl, .inl ⟨_, rfl⟩, .exc T.exc he1, T.i_5, _, rfl, _, _, _, _, rfl, .inl ⟨_, rfl⟩, .exc T.exc he1, T.i_6, (by show 3 ≤ sizeLine; decide), fun p2 n2 => ?_⟩
  have g2 := same_new n2 (.lst [.bl false, .bl false, .bl false])
  refine ⟨p1, p2, _, _, rfl, rfl, g2 _ _ upd_same, upd_same, (by show 7 ≤ sizeLine; decide), fun p3 n3 => ?_⟩
  have g3 := g2.trans (same_new n3 (.lst ([.bl false, .bl false, .bl true, .bl false] ++ [.bl false, .bl false, .bl false])))
  have he3 := g3 _ _ he1
  refine ⟨_, rfl, _, rfl, _, _, _, _, rfl, .inl ⟨_, rfl⟩, .exc T.exc he3, T.i_7, _, rfl, _, _, _, _, rfl, .inl ⟨_, rfl⟩, .exc T.exc he3, T.i_8, _, rfl, _, _, _, _, rfl, .inl ⟨_, rfl⟩, .exc T.exc he3, T.i_9, _, rfl, _, _, _, _, rfl, .inl ⟨_, rfl⟩, .exc T.exc he3, T.i_10, (by show 4 ≤ sizeLine; decide), fun p4 n4 => ?_⟩
  have g4 := same_new n4 (.lst [.bl false, .bl false, .bl false, .bl false])
  refine ⟨p3, p4, _, _, rfl, rfl, g4 _ _ upd_same, upd_same, (by show 11 ≤ sizeLine; decide), fun p5 n5 => ?_⟩
  have g5 := g4.trans (same_new n5 (.lst ([.bl false, .bl false, .bl true, .bl false] ++ [.bl false, .bl false, .bl false] ++ [.bl false, .bl false, .bl false, .bl false])))
  have he5 := g5 _ _ he3
  refine ⟨_, rfl, _, rfl, _, _, _, _, rfl, .inl ⟨_, rfl⟩, .exc T.exc he5, T.i_11, _, rfl, _, _, _, _, rfl, .inl ⟨_, rfl⟩, .exc T.exc he5, T.i_12, _, rfl, _, _, _, _, rfl, .inl ⟨_, rfl⟩, .exc T.exc he5, T.i_13, _, rfl, _, _, _, _, rfl, .inl ⟨_, rfl⟩, .exc T.exc he5, T.i_14, (by show 4 ≤ sizeLine; decide), fun p6 n6 => ?_⟩
  have g6 := same_new n6 (.lst [.bl false, .bl false, .bl false, .bl false])
  refine ⟨p5, p6, _, _, rfl, rfl, g6 _ _ upd_same, upd_same, (by show 15 ≤ sizeLine; decide), fun p7 n7 => ?_⟩
  have g7 := g6.trans (same_new n7 (.lst ([.bl false, .bl false, .bl true, .bl false] ++ [.bl false, .bl false, .bl false] ++ [.bl false, .bl false, .bl false, .bl false] ++ [.bl false, .bl false, .bl false, .bl false])))
  have he7 := g7 _ _ he5
  refine ⟨_, rfl, .inl ⟨rfl, _, SqL.of upd_same⟩, p7, [false, false, true, false, false, false, false, false, false, false, false, false, false, false, false], true, rfl, rfl, upd_same, rfl, _, rfl, ?_⟩
  refine iteT ?_
  refine ⟨_, rfl, _, _, _, _, rfl, .inl ⟨_, rfl⟩, .exc T.exc he7, T.i_ce, _, rfl, iteT ?_⟩
  exact ⟨_, rfl, _, _, _, _, rfl, .inr ⟨_, rfl⟩, .exc T.exc he7, T.i_ve, q _ (g1.trans (g3.trans (g5.trans g7)))⟩

theorem ok_row_less {f : Addr} {fd : FuncData} (F : Fun K "row_less" "row_less" s_row_less f fd) (T : Txt K mg t)  : FnOk P w K mg base CX0 1 f fd ["row", "taken", "times"] (spRow) := by
  refine F.ok sc_row_less (fun vs H Q E h => ?_) (fun cdv A outer s H vs Q E hr h => ?_)
  · obtain ⟨_, _, _, _, _, _, _, _, _, rfl, _⟩ := h
    rfl
  obtain ⟨pa, pb, x, s', t', y, u, v, k, rfl, ha, hb, m1, m2, m3, q⟩ := h
  refine ⟨_, pss_one (ps_ret (pe_tup (pa_cons (pe_op op_sub (pe_ix ix_tup (pv 0) pe_int (fun _ _ => rfl)) (pe_op op_mulG (pv 2) (pe_ix ix_tup (pv 1) pe_int (fun _ _ => rfl)))) (pa_cons (pe_op op_sub (pe_ix ix_tup (pv 0) pe_int (fun _ _ => rfl)) (pe_op op_mulG (pv 2) (pe_ix ix_tup (pv 1) pe_int (fun _ _ => rfl)))) (pa_cons (pe_op op_sub (pe_ix ix_tup (pv 0) pe_int (fun _ _ => rfl)) (pe_op op_mulG (pv 2) (pe_ix ix_tup (pv 1) pe_int (fun _ _ => rfl)))) pa_nil))))), ?_⟩
  exact ⟨_, rfl, pa, _, _, _, rfl, rfl, SqT.of ha, rfl, _, rfl, _, rfl, pb, _, _, _, rfl, rfl, SqT.of hb, rfl, _, _, rfl, rfl, m1, _, _, rfl, rfl,
    _, rfl, pa, _, _, _, rfl, rfl, SqT.of ha, rfl, _, rfl, _, rfl, pb, _, _, _, rfl, rfl, SqT.of hb, rfl, _, _, rfl, rfl, m2, _, _, rfl, rfl,
    _, rfl, pa, _, _, _, rfl, rfl, SqT.of ha, rfl, _, rfl, _, rfl, pb, _, _, _, rfl, rfl, SqT.of hb, rfl, _, _, rfl, rfl, m3, _, _, rfl, rfl,
    (by show 3 ≤ sizeLine; decide), fun p np => q p _ (same_new np _) upd_same⟩
theorem ok_shares_of {f : Addr} {fd : FuncData} (F : Fun K "shares_of" "shares_of" s_shares_of f fd) (T : Txt K mg t) (H_row_less : Has P w K mg base CX0 1 "row_less" ["row", "taken", "times"] (spRow)) : FnOk P w K mg base CX0 2 f fd ["one", "other"] (spShares) := by
  obtain ⟨f_row_less, d_row_less, G_row_less, b_row_less, k_row_less, m_row_less⟩ := H_row_less
  refine F.ok sc_shares_of (fun vs H Q E h => ?_) (fun cdv A outer s H vs Q E hr h => ?_)
  · obtain ⟨x, y, rfl, _⟩ := h
    rfl
  obtain ⟨x, y, rfl, hx, hy, q⟩ := h
  have hr_row_less := hr.mono (show 1 ≤ 1 by decide)
  refine ⟨_, pss_cons (ps_set (i := 2) sc_shares_of.nd rfl (Or.inl rfl) (pe_tup (pa_cons (pv 0) (pa_cons pe_int (pa_cons pe_int pa_nil)))))
    (pss_cons (ps_set (i := 3) sc_shares_of.nd rfl (Or.inl rfl) (pe_tup (pa_cons (pv 1) (pa_cons pe_int (pa_cons pe_int pa_nil)))))
    (pss_cons (ps_while PassesOwn.never (pt_cmpR op_ne (pe_ix ix_tup (pv 3) pe_int (fun _ _ => rfl)) pe_int (nomark _)) (pss_cons (ps_set (i := 4) sc_shares_of.nd rfl (Or.inl rfl) (pe_call G_row_less hr_row_less rfl m_row_less k_row_less b_row_less .nil pass0 (pa_cons (pv 2) (pa_cons (pv 3) (pa_cons (pe_op op_fdivL (pe_ix ix_tup (pv 2) pe_int (fun _ _ => rfl)) (pe_ix ix_tup (pv 3) pe_int (fun _ _ => rfl))) pa_nil)))))
    (pss_cons (ps_set (i := 2) sc_shares_of.nd rfl (Or.inl rfl) (pv 3))
    (pss_one (ps_set (i := 3) sc_shares_of.nd rfl (Or.inl rfl) (pv 4))))))
    (pss_cons (ps_if (pt_cmpR op_lt (pe_ix ix_tup (pv 2) pe_int (fun _ _ => rfl)) pe_int (nomark _)) (pss_one (ps_ret (pe_tup (pa_cons (pe_un un_neg (pe_ix ix_tup (pv 2) pe_int (fun _ _ => rfl))) (pa_cons (pe_un un_neg (pe_ix ix_tup (pv 2) pe_int (fun _ _ => rfl))) (pa_cons (pe_un un_neg (pe_ix ix_tup (pv 2) pe_int (fun _ _ => rfl))) pa_nil)))))) pss_nil)
    (pss_one (ps_ret (pv 2)))))), ?_⟩
  have B4 : ((x.natAbs : Int) + 2 * y.natAbs + 1).natAbs ≤ 4 * Lm := by
    have := Lm_pos
    omega
  have sz0 := Sh.sz_start (x := x) (y := y)
  generalize ((x.natAbs : Int) + 2 * y.natAbs + 1) = B at B4 sz0
  refine ⟨_, rfl, (by show 3 ≤ sizeLine; decide), fun p1 n1 => ?_⟩
  refine ⟨_, rfl, (by show 3 ≤ sizeLine; decide), fun p2 n2 => ?_⟩
  refine ⟨fun m σ H' => ∃ (pa pb : Addr) (a s t b u v : Int) (be : Option V), σ = [some (.int x), some (.int y), some (.ref pa), some (.ref pb), be] ∧ Same H H' ∧ H' pa = some (.tup [.int a, .int s, .int t]) ∧ H' pb = some (.tup [.int b, .int u, .int v]) ∧
    Sh.Rows x y a s t b u v ∧ Sh.Sz B a s t b u v ∧ m = b.natAbs, ⟨_, p1, p2, _, _, _, _, _, _, none, rfl, (same_new n1 _).trans (same_new n2 _), same_new n2 _ _ _ upd_same, upd_same, Sh.rows_start x y, sz0, rfl⟩, ?_⟩
  clear sz0 n1 n2 p1 p2
  rintro m σ H1 ⟨pa, pb, a, s', t', b, u, v, be, rfl, g, ha, hb, rws, sz, rfl⟩
  refine ⟨_, rfl, pb, _, _, _, rfl, rfl, SqT.of hb, rfl, rfl, _, rfl, ?_⟩
  refine ite2 (fun c => ?_) (fun c => ?_)
  · have b0 : b ≠ 0 := fun z => neT c (congrArg V.int z)
    have sz' := Sh.sz_turn sz b0 (a.fdiv b) (a.fmod b) (Sh.quot a b) rfl
    have rw' := Sh.rows_turn rws (a.fdiv b)
    rw [fdiv_rest] at rw'
    have qs : (a.fdiv b).natAbs ≤ 8 * Lm := by
      have e : a.fdiv b * b = a - a.fmod b := by have := fdiv_rest a b; omega
      have h1 : (a.fdiv b).natAbs ≤ (a.fdiv b * b).natAbs := by
        rw [Int.natAbs_mul]
        exact Nat.le_mul_of_pos_right _ (by omega)
      rw [e] at h1
      have h2 := sz.a0
      have h3 := sz'.b0
      omega
    refine ⟨fun σ' H2 => ∃ pc : Addr, σ' = [some (.int x), some (.int y), some (.ref pb), some (.ref pc), some (.ref pc)] ∧ Same H1 H2 ∧ H2 pc = some (.tup [.int (a - a.fdiv b * b), .int (s' - a.fdiv b * u), .int (t' - a.fdiv b * v)]), ?_, ?_⟩
    · rintro σ' H2 ⟨pc, rfl, g2, hc⟩
      rw [fdiv_rest] at hc
      exact ⟨(a.fmod b).natAbs, Sh.fmod_abs b0, pb, pc, b, u, v, _, _, _, _, rfl, g.trans g2, g2 _ _ hb, hc, rw', sz', rfl⟩
    · have z1 := sz.b0
      have z2 := sz.u0
      have z3 := sz.v0
      refine ⟨_, rfl, _, rfl, _, rfl, pa, _, _, _, rfl, rfl, SqT.of ha, rfl, _, rfl, pb, _, _, _, rfl, rfl, SqT.of hb, rfl, _, _, rfl, rfl, ⟨b0, Lm_log (by omega)⟩,
        pa, pb, a, s', t', b, u, v, _, rfl, ha, hb, mulL qs (by omega), mulL qs (by omega), mulL qs (by omega), fun pc H2 g2 hc => ?_⟩
      exact ⟨_, rfl, _, rfl, pc, rfl, g2, hc⟩
  · have b0 : b = 0 := int_inj (neF c)
    obtain ⟨e1, ⟨k1, e2⟩, ⟨k2, e3⟩⟩ := Sh.rows_end rws b0
    have z2 := sz.s0
    have z3 := sz.t0
    refine ⟨_, rfl, pa, _, _, _, rfl, rfl, SqT.of ha, rfl, _, _, rfl, rfl, _, rfl, ?_⟩
    refine ite2 (fun c => ?_) (fun c => ?_)
    · have a0 : a < 0 := decT c
      refine ⟨_, rfl, pa, _, _, _, rfl, rfl, SqT.of ha, rfl, _, rfl, _, rfl, pa, _, _, _, rfl, rfl, SqT.of ha, rfl, _, rfl, _, rfl, pa, _, _, _, rfl, rfl, SqT.of ha, rfl, _, rfl, (by show 3 ≤ sizeLine; decide), fun p np => ?_⟩
      exact q p _ (-a) (-s') (-t') (g.trans (same_new np _)) upd_same (by omega) (by rw [Int.neg_mul, Int.neg_mul]; omega) ⟨-k1, by rw [Int.neg_mul_neg]; exact e2⟩ ⟨-k2, by rw [Int.neg_mul_neg]; exact e3⟩ (by omega) (by omega)
    · have a0 : ¬ a < 0 := decF c
      exact ⟨_, rfl, q pa H1 a s' t' g ha (by omega) e1 ⟨k1, e2⟩ ⟨k2, e3⟩ (by omega) (by omega)⟩
theorem ok_either_way {f : Addr} {fd : FuncData} (F : Fun K "_law_either_way" "_law_either_way" s_either_way f fd) (T : Txt K mg t)  : FnOk P w K mg base CX0 1 f fd ["_law_cell", "_law_most"] (spEither) := by
  refine F.ok sc_either_way (fun vs H Q E h => ?_) (fun cdv A outer s H vs Q E hr h => ?_)
  · obtain ⟨x, y, rfl, _⟩ := h
    rfl
  obtain ⟨x, m, rfl, hx, m0, q⟩ := h
  refine ⟨_, pss_one (ps_ret (pe_op op_sub (pe_op op_modN (pe_op op_mulG (pv 0) (pe_op op_pow pe_int pe_int)) (pe_op op_add (pe_op op_mulG pe_int (pv 1)) pe_int)) (pv 1))), ?_⟩
  refine ⟨_, rfl, _, _, rfl, rfl, ⟨by decide, by decide, by decide⟩, _, _, rfl, rfl, ok40 hx, _, rfl, _, _, rfl, rfl, IntMulOk.of_left (intBits_le_64 (by decide) (by decide)), _, _, rfl, rfl, _, _, rfl, rfl, (by show 2 * m + 1 ≠ 0; omega), _, rfl, _, _, rfl, rfl, ?_⟩
  have h1 := Int.fmod_nonneg_of_pos (x * 32452843 ^ Int.toNat 40) (show 0 < 2 * m + 1 by omega)
  have h2 := Int.fmod_lt_of_pos (x * 32452843 ^ Int.toNat 40) (show 0 < 2 * m + 1 by omega)
  generalize (x * 32452843 ^ Int.toNat 40).fmod (2 * m + 1) = z at h1 h2
  exact q _ (by omega) (by omega)
theorem ok_init_NoJoin {f : Addr} {fd : FuncData} (F : Fun K "__init__" "NoJoin.__init__" s_init_NoJoin f fd) (T : Txt K mg t)  : FnOk P w K mg base CX0 1 f fd ["self", "shared"] (spIni t.c2 "shared") := by
  refine F.ok sc_init_NoJoin (fun vs H Q E h => ?_) (fun cdv A outer s H vs Q E hr h => ?_)
  · obtain ⟨_, _, rfl, _⟩ := h
    rfl
  obtain ⟨e, v, rfl, he, q⟩ := h
  refine ⟨_, pss_cons (ps_expr (pe_baseInit rfl T.m_CurveError T.y1 T.y2 T.y3 (pa_cons (pv 0) (pa_cons pe_str pa_nil)))) (pss_one (ps_excfld (pv 0) (pv 1) rfl)), ?_⟩
  refine ⟨_, rfl, e, t.c2, t.iNoJoin, _, rfl, he, T.x_NoJoin, ?_⟩
  refine ⟨_, rfl, _, rfl, e, t.c2, rfl, upd_same, T.set_NoJoin, fun dx hdx => ?_⟩
  have ne : dx ≠ e := fun z => by subst z; rw [upd_same] at hdx; cases hdx
  refine q dx _ upd_same (by rw [upd_ne ne]; exact upd_same) fun b o nb hb => ?_
  have bd : b ≠ dx := fun z => by subst z; rw [upd_ne nb] at hdx; rw [hdx] at hb; cases hb
  rw [upd_ne nb, upd_ne bd, upd_ne nb]
  exact hb
theorem ok_joined_rests {f : Addr} {fd : FuncData} (F : Fun K "joined_rests" "joined_rests" s_joined_rests f fd) (T : Txt K mg t) (H_shares_of : Has P w K mg base CX0 2 "shares_of" ["one", "other"] (spShares)) (H_init_NoJoin : HasI P w K mg base 1 t.iNoJoin ["self", "shared"] (spIni t.c2 "shared")) : FnOk P w K mg base (XD P w) 3 f fd ["r", "n", "s", "m"] (spJoin t.c2) := by
  obtain ⟨f_shares_of, d_shares_of, G_shares_of, b_shares_of, k_shares_of, m_shares_of⟩ := H_shares_of
  obtain ⟨d_init_NoJoin, G_init_NoJoin, b_init_NoJoin⟩ := H_init_NoJoin
  refine F.okD sc_joined_rests (fun vs H Q E h => ?_) (fun cdv A outer s H vs Q E hr h => ?_)
  · obtain ⟨_, _, _, _, rfl, _⟩ := h
    rfl
  obtain ⟨r, n, s, m, rfl, br, bn, bs, bm, n0, m0, q1, q2⟩ := h
  have hr_shares_of := hr.mono (show 2 ≤ 2 by decide)
  have hr_init_NoJoin := hr.mono (show 1 ≤ 2 by decide)
  refine ⟨_, pss_cons (PS.nox (ps_set (i := 4) sc_joined_rests.nd rfl (Or.inl rfl) (pe_call G_shares_of hr_shares_of rfl m_shares_of k_shares_of b_shares_of .nil pass0 (pa_cons (pv 1) (pa_cons (pv 3) pa_nil)))))
    (pss_cons (PS.nox (ps_set (i := 5) sc_joined_rests.nd rfl (Or.inl rfl) (pe_ix ix_tup (pv 4) pe_int (fun _ _ => rfl))))
    (pss_cons (ps_if (pt_cmpR op_ne (pe_op op_modN (pe_op op_sub (pv 2) (pv 0)) (pv 5)) pe_int (nomark _)) (pss_one (ps_raiseD T.mk_NoJoin G_init_NoJoin (hr.mono (show 1 + 1 ≤ 2 by decide)) b_init_NoJoin T.m_NoJoin rfl (pa_cons (pv 5) pa_nil))) pss_nil)
    (pss_cons (PS.nox (ps_set (i := 6) sc_joined_rests.nd rfl (Or.inl rfl) (pe_op op_mulG (pe_op op_fdivL (pv 1) (pv 5)) (pv 3))))
    (pss_cons (PS.nox (ps_set (i := 7) sc_joined_rests.nd rfl (Or.inl rfl) (pe_op op_fdivL (pe_op op_sub (pv 2) (pv 0)) (pv 5))))
    (pss_one (PS.nox (ps_ret (pe_tup (pa_cons (pe_op op_modN (pe_op op_add (pv 0) (pe_op op_mulG (pe_op op_mulG (pe_ix ix_tup (pv 4) pe_int (fun _ _ => rfl)) (pv 1)) (pv 7))) (pv 6)) (pa_cons (pv 6) pa_nil)))))))))), ?_⟩
  refine ⟨_, rfl, _, rfl, n, m, rfl, bn, bm, fun p H1 g u v g1 hp g0 eg d1 d2 b1 b2 => ?_⟩
  have G := gd_of n0 g0 eg d1 d2
  have gb := gd_le n0 G
  have gp := G.1
  refine ⟨_, rfl, p, _, _, _, rfl, rfl, SqT.of hp, rfl, ?_⟩
  refine ⟨_, rfl, _, rfl, _, _, rfl, rfl, _, rfl, _, _, rfl, rfl, (by omega), rfl, _, rfl, ite2 (fun c => ?_) (fun c => ?_)⟩
  · have gn : (s - r).fmod g ≠ 0 := fun z => neT c (congrArg V.int z)
    refine ⟨_, rfl, (by show 1 ≤ sizeLine; decide), fun e he => ⟨e, _, rfl, upd_same, fun dx H2 he2 hdx k => ⟨rfl, dx, he2, ?_⟩⟩⟩
    have ne : dx ≠ e := fun z => by subst z; rw [he2] at hdx; cases hdx
    refine q2 dx _ g (fun b o hb => ?_) (by rw [without_ne ne]; exact hdx) G gn
    have hb1 := g1 b o hb
    have nb := ne_of_none hb1 he
    rw [without_ne nb]
    exact k b o nb (by rw [upd_ne nb]; exact hb1)
  · have gz : (s - r).fmod g = 0 := int_inj (neF c)
    obtain ⟨J, l0⟩ := jn_of n0 m0 gp eg d1 d2 gz
    have fl := Lm_log (x := g) (by omega)
    have fn := fdiv_abs gp (dvd_fmod G.2.1)
    have fs := fdiv_abs gp gz
    refine ⟨_, rfl, _, rfl, _, _, rfl, rfl, ⟨by omega, fl⟩, _, rfl, _, _, rfl, rfl, mulL (by omega) (by omega), ?_⟩
    refine ⟨_, rfl, _, rfl, _, _, rfl, rfl, _, rfl, _, _, rfl, rfl, ⟨by omega, fl⟩, ?_⟩
    refine ⟨_, rfl, _, rfl, p, _, _, _, rfl, rfl, SqT.of hp, rfl, ?_⟩
    refine ⟨_, rfl, _, _, rfl, rfl, mulL b1 (by omega), _, rfl, _, _, rfl, rfl, mul3 b1 (by omega) (by omega), _, _, rfl, rfl, _, rfl, _, _, rfl, rfl, (by omega), ?_⟩
    refine ⟨_, rfl, (by show 2 ≤ sizeLine; decide), fun p2 hp2 => ?_⟩
    exact q1 p2 _ _ _ g (g1.trans (same_new hp2 _)) G gz J upd_same
theorem ok_shared {f : Addr} {fd : FuncData} (F : Fun K "_law_shared" "_law_shared" s_shared f fd) (T : Txt K mg t)  : FnOk P w K mg base CX0 1 f fd ["_law_one", "_law_other"] (spShared) := by
  refine F.ok sc_shared (fun vs H Q E h => ?_) (fun cdv A outer s H vs Q E hr h => ?_)
  · obtain ⟨_, _, rfl, _⟩ := h
    rfl
  obtain ⟨x, y, rfl, x0, y0, q⟩ := h
  refine ⟨_, pss_cons (ps_while PassesOwn.never (pt_cmpR op_ne (pv 1) pe_int (nomark _)) (pss_one (ps_par (i := 0) (j := 1) rfl sc_shared.nd rfl rfl (by decide) rfl rfl (pa_cons (pv 1) (pa_cons (pe_op op_mod (pv 0) (pv 1)) pa_nil)) rfl)))
    (pss_one (ps_ret (pv 0))), ?_⟩
  refine ⟨fun m σ H' => ∃ (f o : Int), σ = [some (.int f), some (.int o)] ∧ H = H' ∧ 0 ≤ f ∧ 0 ≤ o ∧ (∀ d : Int, (d ∣ f ∧ d ∣ o) ↔ (d ∣ x ∧ d ∣ y)) ∧ m = o.toNat, ⟨_, _, _, rfl, rfl, Int.le_of_lt x0, y0, fun d => Iff.rfl, rfl⟩, ?_⟩
  rintro m σ H1 ⟨f, o, rfl, rfl, f0, o0, hd, rfl⟩
  refine ⟨_, rfl, rfl, _, rfl, ite2 (fun c => ?_) (fun c => ?_)⟩
  · have on : o ≠ 0 := fun zz => neT c (congrArg V.int zz)
    have op : 0 < o := by omega
    have r0 := Int.emod_nonneg f on
    have r1 := Int.emod_lt_of_pos f op
    refine ⟨fun σ' H2 => σ' = [some (.int o), some (.int (f % o))] ∧ H = H2, ?_, ?_⟩
    · rintro σ' H2 ⟨rfl, rfl⟩
      exact ⟨(f % o).toNat, by omega, o, f % o, rfl, rfl, o0, r0, fun d => (mod_dvd d).trans (hd d), rfl⟩
    · exact ⟨_, rfl, _, rfl, _, rfl, _, _, rfl, rfl, op, _, _, rfl, rfl, rfl⟩
  · have on : o = 0 := int_inj (neF c)
    subst on
    have hs := (hd f).mp ⟨Int.dvd_refl f, Int.dvd_zero f⟩
    have f1 : 0 < f := by
      rcases Int.lt_or_le 0 f with h | h
      · exact h
      · obtain ⟨k, e⟩ := hs.1
        have z : f = 0 := by omega
        rw [z, Int.zero_mul] at e
        omega
    exact ⟨_, rfl, q f ⟨f1, hs.1, hs.2, fun d d1 d2 => ((hd d).mpr ⟨d1, d2⟩).1⟩⟩
theorem ok_told {f : Addr} {fd : FuncData} (F : Fun K "_law_told" "_law_told" s_told f fd) (T : Txt K mg t) (H_joined_rests : Has P w K mg base (XD P w) 3 "joined_rests" ["r", "n", "s", "m"] (spJoin t.c2)) (H_alone : HasQ P w K mg base 1 "_law_alone" ["_law_e"] (spAloneD t.c2)) : FnOk P w K mg base CX0 4 f fd ["_law_r", "_law_n", "_law_s", "_law_m"] (spTold) := by
  obtain ⟨f_joined_rests, d_joined_rests, G_joined_rests, b_joined_rests, k_joined_rests, m_joined_rests⟩ := H_joined_rests
  obtain ⟨f_alone, d_alone, G_alone, b_alone, k_alone, m_alone⟩ := H_alone
  refine F.ok sc_told (fun vs H Q E h => ?_) (fun cdv A outer s H vs Q E hr h => ?_)
  · obtain ⟨_, _, _, _, rfl, _⟩ := h
    rfl
  obtain ⟨r, n, s, m, rfl, br, bn, bs, bm, n0, m0, q1, q2⟩ := h
  have hr_joined_rests := hr.mono (show 3 ≤ 3 by decide)
  have hq1 := (hr.q.mono (show 1 ≤ 3 by decide))
  refine ⟨_, pss_cons (ps_tryTup (iy := 5) (i := 4) G_joined_rests hr_joined_rests rfl m_joined_rests k_joined_rests b_joined_rests (pa_cons (pv 0) (pa_cons (pv 1) (pa_cons (pv 2) (pa_cons (pv 3) pa_nil)))) T.m_NoJoin rfl T.x_NoJoin sc_told.nd rfl rfl rfl rfl
      (fun ea => pss_one (ps_set (i := 5) sc_told.nd rfl (Or.inl rfl) (pe_tup (pa_cons pe_str (pa_cons (pe_xfld K (pv 4)) (pa_cons (pe_callQ G_alone (hq1.mark _) rfl m_alone k_alone b_alone .nil (pa_cons (pv 4) pa_nil)) pa_nil)))))))
    (pss_one (ps_ret (pv 5))), ?_⟩
  refine ⟨_, rfl, _, rfl, _, rfl, _, rfl, r, n, s, m, rfl, br, bn, bs, bm, n0, m0, fun p' H1 x l g g1 G gz J hp' p hp => ?_, fun dx H1 g g1 hdx G gn => ⟨dx, rfl, rfl, fun e he => ?_⟩⟩
  · exact ⟨_, rfl, q1 p p' _ x l g (g1.trans (same_new hp _)) G gz J (same_new hp _ _ _ hp') upd_same⟩
  · have g2 := same_new he (.ext (ExcD t.c2 e dx))
    refine ⟨_, rfl, e, t.c2, dx, _, _, rfl, upd_same, g2 _ _ hdx, T.fld_NoJoin, rfl, ?_⟩
    refine ⟨_, rfl, e, dx, rfl, upd_same, fun H3 g3 => ⟨by show 3 ≤ sizeLine; decide, fun p hp => ?_⟩⟩
    exact ⟨_, rfl, q2 p _ g (g1.trans (g2.trans (g3.trans (same_new hp _)))) G gn upd_same⟩
theorem ok_law {f : Addr} {fd : FuncData} (F : Fun K "law" "law" s_law f fd) (T : Txt K mg t) (H_cell_at : Has P w K mg base CX0 1 "_law_cell_at" ["_law_script", "_law_k"] (spCell K)) (H_either_way : Has P w K mg base CX0 1 "_law_either_way" ["_law_cell", "_law_most"] (spEither)) (H_shared : Has P w K mg base CX0 1 "_law_shared" ["_law_one", "_law_other"] (spShared)) (H_told : Has P w K mg base CX0 4 "_law_told" ["_law_r", "_law_n", "_law_s", "_law_m"] (spTold)) (H_whole : Has P w K mg base CX0 1 "_law_whole" ["_law_found"] (spWhole)) : FnOk P w K mg base CX0 5 f fd ["_law_script"] (spLaw K) := by
  obtain ⟨f_cell_at, d_cell_at, G_cell_at, b_cell_at, k_cell_at, m_cell_at⟩ := H_cell_at
  obtain ⟨f_either_way, d_either_way, G_either_way, b_either_way, k_either_way, m_either_way⟩ := H_either_way
  obtain ⟨f_shared, d_shared, G_shared, b_shared, k_shared, m_shared⟩ := H_shared
  obtain ⟨f_told, d_told, G_told, b_told, k_told, m_told⟩ := H_told
  obtain ⟨f_whole, d_whole, G_whole, b_whole, k_whole, m_whole⟩ := H_whole
  refine F.ok sc_law (fun vs H Q E h => ?_) (fun cdv A outer s H vs Q E hr h => ?_)
  · obtain ⟨a, ns, rfl, _⟩ := h
    rfl
  obtain ⟨a, ns, rfl, hS, h63, hb, q⟩ := h
  have hu64 := hu64_of hr
  have hr_cell_at := hr.mono (show 1 ≤ 4 by decide)
  have hr_either_way := hr.mono (show 1 ≤ 4 by decide)
  have hr_shared := hr.mono (show 1 ≤ 4 by decide)
  have hr_told := hr.mono (show 4 ≤ 4 by decide)
  have hr_whole := hr.mono (show 1 ≤ 4 by decide)
  refine ⟨_, pss_cons (ps_set (i := 1) sc_law.nd rfl (Or.inl rfl) (pe_call G_cell_at hr_cell_at rfl m_cell_at k_cell_at b_cell_at .nil pass0 (pa_cons (pv 0) (pa_cons pe_int pa_nil))))
    (pss_cons (ps_set (i := 2) sc_law.nd rfl (Or.inl rfl) (pe_op op_add pe_int (pe_op op_mod (pe_op op_mod (pe_op op_mulG (pe_call G_cell_at hr_cell_at rfl m_cell_at k_cell_at b_cell_at .nil pass0 (pa_cons (pv 0) (pa_cons pe_int pa_nil))) pe_int) pe_int) pe_int)))
    (pss_cons (ps_set (i := 3) sc_law.nd rfl (Or.inl rfl) (pe_op op_add pe_int (pe_op op_mod (pe_op op_mod (pe_op op_mulG (pe_call G_cell_at hr_cell_at rfl m_cell_at k_cell_at b_cell_at .nil pass0 (pa_cons (pv 0) (pa_cons pe_int pa_nil))) pe_int) pe_int) pe_int)))
    (pss_cut (ps_if (pt_cmpR op_eq (pe_op op_mod (pv 1) pe_int) pe_int (nomark _)) (pss_cons (ps_set (i := 2) sc_law.nd rfl (Or.inl rfl) (pe_op op_add pe_int (pe_op op_modN (pe_op op_mulG (pe_call G_cell_at hr_cell_at rfl m_cell_at k_cell_at b_cell_at .nil pass0 (pa_cons (pv 0) (pa_cons pe_int pa_nil))) (pe_op op_pow pe_int pe_int)) (pe_op op_mulG (pe_op op_pow pe_int pe_int) (pe_op op_pow pe_int pe_int)))))
    (pss_one (ps_set (i := 3) sc_law.nd rfl (Or.inl rfl) (pe_op op_add pe_int (pe_op op_modN (pe_op op_mulG (pe_call G_cell_at hr_cell_at rfl m_cell_at k_cell_at b_cell_at .nil pass0 (pa_cons (pv 0) (pa_cons pe_int pa_nil))) (pe_op op_pow pe_int pe_int)) (pe_op op_mulG (pe_op op_pow pe_int pe_int) (pe_op op_pow pe_int pe_int))))))) pss_nil)
    (pss_cons (ps_set (i := 4) sc_law.nd rfl (Or.inl rfl) (pe_op op_add pe_int (pe_op op_mod (pe_op op_mod (pe_op op_mulG (pe_call G_cell_at hr_cell_at rfl m_cell_at k_cell_at b_cell_at .nil pass0 (pa_cons (pv 0) (pa_cons pe_int pa_nil))) pe_int) pe_int) pe_int)))
    (pss_cons (ps_set (i := 2) sc_law.nd rfl (Or.inl rfl) (pe_op op_mulG (pv 2) (pv 4)))
    (pss_cut (ps_set (i := 3) sc_law.nd rfl (Or.inl rfl) (pe_op op_mulG (pv 3) (pv 4)))
    (pss_cons (ps_set (i := 5) sc_law.nd rfl (Or.inl rfl) (pe_call G_shared hr_shared rfl m_shared k_shared b_shared .nil pass0 (pa_cons (pv 2) (pa_cons (pv 3) pa_nil))))
    (pss_cons (ps_set (i := 6) sc_law.nd rfl (Or.inl rfl) (pe_call G_either_way hr_either_way rfl m_either_way k_either_way b_either_way .nil pass0 (pa_cons (pe_call G_cell_at hr_cell_at rfl m_cell_at k_cell_at b_cell_at .nil pass0 (pa_cons (pv 0) (pa_cons pe_int pa_nil))) (pa_cons (pe_op op_pow pe_int pe_int) pa_nil))))
    (pss_cons (ps_set (i := 7) sc_law.nd rfl (Or.inl rfl) (pe_call G_either_way hr_either_way rfl m_either_way k_either_way b_either_way .nil pass0 (pa_cons (pe_op op_mulG (pe_call G_cell_at hr_cell_at rfl m_cell_at k_cell_at b_cell_at .nil pass0 (pa_cons (pv 0) (pa_cons pe_int pa_nil))) pe_int) (pa_cons (pe_op op_pow pe_int pe_int) pa_nil))))
    (pss_cut (ps_if (pt_cmpR op_gt (pe_op op_mod (pe_op op_fdiv (pv 1) pe_int) pe_int) pe_int (nomark _)) (pss_one (ps_set (i := 7) sc_law.nd rfl (Or.inl rfl) (pe_op op_add (pv 6) (pe_op op_mulG (pv 5) (pe_op op_sub (pe_op op_mod (pe_call G_cell_at hr_cell_at rfl m_cell_at k_cell_at b_cell_at .nil pass0 (pa_cons (pv 0) (pa_cons pe_int pa_nil))) pe_int) pe_int))))) pss_nil)
    (pss_cons (ps_set (i := 8) sc_law.nd rfl (Or.inl rfl) (pe_call G_told hr_told rfl m_told k_told b_told .nil pass0 (pa_cons (pv 6) (pa_cons (pv 2) (pa_cons (pv 7) (pa_cons (pv 3) pa_nil))))))
    (pss_cons (ps_if (pt_cmpR op_ne (pe_op op_modN (pe_op op_sub (pv 6) (pv 7)) (pv 5)) pe_int (nomark _)) (pss_one (ps_ret (pe_cmpR (op_eqD hu64) (pv 8) (pe_tup (pa_cons pe_str (pa_cons (pv 5) (pa_cons pe_bl pa_nil)))) (nomark _)))) pss_nil)
    (pss_cons (ps_if (PW.pt (pw_or (pt_cmpR op_ne (pe_ix ix_tup (pv 8) pe_int (fun _ _ => rfl)) pe_str (nomark _)) (pw_or (pt_not (pt_val (pe_callB call_isi rfl T.z_isinstance b_isi (pa_cons (pe_ix ix_tup (pv 8) pe_int (fun _ _ => rfl)) (pa_cons (pe_bltn (v := .ty "tuple") rfl T.z_tuple b_tuple rfl) pa_nil))) (fun _ => rfl))) (pw_or1 (pt_cmpR op_ne (pe_callB call_len_seq rfl T.z_len PySem.boot_len (pa_cons (pe_ix ix_tup (pv 8) pe_int (fun _ _ => rfl)) pa_nil)) pe_int (nomark _)))))) (pss_one (ps_ret pe_bl)) pss_nil)
    (pss_cons (ps_asg (pe_ix ix_tup (pv 8) pe_int (fun _ _ => rfl)) (pg_tup rfl (pgs_cons (pg_name (i := 9) sc_law.nd rfl (Or.inl rfl)) (pgs_cons (pg_name (i := 10) sc_law.nd rfl (Or.inl rfl)) pgs_nil))))
    (pss_cons (ps_if (PW.pt (pw_or (pt_not (pt_val (pe_call G_whole hr_whole rfl m_whole k_whole b_whole .nil pass0 (pa_cons (pv 9) pa_nil)) (fun _ => rfl))) (pw_or (pt_not (pt_val (pe_call G_whole hr_whole rfl m_whole k_whole b_whole .nil pass0 (pa_cons (pv 10) pa_nil)) (fun _ => rfl))) (pw_or1 (pt_cmpR op_ne (pv 10) (pe_op op_mulG (pe_op op_fdivL (pv 2) (pv 5)) (pv 3)) (nomark _)))))) (pss_one (ps_ret pe_bl)) pss_nil)
    (pss_one (ps_ret (pe_and (pe_chain op_le op_lt pe_int (pv 9) (pv 10)) (pe_and (pe_cmpR op_eq (pe_op op_modN (pe_op op_sub (pv 9) (pv 6)) (pv 2)) pe_int (nomark _)) (pe_one (pe_cmpR op_eq (pe_op op_modN (pe_op op_sub (pv 9) (pv 7)) (pv 3)) pe_int (nomark _)))))))))))))))))))))), ?_⟩
  have bg := fun k => bits_getD hb k
  refine ⟨_, rfl, a, ns, _, rfl, hS, by decide, ?_⟩
  refine ⟨_, rfl, a, ns, _, rfl, hS, by decide, _, _, rfl, rfl, mulS (by decide) (by decide), _, _, rfl, rfl, (by show (0 : Int) < 1000000007; decide), _, _, rfl, rfl, (by show (0 : Int) < 90; decide), _, _, rfl, rfl, ?_⟩
  refine ⟨_, rfl, a, ns, _, rfl, hS, by decide, _, _, rfl, rfl, mulS (by decide) (by decide), _, _, rfl, rfl, (by show (0 : Int) < 998244353; decide), _, _, rfl, rfl, (by show (0 : Int) < 90; decide), _, _, rfl, rfl, ?_⟩
  refine ⟨fun σ' H' => ∃ (n m : Int), σ' = [some (.ref a), some (.int (ns.getD (5 : Int).toNat 0)), some (.int n), some (.int m), none, none, none, none, none, none, none] ∧ H = H' ∧ 0 < n ∧ n.natAbs ≤ Qt ∧ 0 < m ∧ m.natAbs ≤ Qt, ?_, ?_⟩
  · refine ⟨_, rfl, _, _, rfl, rfl, (by show (0 : Int) < 2; decide), rfl, _, rfl, ?_⟩
    refine ite2 (fun c => ?_) (fun c => ?_)
    · refine ⟨_, rfl, a, ns, _, rfl, hS, by decide, _, _, rfl, rfl, ⟨by decide, by decide, by decide⟩, _, _, rfl, rfl, ok11 (bg _), _, _, rfl, rfl, ⟨by decide, by decide, by decide⟩, _, _, rfl, rfl, ⟨by decide, by decide, by decide⟩, _, _, rfl, rfl, ok70, _, M70, rfl, rfl, (Int.ne_of_gt M70_p), _, _, rfl, rfl, ?_⟩
      refine ⟨_, rfl, a, ns, _, rfl, hS, by decide, _, _, rfl, rfl, ⟨by decide, by decide, by decide⟩, _, _, rfl, rfl, ok11b (bg _), _, _, rfl, rfl, ⟨by decide, by decide, by decide⟩, _, _, rfl, rfl, ⟨by decide, by decide, by decide⟩, _, _, rfl, rfl, ok70, _, M70, rfl, rfl, (Int.ne_of_gt M70_p), _, _, rfl, rfl, ?_⟩
      have h1 := Int.fmod_nonneg_of_pos (ns.getD (0 : Int).toNat 0 * 49979687 ^ Int.toNat 11) M70_p
      have h2 := Int.fmod_lt_of_pos (ns.getD (0 : Int).toNat 0 * 49979687 ^ Int.toNat 11) M70_p
      have h3 := Int.fmod_nonneg_of_pos (ns.getD (1 : Int).toNat 0 * 67867967 ^ Int.toNat 11) M70_p
      have h4 := Int.fmod_lt_of_pos (ns.getD (1 : Int).toNat 0 * 67867967 ^ Int.toNat 11) M70_p
      refine ⟨_, _, rfl, rfl, ?_⟩
      have mb := M70_l1
      generalize (ns.getD (0 : Int).toNat 0 * 49979687 ^ Int.toNat 11).fmod M70 = z at h1 h2
      generalize (ns.getD (1 : Int).toNat 0 * 67867967 ^ Int.toNat 11).fmod M70 = z' at h3 h4
      generalize M70 = M at mb h1 h2 h3 h4
      exact ⟨by omega, by omega, by omega, by omega⟩
    · have x0 := Int.emod_nonneg (ns.getD (0 : Int).toNat 0 * 49979687 % 1000000007) (show (90 : Int) ≠ 0 by decide)
      have x1 := Int.emod_lt_of_pos (ns.getD (0 : Int).toNat 0 * 49979687 % 1000000007) (show (0 : Int) < 90 by decide)
      have y0 := Int.emod_nonneg (ns.getD (1 : Int).toNat 0 * 67867967 % 998244353) (show (90 : Int) ≠ 0 by decide)
      have y1 := Int.emod_lt_of_pos (ns.getD (1 : Int).toNat 0 * 67867967 % 998244353) (show (0 : Int) < 90 by decide)
      have rb := Qt_big
      exact ⟨_, _, rfl, rfl, by omega, by omega, by omega, by omega⟩
  rintro _ _ ⟨n, m, rfl, rfl, n0, bn, m0, bm⟩
  refine ⟨_, rfl, a, ns, _, rfl, hS, by decide, _, _, rfl, rfl, mulS (by decide) (by decide), _, _, rfl, rfl, (by show (0 : Int) < 1000000009; decide), _, _, rfl, rfl, (by show (0 : Int) < 40; decide), _, _, rfl, rfl, ?_⟩
  have y0 := Int.emod_nonneg (ns.getD (2 : Int).toNat 0 * 86028121 % 1000000009) (show (40 : Int) ≠ 0 by decide)
  have y1 := Int.emod_lt_of_pos (ns.getD (2 : Int).toNat 0 * 86028121 % 1000000009) (show (0 : Int) < 40 by decide)
  have ql := Qt_Rt
  have rl := Rt_Lm1
  have qb := Qt_big
  have k0 : 0 < 1 + ns.getD (2 : Int).toNat 0 * 86028121 % 1000000009 % 40 := by omega
  have kb : (1 + ns.getD (2 : Int).toNat 0 * 86028121 % 1000000009 % 40).natAbs ≤ 10000000 := by omega
  have kl : (1 + ns.getD (2 : Int).toNat 0 * 86028121 % 1000000009 % 40).natAbs ≤ 8 * Lm := by omega
  refine ⟨_, rfl, _, rfl, _, _, rfl, rfl, mulL (by omega) kl, ?_⟩
  refine ⟨fun σ' H' => ∃ (N M k : Int), σ' = [some (.ref a), some (.int (ns.getD (5 : Int).toNat 0)), some (.int N), some (.int M), some (.int k), none, none, none, none, none, none] ∧ H = H' ∧ 0 < N ∧ N.natAbs ≤ Rt ∧ 0 < M ∧ M.natAbs ≤ Rt, ?_, ?_⟩
  · exact ⟨_, rfl, _, rfl, _, _, rfl, rfl, mulL (by omega) kl, _, _, _, rfl, rfl, Int.mul_pos n0 k0, Qt_L bn kb, Int.mul_pos m0 k0, Qt_L bm kb⟩
  clear y0 y1 k0 kb kl n0 bn m0 bm n m
  rintro _ _ ⟨N, M, k, rfl, rfl, n0', bn', m0', bm'⟩
  refine ⟨_, rfl, _, rfl, N, M, rfl, n0', Int.le_of_lt m0', fun g G => ?_⟩
  have gb := gd_le n0' G
  have gp := G.1
  refine ⟨_, rfl, a, ns, _, rfl, hS, by decide, _, _, rfl, rfl, ⟨by decide, by decide, by decide⟩, _, M60, rfl, Nat.le_trans (bg _) (by decide), M60_p, fun r r0 r1 => ?_⟩
  refine ⟨_, rfl, a, ns, _, rfl, hS, by decide, _, _, rfl, rfl, mulS (by decide) (by decide), _, _, rfl, rfl, ⟨by decide, by decide, by decide⟩, _, M60, rfl, bits26 (bg _), M60_p, fun s s0 s1 => ?_⟩
  have mb := M60_l1
  have br : r.natAbs ≤ Qt := by
    clear bg hb
    generalize M60 = Z at *
    omega
  have bs : s.natAbs ≤ Qt := by
    clear bg hb
    generalize M60 = Z at *
    omega
  clear mb s0 s1 r0 r1
  refine ⟨fun σ' H' => ∃ (s : Int), σ' = [some (.ref a), some (.int (ns.getD (5 : Int).toNat 0)), some (.int N), some (.int M), some (.int k), some (.int g), some (.int r), some (.int s), none, none, none] ∧ H = H' ∧ s.natAbs ≤ Lm, ?_, ?_⟩
  · refine ⟨_, rfl, _, _, rfl, rfl, ⟨by decide, by decide⟩, _, _, rfl, rfl, (by show (0 : Int) < 3; decide), _, _, rfl, rfl, _, rfl, ?_⟩
    refine ite2 (fun c => ?_) (fun c => ?_)
    · have z0 := Int.emod_nonneg (ns.getD (4 : Int).toNat 0) (show (2000001 : Int) ≠ 0 by decide)
      have z1 := Int.emod_lt_of_pos (ns.getD (4 : Int).toNat 0) (show (0 : Int) < 2000001 by decide)
      have zb : (ns.getD (4 : Int).toNat 0 % 2000001 - 1000000).natAbs ≤ 10000000 := by omega
      have lb := Lm_big
      have gz := Rt_L (x := g) (by omega) zb
      refine ⟨_, rfl, _, rfl, _, rfl, a, ns, _, rfl, hS, by decide, _, _, rfl, rfl, (by show (0 : Int) < 2000001; decide), _, _, rfl, rfl, _, _, rfl, rfl, mulL (by omega) (by omega), _, _, rfl, rfl, ?_⟩
      exact ⟨_, rfl, rfl, by omega⟩
    · exact ⟨s, rfl, rfl, by omega⟩
  clear bs s
  rintro _ _ ⟨s, rfl, rfl, bs⟩
  refine ⟨_, rfl, _, rfl, _, rfl, _, rfl, r, N, s, M, rfl, by omega, by omega, bs, by omega, n0', m0', fun p p' H1 x l g' g1 G' gz J hp' hp => ?_, fun p H1 g' g1 G' gn hp => ?_⟩
  · have ge := gd_same G G'
    subst ge
    obtain ⟨jl, j0, j1, jn, jm⟩ := J
    refine ⟨_, rfl, _, rfl, _, _, rfl, rfl, _, rfl, _, _, rfl, rfl, (by omega), rfl, _, rfl, iteNS (congrArg V.int (fmod_flip.mpr gz)) ?_⟩
    refine ⟨_, rfl, p, _, _, _, rfl, rfl, SqT.of hp, rfl, rfl, _, rfl, iteNS rfl ?_⟩
    refine ⟨_, rfl, p, _, _, _, rfl, rfl, SqT.of hp, rfl, _, _, _, _, rfl, .inr ⟨_, rfl⟩, .of (.tup hp'), rfl, _, rfl, iteF ?_⟩
    refine ⟨_, rfl, p, _, _, _, rfl, rfl, SqT.of hp, rfl, p', _, rfl, .inr (SqT.of hp'), rfl, _, rfl, iteNS rfl ?_⟩
    refine ⟨_, rfl, p, _, _, _, rfl, rfl, SqT.of hp, rfl, p', _, rfl, SqT.of hp', rfl, _, _, rfl, _, _, rfl, rfl, ?_⟩
    refine ⟨_, rfl, _, rfl, _, rfl, iteF ?_⟩
    refine ⟨_, rfl, _, rfl, _, rfl, iteF ?_⟩
    have fn := fdiv_abs gp (dvd_fmod G.2.1)
    refine ⟨_, rfl, _, rfl, _, rfl, _, _, rfl, rfl, ⟨by omega, Lm_log (by omega)⟩, _, rfl, _, _, rfl, rfl, mulL (by omega) (by omega), rfl, _, rfl, iteNS (congrArg V.int jl) ?_⟩
    refine ⟨_, rfl, _, _, rfl, rfl, _, rfl, iteDT j0 ⟨_, rfl, _, _, rfl, rfl, _, rfl, iteDT j1 ?_⟩⟩
    refine ⟨_, rfl, _, rfl, _, _, rfl, rfl, _, rfl, _, _, rfl, rfl, (by omega), rfl, _, rfl, iteDT (congrArg V.int (dvd_fmod jn)) ?_⟩
    refine ⟨_, rfl, _, rfl, _, _, rfl, rfl, _, rfl, _, _, rfl, rfl, (by omega), rfl, ?_⟩
    have d : Q (.bl (decide (V.int ((x - s).fmod M) = V.int 0))) H1 := by
      rw [decide_eq_true (congrArg V.int (dvd_fmod jm))]
      exact q _
    exact d
  · have ge := gd_same G G'
    subst ge
    refine ⟨_, rfl, _, rfl, _, _, rfl, rfl, _, rfl, _, _, rfl, rfl, (by omega), rfl, _, rfl, ite2 (fun c => ?_) (fun c => absurd (fmod_flip.mp (int_inj (neF c))) gn)⟩
    refine ⟨_, rfl, _, rfl, (by show 3 ≤ sizeLine; decide), fun p2 hp2 => ⟨_, _, .tup (same_new hp2 _ _ _ hp) (.cons .str (.cons .int (.cons .bl .nil))), .tup upd_same (.cons .str (.cons .int (.cons .bl .nil))), sh3, sh3, ?_⟩⟩
    rw [eqv3]
    exact q _

end
theorem all_mk {l : PySem.W.OpenLaw} {w : World} {K : PySem.W.Frag} {h : Heap} {mg : Str → Option Value} {fa qce qc0 qc1 qc2 qc3 qc4 qc5 qc6 qc7 qc8 qc9 qc10 qc11 qc12 qc13 qc14 qiNoJoin : Addr} (X : K.In h) (G : h.Ns mainGlobals mg) (hfa : mg "law" = some (.ref fa))
    {f1 f2 f4 f5 f6 f7 f8 f9 f10 f11 : Addr} {od1 an1 od2 an2 od3 an3 od4 an4 od5 an5 od6 an6 od7 an7 od8 an8 od9 an9 od10 an10 od11 an11 : Option Addr} {sl1 sl2 sl3 sl4 sl5 sl6 sl7 sl8 sl9 sl10 sl11 : Array (Option Value)} {oc1 kV1 dc1 pm1 cd1 ct1 oc2 kV2 dc2 pm2 cd2 ct2 oc3 kV3 dc3 pm3 cd3 ct3 oc4 kV4 dc4 pm4 cd4 ct4 oc5 kV5 dc5 pm5 cd5 ct5 oc6 kV6 dc6 pm6 cd6 ct6 oc7 kV7 dc7 pm7 cd7 ct7 oc8 kV8 dc8 pm8 cd8 ct8 oc9 kV9 dc9 pm9 cd9 ct9 oc10 kV10 dc10 pm10 cd10 ct10 oc11 kV11 dc11 pm11 cd11 ct11 : Value}
    (a1 : PySem.W.nsIn K mainGlobals "row_less" = some (some (.ref f1))) (l1 : K.lookup f1 = some ⟨oc1, od1, .func (PySem.W.fnOf "row_less" "row_less" (defArgs s_row_less) (defBody s_row_less) (defScope s_row_less) .none kV1 dc1 pm1 an1 cd1 ct1), sl1⟩) (g1 : PySem.W.codeIn K cd1 "row_less" = true) (k1 : PySem.W.keepIn K (.ref f1) = true)
    (a2 : PySem.W.nsIn K mainGlobals "shares_of" = some (some (.ref f2))) (l2 : K.lookup f2 = some ⟨oc2, od2, .func (PySem.W.fnOf "shares_of" "shares_of" (defArgs s_shares_of) (defBody s_shares_of) (defScope s_shares_of) .none kV2 dc2 pm2 an2 cd2 ct2), sl2⟩) (g2 : PySem.W.codeIn K cd2 "shares_of" = true) (k2 : PySem.W.keepIn K (.ref f2) = true)
    {ocC3 : Value} {odC3 : Option Addr} {slC3 : Array (Option Value)} {nmC3 qnC3 : Str} {bsC3 mrC3 suC3 : List Value} {nsC3 : Addr} {hdC3 abC3 dlC3 : Bool} {snC3 : List Str} {coC3 : Option Bool}
    (o3 : K.lookup qc2 = some ⟨ocC3, odC3, .cls ⟨nmC3, bsC3, mrC3, nsC3, qnC3, hdC3, snC3, suC3, abC3, coC3, dlC3⟩, slC3⟩)
    (a3 : PySem.W.nsIn K nsC3 "__init__" = some (some (.ref qiNoJoin))) (l3 : K.lookup qiNoJoin = some ⟨oc3, od3, .func (PySem.W.fnOf "__init__" "NoJoin.__init__" (defArgs s_init_NoJoin) (defBody s_init_NoJoin) (defScope s_init_NoJoin) .none kV3 dc3 pm3 an3 cd3 ct3), sl3⟩) (g3 : PySem.W.codeIn K cd3 "NoJoin.__init__" = true) (k3 : PySem.W.keepIn K (.ref qiNoJoin) = true)
    (a4 : PySem.W.nsIn K mainGlobals "joined_rests" = some (some (.ref f4))) (l4 : K.lookup f4 = some ⟨oc4, od4, .func (PySem.W.fnOf "joined_rests" "joined_rests" (defArgs s_joined_rests) (defBody s_joined_rests) (defScope s_joined_rests) .none kV4 dc4 pm4 an4 cd4 ct4), sl4⟩) (g4 : PySem.W.codeIn K cd4 "joined_rests" = true) (k4 : PySem.W.keepIn K (.ref f4) = true)
    (a5 : PySem.W.nsIn K mainGlobals "_law_cell_at" = some (some (.ref f5))) (l5 : K.lookup f5 = some ⟨oc5, od5, .func (PySem.W.fnOf "_law_cell_at" "_law_cell_at" (defArgs s_cell_at) (defBody s_cell_at) (defScope s_cell_at) .none kV5 dc5 pm5 an5 cd5 ct5), sl5⟩) (g5 : PySem.W.codeIn K cd5 "_law_cell_at" = true) (k5 : PySem.W.keepIn K (.ref f5) = true)
    (a6 : PySem.W.nsIn K mainGlobals "_law_whole" = some (some (.ref f6))) (l6 : K.lookup f6 = some ⟨oc6, od6, .func (PySem.W.fnOf "_law_whole" "_law_whole" (defArgs s_whole) (defBody s_whole) (defScope s_whole) .none kV6 dc6 pm6 an6 cd6 ct6), sl6⟩) (g6 : PySem.W.codeIn K cd6 "_law_whole" = true) (k6 : PySem.W.keepIn K (.ref f6) = true)
    (a7 : PySem.W.nsIn K mainGlobals "_law_either_way" = some (some (.ref f7))) (l7 : K.lookup f7 = some ⟨oc7, od7, .func (PySem.W.fnOf "_law_either_way" "_law_either_way" (defArgs s_either_way) (defBody s_either_way) (defScope s_either_way) .none kV7 dc7 pm7 an7 cd7 ct7), sl7⟩) (g7 : PySem.W.codeIn K cd7 "_law_either_way" = true) (k7 : PySem.W.keepIn K (.ref f7) = true)
    (a8 : PySem.W.nsIn K mainGlobals "_law_alone" = some (some (.ref f8))) (l8 : K.lookup f8 = some ⟨oc8, od8, .func (PySem.W.fnOf "_law_alone" "_law_alone" (defArgs s_alone) (defBody s_alone) (defScope s_alone) .none kV8 dc8 pm8 an8 cd8 ct8), sl8⟩) (g8 : PySem.W.codeIn K cd8 "_law_alone" = true) (k8 : PySem.W.keepIn K (.ref f8) = true)
    (a9 : PySem.W.nsIn K mainGlobals "_law_shared" = some (some (.ref f9))) (l9 : K.lookup f9 = some ⟨oc9, od9, .func (PySem.W.fnOf "_law_shared" "_law_shared" (defArgs s_shared) (defBody s_shared) (defScope s_shared) .none kV9 dc9 pm9 an9 cd9 ct9), sl9⟩) (g9 : PySem.W.codeIn K cd9 "_law_shared" = true) (k9 : PySem.W.keepIn K (.ref f9) = true)
    (a10 : PySem.W.nsIn K mainGlobals "_law_told" = some (some (.ref f10))) (l10 : K.lookup f10 = some ⟨oc10, od10, .func (PySem.W.fnOf "_law_told" "_law_told" (defArgs s_told) (defBody s_told) (defScope s_told) .none kV10 dc10 pm10 an10 cd10 ct10), sl10⟩) (g10 : PySem.W.codeIn K cd10 "_law_told" = true) (k10 : PySem.W.keepIn K (.ref f10) = true)
    (a11 : PySem.W.nsIn K mainGlobals "law" = some (some (.ref f11))) (l11 : K.lookup f11 = some ⟨oc11, od11, .func (PySem.W.fnOf "law" "law" (defArgs s_law) (defBody s_law) (defScope s_law) .none kV11 dc11 pm11 an11 cd11 ct11), sl11⟩) (g11 : PySem.W.codeIn K cd11 "law" = true) (k11 : PySem.W.keepIn K (.ref f11) = true)
    (xm_CurveError : PySem.W.nsIn K mainGlobals "CurveError" = some (some (.ref qce)))
    (xm_NoNumber : PySem.W.nsIn K mainGlobals "NoNumber" = some (some (.ref qc0)))
    (xm_NoBack : PySem.W.nsIn K mainGlobals "NoBack" = some (some (.ref qc1)))
    (xm_NoJoin : PySem.W.nsIn K mainGlobals "NoJoin" = some (some (.ref qc2)))
    (xm_NoSign : PySem.W.nsIn K mainGlobals "NoSign" = some (some (.ref qc3)))
    (xm_NotPlain : PySem.W.nsIn K mainGlobals "NotPlain" = some (some (.ref qc4)))
    (xm_NoPlace : PySem.W.nsIn K mainGlobals "NoPlace" = some (some (.ref qc5)))
    (xm_BadPlace : PySem.W.nsIn K mainGlobals "BadPlace" = some (some (.ref qc6)))
    (xm_NoVertex : PySem.W.nsIn K mainGlobals "NoVertex" = some (some (.ref qc7)))
    (xm_Flat : PySem.W.nsIn K mainGlobals "Flat" = some (some (.ref qc8)))
    (xm_OffCurve : PySem.W.nsIn K mainGlobals "OffCurve" = some (some (.ref qc9)))
    (xm_NoPair : PySem.W.nsIn K mainGlobals "NoPair" = some (some (.ref qc10)))
    (xm_NoLine : PySem.W.nsIn K mainGlobals "NoLine" = some (some (.ref qc11)))
    (xm_NoText : PySem.W.nsIn K mainGlobals "NoText" = some (some (.ref qc12)))
    (xm_NoRow : PySem.W.nsIn K mainGlobals "NoRow" = some (some (.ref qc13)))
    (xm_NoName : PySem.W.nsIn K mainGlobals "NoName" = some (some (.ref qc14)))
    (xi_ce : PySem.W.kitOne K (.ref qc2) (.ref qce) = some true)
    (xi_0 : PySem.W.kitOne K (.ref qc2) (.ref qc0) = some false)
    (xi_1 : PySem.W.kitOne K (.ref qc2) (.ref qc1) = some false)
    (xi_2 : PySem.W.kitOne K (.ref qc2) (.ref qc2) = some true)
    (xi_3 : PySem.W.kitOne K (.ref qc2) (.ref qc3) = some false)
    (xi_4 : PySem.W.kitOne K (.ref qc2) (.ref qc4) = some false)
    (xi_5 : PySem.W.kitOne K (.ref qc2) (.ref qc5) = some false)
    (xi_6 : PySem.W.kitOne K (.ref qc2) (.ref qc6) = some false)
    (xi_7 : PySem.W.kitOne K (.ref qc2) (.ref qc7) = some false)
    (xi_8 : PySem.W.kitOne K (.ref qc2) (.ref qc8) = some false)
    (xi_9 : PySem.W.kitOne K (.ref qc2) (.ref qc9) = some false)
    (xi_10 : PySem.W.kitOne K (.ref qc2) (.ref qc10) = some false)
    (xi_11 : PySem.W.kitOne K (.ref qc2) (.ref qc11) = some false)
    (xi_12 : PySem.W.kitOne K (.ref qc2) (.ref qc12) = some false)
    (xi_13 : PySem.W.kitOne K (.ref qc2) (.ref qc13) = some false)
    (xi_14 : PySem.W.kitOne K (.ref qc2) (.ref qc14) = some false)
    (xi_ve : PySem.W.kitOne K (.ref qc2) (.type "ValueError") = some true)
    (xe0 : (PySem.W.clsIn K qc2).isSome = true)
    (xe1 : PySem.W.findIn K (.ref qc2) "__getattribute__" = some (some (.builtin "BaseException.__getattribute__")))
    (xe2 : PySem.W.findIn K (.ref qc2) "__getattr__" = some none)
    (xe3 : PySem.W.findIn K (.ref qc2) "__class__" = some (some (.builtin "object.__class__")))
    (xe4 : PySem.W.specialIn K (.builtin "object.__class__") "__get__" = some (some (.builtin "getset_descriptor.__get__")))
    (xe5 : PySem.W.takesIn K (.builtin "object.__class__") = some true)
    (xe6 : PySem.W.mroIn K qc2 (.type "object") = some true)
    (xe7 : PySem.W.mroIn K qc2 (.type "BaseException") = some true)
    (xx_NoJoin : excInB K qc2 qiNoJoin = true)
    (xxf_NoJoin : PySem.W.isFn K (.ref qiNoJoin) = true)
    (xxn_NoJoin : PySem.W.findIn K (.ref qc2) "shared" = some none)
    (xxd_NoJoin : (PySem.W.clsIn K qc2).map (·.hasDict) = some true)
    (xxs_NoJoin : PySem.W.findIn K (.ref qc2) "__setattr__" = some (some (.builtin "object.__setattr__")))
    (xxo_NoJoin : (PySem.W.clsIn K qc2).any (fun cd => onlyVE cd.mro) = true)
    (xy1 : PySem.W.specialIn K (.ref qce) "__getattribute__" = some (some (.builtin "type.__getattribute__")))
    (xy2 : PySem.W.readsIn K qce (.type "type") = true)
    (xy3 : PySem.W.findCls K (.ref qce) (.type "type") "__init__" = some (.val (.builtin "ValueError.__init__")))
    (xi_ib : PySem.W.kitOne K (.type "int") (.type "bool") = some false)
    (xz_isinstance : PySem.W.nsIn K mainGlobals "isinstance" = some none)
    (xz_int : PySem.W.nsIn K mainGlobals "int" = some none)
    (xz_bool : PySem.W.nsIn K mainGlobals "bool" = some none)
    (xz_len : PySem.W.nsIn K mainGlobals "len" = some none)
    (xz_tuple : PySem.W.nsIn K mainGlobals "tuple" = some none)
    (xz_ValueError : PySem.W.nsIn K mainGlobals "ValueError" = some none)
    : ∃ fd : FuncData, (∀ (s : Shared) (v : Value), BindsTo s fd ⟨[v], []⟩ [("_law_script", v)]) ∧ ∀ base : Heap, K.In base → base.Ns mainGlobals mg → FnOk l.prog w K mg base CX0 5 fa fd ["_law_script"] (spLaw K) := by
  have e := hfa.symm.trans (PySem.W.mg_of X G a11)
  cases e
  have T : Txt K mg ⟨qce, qc0, qc1, qc2, qc3, qc4, qc5, qc6, qc7, qc8, qc9, qc10, qc11, qc12, qc13, qc14, qiNoJoin⟩ := ⟨PySem.W.mg_of X G xm_CurveError, PySem.W.mg_of X G xm_NoNumber, PySem.W.mg_of X G xm_NoBack, PySem.W.mg_of X G xm_NoJoin, PySem.W.mg_of X G xm_NoSign, PySem.W.mg_of X G xm_NotPlain, PySem.W.mg_of X G xm_NoPlace, PySem.W.mg_of X G xm_BadPlace, PySem.W.mg_of X G xm_NoVertex, PySem.W.mg_of X G xm_Flat, PySem.W.mg_of X G xm_OffCurve, PySem.W.mg_of X G xm_NoPair, PySem.W.mg_of X G xm_NoLine, PySem.W.mg_of X G xm_NoText, PySem.W.mg_of X G xm_NoRow, PySem.W.mg_of X G xm_NoName, xi_ce, xi_0, xi_1, xi_2, xi_3, xi_4, xi_5, xi_6, xi_7, xi_8, xi_9, xi_10, xi_11, xi_12, xi_13, xi_14, xi_ve, xe0, xe1, xe2, xe3, xe4, xe5, xe6, xe7, xx_NoJoin, xxf_NoJoin, xxn_NoJoin, xxd_NoJoin, xxs_NoJoin, xxo_NoJoin, xy1, xy2, xy3, xi_ib, PySem.W.mg_none_of X G xz_isinstance, PySem.W.mg_none_of X G xz_int, PySem.W.mg_none_of X G xz_bool, PySem.W.mg_none_of X G xz_len, PySem.W.mg_none_of X G xz_tuple, PySem.W.mg_none_of X G xz_ValueError⟩
  have F1 := fun_mk (st := s_row_less) l1 g1 k1
  have b1 := F1.binds (ps := ["row", "taken", "times"]) fun _ _ _ _ _ _ us hl => match us, hl with | [_, _, _], _ => rfl
  have F2 := fun_mk (st := s_shares_of) l2 g2 k2
  have b2 := F2.binds (ps := ["one", "other"]) fun _ _ _ _ _ _ us hl => match us, hl with | [_, _], _ => rfl
  have F3 := fun_mk (st := s_init_NoJoin) l3 g3 k3
  have b3 := F3.binds (ps := ["self", "shared"]) fun _ _ _ _ _ _ us hl => match us, hl with | [_, _], _ => rfl
  have F4 := fun_mk (st := s_joined_rests) l4 g4 k4
  have b4 := F4.binds (ps := ["r", "n", "s", "m"]) fun _ _ _ _ _ _ us hl => match us, hl with | [_, _, _, _], _ => rfl
  have F5 := fun_mk (st := s_cell_at) l5 g5 k5
  have b5 := F5.binds (ps := ["_law_script", "_law_k"]) fun _ _ _ _ _ _ us hl => match us, hl with | [_, _], _ => rfl
  have F6 := fun_mk (st := s_whole) l6 g6 k6
  have b6 := F6.binds (ps := ["_law_found"]) fun _ _ _ _ _ _ us hl => match us, hl with | [_], _ => rfl
  have F7 := fun_mk (st := s_either_way) l7 g7 k7
  have b7 := F7.binds (ps := ["_law_cell", "_law_most"]) fun _ _ _ _ _ _ us hl => match us, hl with | [_, _], _ => rfl
  have F8 := fun_mk (st := s_alone) l8 g8 k8
  have b8 := F8.binds (ps := ["_law_e"]) fun _ _ _ _ _ _ us hl => match us, hl with | [_], _ => rfl
  have F9 := fun_mk (st := s_shared) l9 g9 k9
  have b9 := F9.binds (ps := ["_law_one", "_law_other"]) fun _ _ _ _ _ _ us hl => match us, hl with | [_, _], _ => rfl
  have F10 := fun_mk (st := s_told) l10 g10 k10
  have b10 := F10.binds (ps := ["_law_r", "_law_n", "_law_s", "_law_m"]) fun _ _ _ _ _ _ us hl => match us, hl with | [_, _, _, _], _ => rfl
  have F11 := fun_mk (st := s_law) l11 g11 k11
  refine ⟨PySem.W.fnOf "law" "law" (defArgs s_law) (defBody s_law) (defScope s_law) .none kV11 dc11 pm11 an11 cd11 ct11, fun s v => .of_eq rfl, fun base _ _ => ?_⟩
  have H_row_less : Has l.prog w K mg base CX0 1 "row_less" ["row", "taken", "times"] (spRow) := ⟨f1, _, ok_row_less F1 T , b1, k1, PySem.W.mg_of X G a1⟩
  have H_shares_of : Has l.prog w K mg base CX0 2 "shares_of" ["one", "other"] (spShares) := ⟨f2, _, ok_shares_of F2 T H_row_less, b2, k2, PySem.W.mg_of X G a2⟩
  have H_init_NoJoin : HasI l.prog w K mg base 1 qiNoJoin ["self", "shared"] (spIni qc2 "shared") := ⟨_, ok_init_NoJoin F3 T , b3⟩
  have H_joined_rests : Has l.prog w K mg base (XD l.prog w) 3 "joined_rests" ["r", "n", "s", "m"] (spJoin qc2) := ⟨f4, _, ok_joined_rests F4 T H_shares_of H_init_NoJoin, b4, k4, PySem.W.mg_of X G a4⟩
  have H_cell_at : Has l.prog w K mg base CX0 1 "_law_cell_at" ["_law_script", "_law_k"] (spCell K) := ⟨f5, _, ok_cell_at F5 T , b5, k5, PySem.W.mg_of X G a5⟩
  have H_whole : Has l.prog w K mg base CX0 1 "_law_whole" ["_law_found"] (spWhole) := ⟨f6, _, ok_whole F6 T , b6, k6, PySem.W.mg_of X G a6⟩
  have H_either_way : Has l.prog w K mg base CX0 1 "_law_either_way" ["_law_cell", "_law_most"] (spEither) := ⟨f7, _, ok_either_way F7 T , b7, k7, PySem.W.mg_of X G a7⟩
  have H_alone : HasQ l.prog w K mg base 1 "_law_alone" ["_law_e"] (spAloneD qc2) := ⟨f8, _, ok_alone F8 T , b8, k8, PySem.W.mg_of X G a8⟩
  have H_shared : Has l.prog w K mg base CX0 1 "_law_shared" ["_law_one", "_law_other"] (spShared) := ⟨f9, _, ok_shared F9 T , b9, k9, PySem.W.mg_of X G a9⟩
  have H_told : Has l.prog w K mg base CX0 4 "_law_told" ["_law_r", "_law_n", "_law_s", "_law_m"] (spTold) := ⟨f10, _, ok_told F10 T H_joined_rests H_alone, b10, k10, PySem.W.mg_of X G a10⟩
  exact ok_law F11 T H_cell_at H_either_way H_shared H_told H_whole
theorem walk {l : PySem.W.OpenLaw} {q : Program} {loose : List Str} {XP : (Str → Option Value) → Heap → Prop} {YP : World → Heap → Prop} {d : DefRec} {K : Params → PySem.W.Frag} (hn : l.most = some 63) (hdf : d.params.defaults = [])
    (hY : ∀ (w : World) (h : Heap), YP w h → (K w.params).In h)
    (F : ∀ (w : World) (mg : Str → Option Value) (fa : Addr) (h : Heap), (K w.params).In h → h.Ns mainGlobals mg → mg d.name = some (.ref fa) →
      ∃ fd : FuncData, (∀ (s : Shared) (u : Value), BindsTo s fd ⟨[u], []⟩ [("_law_script", u)]) ∧ ∀ base : Heap, (K w.params).In base → base.Ns mainGlobals mg → FnOk l.prog w (K w.params) mg base CX0 5 fa fd ["_law_script"] (spLaw (K w.params))) :
    PySem.W.WalkO q loose XP YP l.row.toRowW d [] (fun f vs => PySem.call f vs) :=
  L2.walk_b (n := 63) (k := 5) (x := "_law_script") (CX := fun _ => CX0) (sp := fun w => spLaw (K w.params)) hn (by decide) hdf ⟨rfl, by decide, by decide⟩ hY F (fun _ _ a ns hl hb hS => ⟨a, ns, rfl, hS, hl, hb, fun _ => rfl⟩) fun _ _ _ _ _ z => z
end K07
open PySem PySem.W PyProof.Rows
set_option maxRecDepth 100000 in
set_option maxHeartbeats 0 in
theorem PySem.Challenge.cw_conicplaces_k07_rests_joined_holds : PySem.Challenge.rw_conicplaces_k07_rests_joined.Holds := by
  w_on; o_law; k_head; (case hw => w_witness2)
  k_fill
  refine K07.walk (l := PySem.Challenge.rw_conicplaces_k07_rests_joined) rfl rfl (fun w h Y => PySem.W.kIn_of Y) ?F
  case F =>
    intro w mg fa h KX G hmg
    refine' K07.all_mk KX G hmg ?a1 ?l1 ?g1 ?k1 ?a2 ?l2 ?g2 ?k2 ?o3 ?a3 ?l3 ?g3 ?k3 ?a4 ?l4 ?g4 ?k4 ?a5 ?l5 ?g5 ?k5 ?a6 ?l6 ?g6 ?k6 ?a7 ?l7 ?g7 ?k7 ?a8 ?l8 ?g8 ?k8 ?a9 ?l9 ?g9 ?k9 ?a10 ?l10 ?g10 ?k10 ?a11 ?l11 ?g11 ?k11 ?xm_CurveError ?xm_NoNumber ?xm_NoBack ?xm_NoJoin ?xm_NoSign ?xm_NotPlain ?xm_NoPlace ?xm_BadPlace ?xm_NoVertex ?xm_Flat ?xm_OffCurve ?xm_NoPair ?xm_NoLine ?xm_NoText ?xm_NoRow ?xm_NoName ?xi_ce ?xi_0 ?xi_1 ?xi_2 ?xi_3 ?xi_4 ?xi_5 ?xi_6 ?xi_7 ?xi_8 ?xi_9 ?xi_10 ?xi_11 ?xi_12 ?xi_13 ?xi_14 ?xi_ve ?xe0 ?xe1 ?xe2 ?xe3 ?xe4 ?xe5 ?xe6 ?xe7 ?xx_NoJoin ?xxf_NoJoin ?xxn_NoJoin ?xxd_NoJoin ?xxs_NoJoin ?xxo_NoJoin ?xy1 ?xy2 ?xy3 ?xi_ib ?xz_isinstance ?xz_int ?xz_bool ?xz_len ?xz_tuple ?xz_ValueError
    (case a1 => k_is)
    (case l1 => k_is)
    (case g1 => k_is)
    (case k1 => k_is)
    (case a2 => k_is)
    (case l2 => k_is)
    (case g2 => k_is)
    (case k2 => k_is)
    (case a4 => k_is)
    (case l4 => k_is)
    (case g4 => k_is)
    (case k4 => k_is)
    (case a5 => k_is)
    (case l5 => k_is)
    (case g5 => k_is)
    (case k5 => k_is)
    (case a6 => k_is)
    (case l6 => k_is)
    (case g6 => k_is)
    (case k6 => k_is)
    (case a7 => k_is)
    (case l7 => k_is)
    (case g7 => k_is)
    (case k7 => k_is)
    (case a8 => k_is)
    (case l8 => k_is)
    (case g8 => k_is)
    (case k8 => k_is)
    (case a9 => k_is)
    (case l9 => k_is)
    (case g9 => k_is)
    (case k9 => k_is)
    (case a10 => k_is)
    (case l10 => k_is)
    (case g10 => k_is)
    (case k10 => k_is)
    (case a11 => k_is)
    (case l11 => k_is)
    (case g11 => k_is)
    (case k11 => k_is)
    (case xm_CurveError => k_is)
    (case xm_NoNumber => k_is)
    (case xm_NoBack => k_is)
    (case xm_NoJoin => k_is)
    (case xm_NoSign => k_is)
    (case xm_NotPlain => k_is)
    (case xm_NoPlace => k_is)
    (case xm_BadPlace => k_is)
    (case xm_NoVertex => k_is)
    (case xm_Flat => k_is)
    (case xm_OffCurve => k_is)
    (case xm_NoPair => k_is)
    (case xm_NoLine => k_is)
    (case xm_NoText => k_is)
    (case xm_NoRow => k_is)
    (case xm_NoName => k_is)
    (case o3 => k_is)
    (case a3 => k_is)
    (case l3 => k_is)
    (case g3 => k_is)
    (case k3 => k_is)
    (case xi_ce => kernel_rfl)
    (case xi_0 => kernel_rfl)
    (case xi_1 => kernel_rfl)
    (case xi_2 => kernel_rfl)
    (case xi_3 => kernel_rfl)
    (case xi_4 => kernel_rfl)
    (case xi_5 => kernel_rfl)
    (case xi_6 => kernel_rfl)
    (case xi_7 => kernel_rfl)
    (case xi_8 => kernel_rfl)
    (case xi_9 => kernel_rfl)
    (case xi_10 => kernel_rfl)
    (case xi_11 => kernel_rfl)
    (case xi_12 => kernel_rfl)
    (case xi_13 => kernel_rfl)
    (case xi_14 => kernel_rfl)
    (case xi_ve => kernel_rfl)
    (case xe0 => kernel_rfl)
    (case xe1 => kernel_rfl)
    (case xe2 => kernel_rfl)
    (case xe3 => kernel_rfl)
    (case xe4 => kernel_rfl)
    (case xe5 => kernel_rfl)
    (case xe6 => kernel_rfl)
    (case xe7 => kernel_rfl)
    (case xx_NoJoin => kernel_rfl)
    (case xxf_NoJoin => kernel_rfl)
    (case xxn_NoJoin => kernel_rfl)
    (case xxd_NoJoin => kernel_rfl)
    (case xxs_NoJoin => kernel_rfl)
    (case xxo_NoJoin => kernel_rfl)
    (case xy1 => kernel_rfl)
    (case xy2 => kernel_rfl)
    (case xy3 => kernel_rfl)
    (case xi_ib => kernel_rfl)
    (case xz_isinstance => k_is)
    (case xz_int => k_is)
    (case xz_bool => k_is)
    (case xz_len => k_is)
    (case xz_tuple => k_is)
    (case xz_ValueError => k_is)
