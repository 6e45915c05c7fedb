import PyProof.Rows.All
import Wide.All
import OpenK.AllK
import Wide.FinOn
import Lean
import PyProof.EqAt
import PyProof.EqKinds
import PyProof.TupleCall
import PyProof.CompFree
import PyProof.ConsumeWalk
import PyProof.CompMap
import KE.IntBitsLaws
import KE.KDictSum
import PyProof.Rows.EqDataRows
import PyProof.Rows.SortWalk
import KE.KLcPair
import PyProof.Cells
import PyProof.SumAny
import PyProof.ZipIter
import PyProof.Rows.ZipGen
import PyProof.Rows.FactsT2
import PyProof.WalkInts
import PyProof.SeqI3
import KE.KEqSeq
import PyProof.Rows.Range3
import PyProof.Rows.ChunkLeaf
import PyProof.InstStoreFacts
import PyProof.ExcClass3
import PyProof.ExcInit
import PyProof.Rows.InDataRows
import PySem.Challenge.RW_conicplaces_k32_point_or_place
set_option Elab.async false
set_option linter.all false
set_option maxRecDepth 100000
set_option maxHeartbeats 4000000
namespace L2
open PySem PySem.Spec PyProof.Rows

abbrev Key := Sum Int Str
def keyIs : Key → Value → Bool
  | .inl k, v => Value.isInt k v
  | .inr x, v => Value.isStrOf x v
def keyH (w : World) : Key → Int
  | .inl k => hashInt k
  | .inr x => hashStr w x
theorem keyIs_shape : ∀ {k : Key} {v : Value}, keyIs k v = true → (∃ i t, k = Sum.inl i ∧ v = Value.int i t) ∨ (∃ x t, k = Sum.inr x ∧ v = Value.str x t)
  | .inl i, v, h => by
    obtain ⟨t, e⟩ := Value.isInt_shape (k := i) (v := v) h
    exact .inl ⟨i, t, rfl, e⟩
  | .inr x, v, h => by
    obtain ⟨t, e⟩ := Value.isStrOf_shape (x := x) (v := v) h
    exact .inr ⟨x, t, rfl, e⟩
theorem keyIs_int (i : Int) (t : Tok) : keyIs (.inl i) (.int i t) = true := by simp [keyIs, Value.isInt]
theorem keyIs_str (x : Str) (t : Tok) : keyIs (.inr x) (.str x t) = true := by simp [keyIs, Value.isStrOf]
theorem key_ll (a b : Int) : decide ((Sum.inl a : Key) = Sum.inl b) = (a == b) := by
  by_cases e : a = b
  · subst e; simp
  · have h : ¬ (Sum.inl a : Key) = Sum.inl b := fun q => e (Sum.inl.inj q)
    rw [decide_eq_false h]
    exact (beq_eq_false_iff_ne.mpr e).symm
theorem key_rr (a b : Str) : decide ((Sum.inr a : Key) = Sum.inr b) = decide (a = b) := by
  by_cases e : a = b
  · subst e; simp
  · have h : ¬ (Sum.inr a : Key) = Sum.inr b := fun q => e (Sum.inr.inj q)
    rw [decide_eq_false h, decide_eq_false e]
theorem key_lr (a : Int) (b : Str) : decide ((Sum.inl a : Key) = Sum.inr b) = false := decide_eq_false (fun q => nomatch q)
theorem key_rl (a : Str) (b : Int) : decide ((Sum.inr a : Key) = Sum.inl b) = false := decide_eq_false (fun q => nomatch q)

def mixKind (prog : Program) (w : World) : PySem.KeyKind prog w Key where
  is := keyIs
  hash := keyH w
  inj := fun v a b ha hb => by
    rcases keyIs_shape ha with ⟨i, t, rfl, rfl⟩ | ⟨x, t, rfl, rfl⟩
    · rcases keyIs_shape hb with ⟨j, u, rfl, e⟩ | ⟨y, u, rfl, e⟩
      · injection e with e1 _; rw [e1]
      · exact nomatch e
    · rcases keyIs_shape hb with ⟨j, u, rfl, e⟩ | ⟨y, u, rfl, e⟩
      · exact nomatch e
      · injection e with e1 _; rw [e1]
  byValue := fun k v h => by
    rcases keyIs_shape h with ⟨i, t, rfl, rfl⟩ | ⟨x, t, rfl, rfl⟩ <;> rfl
  pyHash := fun hv h => by
    rcases keyIs_shape hv with ⟨i, t, rfl, rfl⟩ | ⟨x, t, rfl, rfl⟩
    · exact wpAny_pyHash_int h
    · exact wpAny_pyHash_str h
  eqBool := fun hu hv h => by
    rcases keyIs_shape hu with ⟨i, t, rfl, rfl⟩ | ⟨x, t, rfl, rfl⟩
    · rcases keyIs_shape hv with ⟨j, u, rfl, rfl⟩ | ⟨y, u, rfl, rfl⟩
      · rw [key_ll] at h; exact wpAny_eqBool_int h
      · rw [key_lr] at h; exact SeqAt.EqAt.int_str i t y u _ _ _ _ h
    · rcases keyIs_shape hv with ⟨j, u, rfl, rfl⟩ | ⟨y, u, rfl, rfl⟩
      · rw [key_rl] at h; exact SeqAt.EqAt.str_int x t j u _ _ _ _ h
      · rw [key_rr] at h; exact wpAny_eqBool_str h
  «strs» := fun k x t v h => by
    rcases keyIs_shape h with ⟨i, u, rfl, e⟩ | ⟨y, u, rfl, e⟩
    · exact nomatch e
    · injection e with e1 _
      subst e1
      cases v <;> rfl

theorem mixKind_int (prog : Program) (w : World) (i : Int) (t : Tok) : (mixKind prog w).is (.inl i) (.int i t) = true := keyIs_int i t
theorem mixKind_str (prog : Program) (w : World) (x : Str) (t : Tok) : (mixKind prog w).is (.inr x) (.str x t) = true := keyIs_str x t
end L2

namespace L2
open PySem PySem.Spec PyProof.Rows

inductive V where
  | non | bl (b : Bool) | int (i : Int) | str (x : Str) | byt (b : Array UInt8) | flt (b : UInt64) | ref (a : Addr) | ty (n : String)
  deriving DecidableEq

def RelV : V → Value → Prop
  | .non, u => u = Value.none
  | .bl b, u => u = Value.bool b
  | .int i, u => ∃ t, u = Value.int i t
  | .str x, u => ∃ t, u = Value.str x t
  | .byt b, u => ∃ t, u = Value.bytes b t
  | .flt b, u => ∃ t, u = Value.float b t
  | .ref a, u => u = Value.ref a
  | .ty n, u => u = Value.type n

abbrev Vals : List V → List Value → Prop := Paired RelV
theorem Vals.length {xs : List V} {us : List Value} (r : Vals xs us) : xs.length = us.length := Paired.length r
theorem Vals.get : ∀ {xs : List V} {us : List Value} {i : Nat} {x : V}, Vals xs us → xs[i]? = some x → ∃ u, us[i]? = some u ∧ RelV x u
  | _, _, _, _, .nil, e => by simp at e
  | _, _, 0, _, .cons r _, e => by simp at e; subst e; exact ⟨_, rfl, r⟩
  | _, _, i + 1, x, .cons _ t, e => by
    obtain ⟨u, h1, h2⟩ := Vals.get (i := i) (x := x) t (by simpa using e)
    exact ⟨u, by simpa using h1, h2⟩
theorem Vals.append : ∀ {xs ys : List V} {us ws : List Value}, Vals xs us → Vals ys ws → Vals (xs ++ ys) (us ++ ws)
  | _, _, _, _, .nil, s => s
  | _, _, _, _, .cons r t, s => .cons r (Vals.append t s)
theorem Vals.none_of : ∀ {xs : List V} {us : List Value} {i : Nat}, Vals xs us → xs[i]? = none → us[i]? = none := fun {xs us i} r e => by
  have h1 := r.length
  have h2 : xs.length ≤ i := List.getElem?_eq_none_iff.mp e
  exact List.getElem?_eq_none_iff.mpr (by omega)

def RelO : Option V → Option Value → Prop
  | some v, some u => RelV v u
  | none, none => True
  | _, _ => False
def KV {κ : Type} : List (κ × V) → List (κ × Value) → Prop := Paired fun (p : κ × V) (q : κ × Value) => p.1 = q.1 ∧ RelV p.2 q.2

def kV : Key → V
  | .inl i => .int i
  | .inr x => .str x

inductive HO where
  /-- a list -/
  | lst (xs : List V)
  /-- a tuple (never changes) -/
  | tup (xs : List V)
  /-- a dict whose keys are ints and texts; one whose keys are tuples of ints and texts (the empty one is both) -/
  | dK (kvs : List (Key × V)) | dT (kvs : List (List Key × V))
  /-- a set of ints: its members, its size -/
  | set (S : Int → Bool) (n : Nat)
  /-- an instance of the class at C, its dict at dx, its attributes -/
  | ins (C dx : Addr) (fs : List (Str × V))
  /-- the dict of the instance at x -/
  | own (x : Addr)
  /-- the dict of an exception -/
  | xd (fs : List (Str × V))
  /-- a bound method, f of x -/
  | met (f x : Addr)
  /-- a range object lo, lo + 1, .. below hi -/
  | rng (lo hi : Int)
  /-- a thing that is known to the object (the script; a dict while a loop walks it): read, never written while it is so -/
  | frz (o : Obj) (u : HO)
  /-- a code object's table -/
  | tbl (ps : Array Value)
  /-- any other thing, by what is true of its one object (a def of one's own: SetO a S n := HO.ext fun h => ..) -/
  | ext (φ : Heap → Prop)

abbrev Hp := Addr → Option HO
def upd (H : Hp) (a : Addr) (o : HO) : Hp := fun b => if b = a then some o else H b
theorem upd_same {H : Hp} {a : Addr} {o : HO} : upd H a o a = some o := by unfold upd; rw [if_pos rfl]
theorem upd_ne {H : Hp} {a b : Addr} {o : HO} (h : b ≠ a) : upd H a o b = H b := by unfold upd; rw [if_neg h]
theorem ne_of {H : Hp} {a b : Addr} {o u : HO} (h : H a = some o) (h' : H b = some u) (d : o ≠ u) : a ≠ b := by
  intro e; subst e; rw [h] at h'; exact d (Option.some.inj h')
theorem ne_of_none {H : Hp} {a b : Addr} {o : HO} (h : H a = some o) (h' : H b = none) : a ≠ b := by
  intro e; subst e; rw [h] at h'; cases h'

section
variable (P : Program) (w : World)
def ObjOk (H : Hp) (h : Heap) (a : Addr) : HO → Prop
  | .lst xs => xs.length ≤ sizeLine ∧ ∃ (its : List Value) (n : Nat), Vals xs its ∧ h.get? a = some { cls := .type "list", data := .seq its.toArray n }
  | .tup xs => xs.length ≤ sizeLine ∧ ∃ its : List Value, Vals xs its ∧ IsTup h a its.toArray
  | .dK kvs => kvs.length ≤ sizeLine ∧ (a == sysModules) = false ∧ ∃ vs, KV kvs vs ∧ h.DictOf (mixKind P w) a vs
  | .dT kvs => kvs.length ≤ sizeLine ∧ (a == sysModules) = false ∧ ∃ xs : List (List Key × Addr × Value),
      Paired (fun (p : List Key × V) (q : List Key × Addr × Value) => p.1 = q.1 ∧ H q.2.1 = some (.tup (p.1.map kV)) ∧ RelV p.2 q.2.2) kvs xs ∧
      ∃ o es ep, h.get? a = some o ∧ o.ExactDict ∧ o.data = .dict es ep ∧ es.toList = xs.map (entryOfKey (tupleKind (mixKind P w))) ∧ (xs.map (·.1)).Nodup
  | .set S n => h.SetOf (intKind P w) a S n
  | .ins C dx fs => H dx = some (.own a) ∧ fs.length ≤ 1000 ∧ dx ≠ a ∧ h.get? a = some (PySem.W.instObj C dx) ∧
      ∃ mA, h.Ns1 dx mA ∧ (∀ f, RelO (fs.lookup f) (mA f)) ∧ PySem.Within mA (fs.map (·.1))
  | .own _ => ∃ o, h.get? a = some o
  | .xd fs => ∃ mA, h.Ns1 a mA ∧ ∀ f, RelO (fs.lookup f) (mA f)
  | .rng lo hi => ∃ t u v, h.get? a = some { cls := .type "range", data := .fields #[.int lo t, .int hi u, .int 1 v] }
  | .frz o u => h.get? a = some o ∧ ObjOk H h a u
  | .tbl ps => h.get? a = some { cls := .none, data := .fields ps }
  | .met f x => h.get? a = some (PySem.W.methodObj (.ref f) (.ref x))
  | .ext φ => φ h ∧ (∃ o, h.get? a = some o) ∧ ∀ h1 h2 : Heap, φ h1 → (∀ o, h1.get? a = some o → h2.get? a = some o) → φ h2
def HOk (H : Hp) (h : Heap) : Prop := ∀ a o, H a = some o → ObjOk P w H h a o
end

section
variable {P : Program} {w : World} {H H' : Hp} {h h' : Heap} {a : Addr} {o : HO}
theorem ObjOk.lt (x : ObjOk P w H h a o) : a < h.objs.size := by
  cases o with
  | lst xs => obtain ⟨_, _, _, _, e⟩ := x; exact Heap.lt_size e
  | tup xs => obtain ⟨_, _, _, p⟩ := x; exact p.lt
  | dK kvs => obtain ⟨_, _, _, _, o, _, _, e, _⟩ := x; exact Heap.lt_size e
  | dT kvs => obtain ⟨_, _, _, _, o, _, _, e, _⟩ := x; exact Heap.lt_size e
  | set S n => obtain ⟨o, _, _, _, e, _⟩ := x; exact Heap.lt_size e
  | ins C dx fs => obtain ⟨_, _, _, e, _⟩ := x; exact Heap.lt_size e
  | own y => obtain ⟨_, e⟩ := x; exact Heap.lt_size e
  | xd fs => obtain ⟨_, ⟨_, _, _, e, _⟩, _⟩ := x; exact Heap.lt_size e
  | rng lo hi => obtain ⟨_, _, _, e⟩ := x; exact Heap.lt_size e
  | frz ob u => obtain ⟨e, _⟩ := x; exact Heap.lt_size e
  | tbl ps => exact Heap.lt_size (show h.get? a = some _ from x)
  | met f y => exact Heap.lt_size (show h.get? a = some _ from x)
  | ext φ => obtain ⟨_, ⟨_, e⟩, _⟩ := x; exact Heap.lt_size e
theorem Paired.mapP {α β : Type} {F G : α → β → Prop} : ∀ {l₁ : List α} {l₂ : List β}, Paired F l₁ l₂ → (∀ a b, F a b → G a b) → Paired G l₁ l₂
  | _, _, .nil, _ => .nil
  | _, _, .cons r t, f => .cons (f _ _ r) (Paired.mapP t f)
theorem ObjOk.stay (x : ObjOk P w H h a o) (k : ∀ b u, (b = a ∨ H b = some (.own a)) → h.get? b = some u → h'.get? b = some u)
    (ho : ∀ b, H b = some (.own a) → H' b = some (.own a)) (ht : ∀ b xs, H b = some (.tup xs) → H' b = some (.tup xs)) : ObjOk P w H' h' a o := by
  induction o with
  | lst xs => obtain ⟨z, its, n, r, e⟩ := x; exact ⟨z, its, n, r, k _ _ (.inl rfl) e⟩
  | tup xs => obtain ⟨z, its, r, ob, e, c⟩ := x; exact ⟨z, its, r, ob, k _ _ (.inl rfl) e, c⟩
  | dK kvs => obtain ⟨z, y, vs, r, ob, es, ep, e, c⟩ := x; exact ⟨z, y, vs, r, ob, es, ep, k _ _ (.inl rfl) e, c⟩
  | dT kvs =>
    obtain ⟨z, y, xs, r, ob, es, ep, e, c⟩ := x
    exact ⟨z, y, xs, Paired.mapP r fun p q z => ⟨z.1, ht _ _ z.2.1, z.2.2⟩, ob, es, ep, k _ _ (.inl rfl) e, c⟩
  | set S n => obtain ⟨ob, es, ep, t, e, c⟩ := x; exact ⟨ob, es, ep, t, k _ _ (.inl rfl) e, c⟩
  | ins C dx fs =>
    obtain ⟨d, z, ne, e, mA, ⟨od, es, ep, e2, c⟩, r⟩ := x
    exact ⟨ho _ d, z, ne, k _ _ (.inl rfl) e, mA, ⟨od, es, ep, k _ _ (.inr d) e2, c⟩, r⟩
  | own y => obtain ⟨ob, e⟩ := x; exact ⟨ob, k _ _ (.inl rfl) e⟩
  | xd fs => obtain ⟨mA, ⟨od, es, ep, e, c⟩, r⟩ := x; exact ⟨mA, ⟨od, es, ep, k _ _ (.inl rfl) e, c⟩, r⟩
  | rng lo hi => obtain ⟨t, u, v, e⟩ := x; exact ⟨t, u, v, k _ _ (.inl rfl) e⟩
  | frz ob u ih => obtain ⟨e, q⟩ := x; exact ⟨k _ _ (.inl rfl) e, ih q⟩
  | tbl ps =>
    have e : h.get? a = some { cls := .none, data := .fields ps } := x
    show h'.get? a = some { cls := .none, data := .fields ps }
    exact k a _ (.inl rfl) e
  | met f y =>
    have e : h.get? a = some (PySem.W.methodObj (.ref f) (.ref y)) := x
    show h'.get? a = some (PySem.W.methodObj (.ref f) (.ref y))
    exact k a _ (.inl rfl) e
  | ext φ => obtain ⟨p, ⟨o, e⟩, st⟩ := x; exact ⟨st _ _ p fun o q => k _ _ (.inl rfl) q, ⟨o, k _ _ (.inl rfl) e⟩, st⟩
theorem HOk.lt (x : HOk P w H h) (e : H a = some o) : a < h.objs.size := (x a o e).lt
theorem HOk.fresh (x : HOk P w H h) (e : h.objs.size ≤ a) : H a = none := by
  cases q : H a with
  | none => rfl
  | some u => exact absurd (Nat.lt_of_lt_of_le (x.lt q) e) (Nat.lt_irrefl _)
theorem HOk.kept (x : HOk P w H h) (k : ∀ b u, h.get? b = some u → h'.get? b = some u) : HOk P w H h' := fun a o e =>
  (x a o e).stay (fun b u _ q => k b u q) (fun _ q => q) fun _ _ q => q
theorem HOk.laid (x : HOk P w H h) (k : ∀ b u, h.get? b = some u → h'.get? b = some u) (hp : h.objs.size ≤ a) (new : ObjOk P w (upd H a o) h' a o) : HOk P w (upd H a o) h' := fun b u e => by
  have hn := x.fresh hp
  by_cases hb : b = a
  · subst hb; rw [upd_same] at e; cases e; exact new
  · rw [upd_ne hb] at e
    exact (x b u e).stay (fun c v _ q => k c v q) (fun c q => by rw [upd_ne (ne_of_none q hn)]; exact q) fun c xs q => by rw [upd_ne (ne_of_none q hn)]; exact q
end

def Rd (H : Hp) (a : Addr) (u : HO) : Prop := H a = some u ∨ ∃ o, H a = some (.frz o u)
theorem Rd.ok {P : Program} {w : World} {H : Hp} {h : Heap} {a : Addr} {u : HO} (r : Rd H a u) (x : HOk P w H h) : ObjOk P w H h a u := by
  rcases r with r | ⟨o, r⟩
  · exact x a u r
  · obtain ⟨_, q⟩ := x a _ r
    exact q
def Mut : Option HO → Prop
  | some (.lst _) => True
  | some (.dK _) => True
  | some (.dT _) => True
  | some (.set _ _) => True
  | some (.ins _ _ _) => True
  | some (.ext _) => True
  | _ => False
section
variable {P : Program} {w : World} {H : Hp} {h h' : Heap} {x e : Addr} {o' : HO}
theorem HOk.write (ok : HOk P w H h) (mu : Mut (H x)) (he : e = x ∨ H e = some (.own x)) (k : ∀ b u, b ≠ e → h.get? b = some u → h'.get? b = some u) (heo : ∃ u, h'.get? e = some u)
    (new : ObjOk P w (upd H x o') h' x o') : HOk P w (upd H x o') h' := fun b u q => by
  have nown : ∀ c y, H c = some (.own y) → c ≠ x := fun c y r z => by subst z; rw [r] at mu; exact mu
  have ntup : ∀ c xs, H c = some (.tup xs) → c ≠ x := fun c xs r z => by subst z; rw [r] at mu; exact mu
  by_cases hb : b = x
  · subst hb; rw [upd_same] at q; cases q; exact new
  · rw [upd_ne hb] at q
    by_cases hbe : b = e
    · have q' : H b = some (.own x) := by
        rcases he with z | z
        · exact absurd (hbe.trans z) hb
        · rw [hbe]; exact z
      rw [q] at q'; cases q'
      obtain ⟨v, hv⟩ := heo
      exact ⟨v, by rw [hbe]; exact hv⟩
    · refine (ok b u q).stay (fun c v hc r => k c v ?_ r) (fun c r => by rw [upd_ne (nown c b r)]; exact r) fun c xs r => by rw [upd_ne (ntup c xs r)]; exact r
      rcases hc with rfl | hc
      · exact hbe
      · rintro rfl
        rcases he with z | z
        · exact nown c b hc z
        · rw [hc] at z; cases z; exact hb rfl
end

structure Un (fs ex : List Addr) (H H' : Hp) (h h' : Heap) : Prop where
  keep : ∀ b o, h.get? b = some o → H b = none → b ∉ fs → b ∉ ex → h'.get? b = some o
  slot : ∀ b o, h.get? b = some o → H b = none → b ∈ fs → b ∉ ex → ∃ sl, h'.get? b = some { o with slots := sl }
  free : ∀ b o, h.get? b = some o → H b = none → b ∉ ex → H' b = none
  there : ∀ b o, h.get? b = some o → b ∉ ex → ∃ o', h'.get? b = some o'
  tups : ∀ b xs, H b = some (.tup xs) → H' b = some (.tup xs)
  frzs : ∀ b o u, H b = some (.frz o u) → H' b = some (.frz o u)
  tbls : ∀ b ps, H b = some (.tbl ps) → ∃ more, H' b = some (.tbl (ps ++ more))
section
variable {fs fs' ex ex' : List Addr} {H H1 H2 : Hp} {h h1 h2 h' : Heap} {a x e : Addr} {o : HO}
theorem Un.any (u : Un fs ex H H1 h h1) {b : Addr} {ob : Obj} (q : h.get? b = some ob) (n : H b = none) (hx : b ∉ ex) : ∃ sl, h1.get? b = some { ob with slots := sl } := by
  by_cases hb : b ∈ fs
  · exact u.slot b ob q n hb hx
  · exact ⟨ob.slots, u.keep b ob q n hb hx⟩
theorem Un.kept (k : ∀ b u, h.get? b = some u → h'.get? b = some u) : Un fs ex H H h h' :=
  ⟨fun b ob q _ _ _ => k b ob q, fun b ob q _ _ _ => ⟨ob.slots, k b ob q⟩, fun _ _ _ n _ => n, fun b ob q _ => ⟨ob, k b ob q⟩, fun _ _ q => q, fun _ _ _ q => q, fun _ ps q => ⟨#[], by rw [q]; simp⟩⟩
theorem Un.refl : Un fs ex H H h h := Un.kept fun _ _ q => q
theorem Un.laid (k : ∀ b u, h.get? b = some u → h'.get? b = some u) (hp : h.objs.size ≤ a) (hn : H a = none) : Un fs ex H (upd H a o) h h' where
  keep := fun b u q _ _ _ => k b u q
  slot := fun b u q _ _ _ => ⟨u.slots, k b u q⟩
  free := fun b u q n _ => by rw [upd_ne (Nat.ne_of_lt (Nat.lt_of_lt_of_le (Heap.lt_size q) hp))]; exact n
  there := fun b u q _ => ⟨u, k b u q⟩
  tups := fun b xs q => by rw [upd_ne (ne_of_none q hn)]; exact q
  frzs := fun b u xs q => by rw [upd_ne (ne_of_none q hn)]; exact q
  tbls := fun b ps q => ⟨#[], by rw [upd_ne (ne_of_none q hn), q]; simp⟩
theorem Un.write (mu : Mut (H x)) (he : e = x ∨ H e = some (.own x)) (k : ∀ b u, b ≠ e → h.get? b = some u → h'.get? b = some u) (heo : ∃ u, h'.get? e = some u) : Un fs ex H (upd H x o) h h' := by
  have hx : ∀ b, H b = none → b ≠ x := fun b n z => by subst z; rw [n] at mu; exact mu
  have hb : ∀ b, H b = none → b ≠ e := fun b n z => by
    subst z
    rcases he with r | r
    · exact hx b n r
    · rw [n] at r; cases r
  have hm : ∀ b u, H b = some u → ¬ Mut (some u) → b ≠ x := fun b u q nm z => by subst z; rw [q] at mu; exact nm mu
  refine ⟨fun b u q n _ _ => k b u (hb b n) q, fun b u q n _ _ => ⟨u.slots, k b u (hb b n) q⟩, fun b u q n _ => by rw [upd_ne (hx b n)]; exact n, fun b u q _ => ?_,
    fun b xs q => by rw [upd_ne (hm b _ q fun z => z)]; exact q, fun b u xs q => by rw [upd_ne (hm b _ q fun z => z)]; exact q, fun b ps q => ⟨#[], by rw [upd_ne (hm b _ q fun z => z), q]; simp⟩⟩
  by_cases hbe : b = e
  · subst hbe; exact heo
  · exact ⟨u, k b u hbe q⟩
end

def trk (h : Heap) (H : Hp) : List Addr := (List.range h.objs.size).filter fun a => (H a).isSome
def hidT (h : Heap) (H : Hp) : Heap := PySem.W.hideAll h (trk h H)
theorem hidT_size (h : Heap) (H : Hp) : (hidT h H).objs.size = h.objs.size := PySem.W.hideAll_size _ _
theorem hidT_get {h : Heap} {H : Hp} {b : Addr} {o : Obj} (e : h.get? b = some o) (n : H b = none) : (hidT h H).get? b = some o :=
  PySem.W.hideAll_get _ e fun hm => by
    have q : (H b).isSome = true := (List.mem_filter.mp hm).2
    rw [n] at q; simp at q
theorem of_hidT {h : Heap} {H : Hp} {b : Addr} {o : Obj} (e : (hidT h H).get? b = some o) : h.get? b = some o ∧ H b = none := by
  have e' : h.get? b = some o := PySem.W.of_hideAll (trk h H) e
  refine ⟨e', ?_⟩
  cases q : H b with
  | none => rfl
  | some x =>
    have hm : b ∈ trk h H := List.mem_filter.mpr ⟨List.mem_range.mpr (Heap.lt_size e'), by simp [q]⟩
    have z : (hidT h H).get? b = none := PySem.W.hideAll_none (trk h H) hm
    rw [z] at e; cases e

def allNews (g h : Heap) (L : Addr) : List (Addr × Obj) := (List.range h.objs.size).filterMap fun a => if a = L ∨ (g.get? a).isSome = true then none else (h.get? a).map fun o => (a, o)
def rest (g h : Heap) (L d : Addr) : List (Addr × Obj) := (allNews g h L).filter fun p => decide (p.1 ≠ d)
end L2

namespace L2
open PySem PySem.Spec PyProof.Rows

structure Mod (K : PySem.W.Frag) (mg : Str → Option Value) (base : Heap) : Prop where
  kin : K.In base
  glob : base.Ns mainGlobals mg
  blt : ∃ mb, base.Ns builtinsNs mb ∧ ∀ x : Str, x ≠ "__name__" → mb x = bootBuiltins x
  nolimit : base.NoLimit

structure Cx where
  prog : Program
  w : World
  K : PySem.W.Frag
  mg : Str → Option Value
  base : Heap
  A : Around
  N : List Str
  s₀ : Shared
  H₀ : Hp
  env : Env
  outer : List Env
  stack : List Env
  ex : List Addr
  fn : Str → Bool
  calm : Bool
  pn : List (Addr × Obj)
  xe : Value → Shared → Prop
def frs (l : List Env) : List Addr := l.filterMap (·.frame)
abbrev Cx.fs (X : Cx) : List Addr := frs X.outer

def Vis (sc : Scope) (x : Str) : Prop := sc.names.lookup x = some .local ∨ sc.names.lookup x = some .cell ∨ sc.names.lookup x = some .free
def Loc (sc : Scope) (x : Str) : Prop := sc.names.lookup x = some .local ∨ sc.names.lookup x = some .cell
def Look (env : Env) (h : Heap) (m : Str → Option Value) (x : Str) (u : Value) : Prop :=
  (env.kindOf x = some .local ∧ m x = some u) ∨ ((env.kindOf x = some .cell ∨ env.kindOf x = some .free) ∧ ∃ c, env.cells.lookup x = some c ∧ h.IsCell c (some u))

structure Cx.Ok (X : Cx) : Prop where
  mod : Mod X.K X.mg X.base
  kind : X.env.scope.kind = .function
  glob : X.env.globals = mainGlobals
  blt : X.env.builtins = builtinsNs
  above : X.s₀.heap.objs.size ≤ X.env.locals
  inj : ∀ x y c, X.env.cells.lookup x = some c → X.env.cells.lookup y = some c → x = y
  has : ∀ x, (X.env.kindOf x = some .cell ∨ X.env.kindOf x = some .free) → ∃ c, X.env.cells.lookup x = some c
  cab : ∀ x c, X.fn x = true → X.env.cells.lookup x = some c → X.s₀.heap.objs.size ≤ c
  hd : X.calm = true → X.A.handled = none
  frames : X.A.frames = some X.stack
  stk : X.stack = X.outer ∨ (X.stack = X.env :: X.outer ∧ X.env.frame = some X.env.locals)
  exf : ∀ b ∈ X.ex, b ≠ X.env.locals ∧ ∀ x c, X.env.cells.lookup x = some c → c ≠ b
  bs : ∀ b o, X.base.get? b = some o → X.s₀.heap.get? b = some o ∧ X.H₀ b = none
  bsz : X.base.objs.size ≤ X.s₀.heap.objs.size
  noex : ∀ b o, X.base.get? b = some o → b ∉ X.ex
  exfs : ∀ b ∈ X.ex, b ∉ X.fs
  funs : X.s₀.heap.FunFrames X.base X.outer
  frf : ∀ b ∈ X.fs, X.H₀ b = none

structure Inv (X : Cx) (pins : List (Addr × Obj)) (σ : List (Option V)) (H : Hp) (s : Shared) : Prop where
  ok : X.Ok
  os : s.os = X.s₀.os
  bare : AllBare s.gens
  base : Un X.fs X.ex X.H₀ H X.s₀.heap s.heap
  loc : ∃ m, s.heap.Ns X.env.locals m ∧ ∀ (i : Nat) (x : Str) (v : V), X.N[i]? = some x → σ[i]? = some (some v) → Vis X.env.scope x → ∃ u, RelV v u ∧ Look X.env s.heap m x u
  cell : ∀ x c, X.env.cells.lookup x = some c → ∃ v, s.heap.IsCell c v
  free : H X.env.locals = none
  freeC : ∀ x c, X.env.cells.lookup x = some c → H c = none
  pin : ∀ p ∈ X.pn ++ pins, s.heap.get? p.1 = some p.2 ∧ H p.1 = none ∧ p.1 ≠ X.env.locals ∧ p.1 ∉ X.fs ∧ ∀ v, p.2.data ≠ .cell v
  hok : HOk X.prog X.w H s.heap
  len : σ.length = X.N.length

section
variable {X : Cx} {pins : List (Addr × Obj)} {σ : List (Option V)} {H H' : Hp} {s : Shared} {h' : Heap}

theorem Cx.Ok.nofr (ok : X.Ok) {b : Addr} {o : Obj} (e : X.base.get? b = some o) : b ∉ X.fs := fun hb => by
  have := (ok.funs.mem hb).1
  rw [e] at this; cases this
theorem Inv.bs (I : Inv X pins σ H s) : ∀ b o, X.base.get? b = some o → s.heap.get? b = some o ∧ H b = none := fun b o e =>
  ⟨I.base.keep b o (I.ok.bs b o e).1 (I.ok.bs b o e).2 (I.ok.nofr e) (I.ok.noex b o e), I.base.free b o (I.ok.bs b o e).1 (I.ok.bs b o e).2 (I.ok.noex b o e)⟩
theorem Inv.bk (I : Inv X pins σ H s) : ∀ b o, X.base.get? b = some o → s.heap.get? b = some o := fun b o e => (I.bs b o e).1
theorem Inv.mod (I : Inv X pins σ H s) : Mod X.K X.mg X.base := I.ok.mod
theorem Inv.kIn (I : Inv X pins σ H s) : X.K.In s.heap := I.ok.mod.kin.keeps I.bk
theorem Inv.lt (I : Inv X pins σ H s) : X.env.locals < s.heap.objs.size := let ⟨_, hn, _⟩ := I.loc; hn.lt
theorem Inv.sz (I : Inv X pins σ H s) : X.s₀.heap.objs.size ≤ s.heap.objs.size := Nat.le_trans I.ok.above (Nat.le_of_lt I.lt)
theorem Inv.nofs (I : Inv X pins σ H s) {a : Addr} (h : s.heap.objs.size ≤ a) : a ∉ X.fs := fun hb => by
  obtain ⟨_, o, ho, _⟩ := I.ok.funs.mem hb
  exact absurd (Nat.lt_of_lt_of_le (Heap.lt_size ho) (Nat.le_trans I.sz h)) (Nat.lt_irrefl _)
theorem Inv.cne (I : Inv X pins σ H s) : ∀ x c, X.env.cells.lookup x = some c → c ≠ X.env.locals := fun x c e z => by
  obtain ⟨v, o, ho, hd⟩ := I.cell x c e
  obtain ⟨m, ⟨o', es, ep, ho', hd', _⟩, _⟩ := I.loc
  rw [z, ho'] at ho; cases ho; rw [hd'] at hd; cases hd
theorem Inv.funs (I : Inv X pins σ H s) : s.heap.FunFrames X.base X.outer := by
  have all : ∀ (l : List Env), (∀ b ∈ frs l, b ∈ X.fs) → X.s₀.heap.FunFrames X.base l → s.heap.FunFrames X.base l := by
    intro l
    induction l with
    | nil => intro _ _; trivial
    | cons env r ih =>
      intro hs hl
      obtain ⟨hk, ⟨L, o, hf, hn, ho, hd⟩, hr⟩ := hl
      have hL : L ∈ X.fs := hs L (by unfold frs; rw [List.filterMap_cons, hf]; exact List.mem_cons_self)
      obtain ⟨sl, e⟩ := I.base.slot L o ho (I.ok.frf L hL) hL fun z => I.ok.exfs L z hL
      exact ⟨hk, ⟨L, _, hf, hn, e, hd⟩, ih (fun b hb => hs b (by unfold frs; rw [List.filterMap_cons, hf]; exact List.mem_cons_of_mem _ hb)) hr⟩
  exact all X.outer (fun _ hb => hb) I.ok.funs

theorem Inv.stack (I : Inv X pins σ H s) : s.heap.FunFrames X.base X.stack := by
  rcases I.ok.stk with e | ⟨e, hf⟩
  · rw [e]; exact I.funs
  · rw [e]
    obtain ⟨m, hn, _⟩ := I.loc
    refine .cons (by rw [I.ok.kind]; decide) hf hn ?_ I.funs
    exact Heap.get?_none_of_le (Nat.le_trans I.ok.bsz I.ok.above)
theorem Inv.stkSub (I : Inv X pins σ H s) : ∀ b ∈ frs X.stack, b ∈ X.env.locals :: X.fs := fun b hb => by
  rcases I.ok.stk with e | ⟨e, hf⟩
  · rw [e] at hb; exact List.mem_cons_of_mem _ hb
  · rw [e] at hb
    unfold frs at hb
    rw [List.filterMap_cons, hf] at hb
    exact hb
theorem Inv.stkFree (I : Inv X pins σ H s) : ∀ b ∈ frs X.stack, H b = none := fun b hb => by
  rcases List.mem_cons.mp (I.stkSub b hb) with e | hb
  · rw [e]; exact I.free
  · obtain ⟨_, o, ho, _⟩ := I.ok.funs.mem hb
    exact I.base.free b o ho (I.ok.frf b hb) fun z => I.ok.exfs b z hb

theorem Inv.step {g' : Array GenState} {t' : Nat} {d' : Drawn} {ch : List Addr} (I : Inv X pins σ H s)
    (hch : ∀ b ∈ ch, (b ∈ X.ex ∨ X.s₀.heap.objs.size ≤ b) ∧ b ≠ X.env.locals ∧ (∀ x c, X.env.cells.lookup x = some c → c ≠ b) ∧ ∀ p ∈ X.pn ++ pins, p.1 ≠ b)
    (keep : ∀ b o, b ≠ X.env.locals → b ∉ X.fs → b ∉ ch → s.heap.get? b = some o → H b = none → h'.get? b = some o)
    (slot : ∀ b o, b ≠ X.env.locals → b ∈ X.fs → b ∉ ch → s.heap.get? b = some o → H b = none → ∃ sl, h'.get? b = some { o with slots := sl }) (free : ∀ b o, b ∉ ch → s.heap.get? b = some o → H b = none → H' b = none)
    (there : ∀ b o, b ∉ ch → s.heap.get? b = some o → ∃ o', h'.get? b = some o')
    (tups : ∀ b xs, H b = some (.tup xs) → H' b = some (.tup xs)) (frzs : ∀ b o u, H b = some (.frz o u) → H' b = some (.frz o u)) (tbls : ∀ b ps, H b = some (.tbl ps) → ∃ more, H' b = some (.tbl (ps ++ more)))
    (ns : ∀ m, s.heap.Ns X.env.locals m → h'.Ns X.env.locals m) (hok : HOk X.prog X.w H' h') (hg : AllBare g') :
    Inv X pins σ H' { s with heap := h', gens := g', drawn := d', toks := t' } := by
  have neL : ∀ b o, X.s₀.heap.get? b = some o → b ≠ X.env.locals := fun b o e => Nat.ne_of_lt (Nat.lt_of_lt_of_le (Heap.lt_size e) I.ok.above)
  have neC : ∀ b o, X.s₀.heap.get? b = some o → b ∉ X.ex → b ∉ ch := fun b o e hx hb => by
    rcases (hch b hb).1 with z | z
    · exact hx z
    · exact absurd (Nat.lt_of_lt_of_le (Heap.lt_size e) z) (Nat.lt_irrefl _)
  have cellK : ∀ x c, X.env.cells.lookup x = some c → ∀ v, s.heap.IsCell c v → h'.IsCell c v := fun x c e v ⟨o, ho, hd⟩ => by
    have nch : c ∉ ch := fun z => (hch c z).2.2.1 x c e rfl
    by_cases hc : c ∈ X.fs
    · obtain ⟨sl, q⟩ := slot c o (I.cne x c e) hc nch ho (I.freeC x c e)
      exact ⟨_, q, hd⟩
    · exact ⟨o, keep c o (I.cne x c e) hc nch ho (I.freeC x c e), hd⟩
  refine ⟨I.ok, I.os, hg, ⟨fun b o e n hb hx => ?_, fun b o e n hb hx => ?_, fun b o e n hx => ?_, fun b o e hx => ?_, fun b xs e => tups b xs (I.base.tups b xs e), fun b o xs e => frzs b o xs (I.base.frzs b o xs e), fun b ps e => ?_⟩, ?_, fun x c e => ?_, ?_, fun x c e => ?_, fun p hp => ?_, hok, I.len⟩
  · exact keep b o (neL b o e) hb (neC b o e hx) (I.base.keep b o e n hb hx) (I.base.free b o e n hx)
  · obtain ⟨sl, e1⟩ := I.base.slot b o e n hb hx
    obtain ⟨sl', e2⟩ := slot b _ (neL b o e) hb (neC b o e hx) e1 (I.base.free b o e n hx)
    exact ⟨sl', e2⟩
  · obtain ⟨o', e1⟩ := I.base.there b o e hx
    exact free b o' (neC b o e hx) e1 (I.base.free b o e n hx)
  · obtain ⟨o', e1⟩ := I.base.there b o e hx
    exact there b o' (neC b o e hx) e1
  · obtain ⟨m1, e1⟩ := I.base.tbls b ps e
    obtain ⟨m2, e2⟩ := tbls b _ e1
    exact ⟨m1 ++ m2, by rw [e2, Array.append_assoc]⟩
  · obtain ⟨m, hn, hl⟩ := I.loc
    refine ⟨m, ns m hn, fun i x v e1 e2 e3 => ?_⟩
    obtain ⟨u, r, l⟩ := hl i x v e1 e2 e3
    refine ⟨u, r, ?_⟩
    rcases l with l | ⟨k, c, e, z⟩
    · exact .inl l
    · exact .inr ⟨k, c, e, cellK x c e _ z⟩
  · obtain ⟨v, z⟩ := I.cell x c e
    exact ⟨v, cellK x c e v z⟩
  · obtain ⟨m, ⟨o, _, _, ho, _⟩, _⟩ := I.loc
    exact free _ o (fun z => (hch _ z).2.1 rfl) ho I.free
  · obtain ⟨v, o, ho, hd⟩ := I.cell x c e
    exact free c o (fun z => (hch c z).2.2.1 x c e rfl) ho (I.freeC x c e)
  · obtain ⟨e, n, ne, nf, d⟩ := I.pin p hp
    have nch : p.1 ∉ ch := fun z => (hch p.1 z).2.2.2 p hp rfl
    exact ⟨keep p.1 p.2 ne nf nch e n, free p.1 p.2 nch e n, ne, nf, d⟩
theorem Inv.un {t' : Nat} (I : Inv X pins σ H s) (u : Un X.fs [] H H' s.heap h') (hok : HOk X.prog X.w H' h') : Inv X pins σ H' { s with heap := h', toks := t' } := by
  obtain ⟨m, ⟨o, es, ep, ho, r⟩, _⟩ := id I.loc
  obtain ⟨sl, hL⟩ := u.any ho I.free (by simp)
  exact I.step (g' := s.gens) (d' := s.drawn) (ch := []) (fun _ z => nomatch z) (fun b o _ hb _ e n => u.keep b o e n hb (by simp)) (fun b o _ hb _ e n => u.slot b o e n hb (by simp)) (fun b o _ e n => u.free b o e n (by simp)) (fun b o _ e => u.there b o e (by simp)) u.tups u.frzs u.tbls (fun m' hm => by
    obtain ⟨o', es', ep', ho', r'⟩ := hm
    rw [ho] at ho'; cases ho'
    exact ⟨_, es', ep', hL, r'⟩) hok I.bare
theorem Inv.call {g' : Array GenState} {t' : Nat} {d' : Drawn} {ch : List Addr} (I : Inv X pins σ H s) (u : Un (frs X.stack) ch H H' s.heap h') (hok : HOk X.prog X.w H' h') (hg : AllBare g')
    (hch : ∀ b ∈ ch, (b ∈ X.ex ∨ X.s₀.heap.objs.size ≤ b) ∧ b ≠ X.env.locals ∧ (∀ x c, X.env.cells.lookup x = some c → c ≠ b) ∧ ∀ p ∈ X.pn ++ pins, p.1 ≠ b) :
    Inv X pins σ H' { s with heap := h', gens := g', drawn := d', toks := t' } := by
  obtain ⟨m, ⟨o, es, ep, ho, r⟩, _⟩ := id I.loc
  obtain ⟨sl, hL⟩ := u.any ho I.free fun z => (hch _ z).2.1 rfl
  exact I.step (ch := ch) hch (fun b o hL hb hc e n => u.keep b o e n (fun z => (List.mem_cons.mp (I.stkSub b z)).elim hL hb) hc) (fun b o _ _ hc e n => u.any e n hc) (fun b o hc e n => u.free b o e n hc) (fun b o hc e => u.there b o e hc) u.tups u.frzs u.tbls (fun m' hm => by
    obtain ⟨o', es', ep', ho', r'⟩ := hm
    rw [ho] at ho'; cases ho'
    exact ⟨_, es', ep', hL, r'⟩) hok hg
theorem Inv.turned {t' : Nat} {it : Addr} (I : Inv X pins σ H s) (k : ∀ b o, b ≠ it → s.heap.get? b = some o → h'.get? b = some o) (hn : H it = none) (hL : it ≠ X.env.locals)
    (h1 : it ∈ X.ex ∨ X.s₀.heap.objs.size ≤ it) (h2 : ∀ x c, X.env.cells.lookup x = some c → c ≠ it) (h3 : ∀ p ∈ X.pn ++ pins, p.1 ≠ it) : Inv X pins σ H { s with heap := h', toks := t' } := by
  have nit : ∀ b u, H b = some u → b ≠ it := fun b u e z => by rw [z, hn] at e; cases e
  refine I.step (g' := s.gens) (d' := s.drawn) (ch := [it]) (fun b hb => ?_) (fun b o _ _ hc e _ => k b o (fun z => hc (by simp [z])) e) (fun b o _ _ hc e _ => ⟨o.slots, k b o (fun z => hc (by simp [z])) e⟩) (fun _ _ _ _ n => n)
    (fun b o hc e => ⟨o, k b o (fun z => hc (by simp [z])) e⟩) (fun _ _ e => e) (fun _ _ _ e => e) (fun b ps e => ⟨#[], by rw [e]; simp⟩) (fun m hm => ?_) (fun b u e => ?_) I.bare
  · have e : b = it := by simpa using hb
    subst e
    exact ⟨h1, hL, h2, h3⟩
  · obtain ⟨o, es, ep, ho, r⟩ := hm
    exact ⟨o, es, ep, k _ o (Ne.symm hL) ho, r⟩
  · refine (I.hok b u e).stay (fun c v hc q => k c v ?_ q) (fun _ q => q) fun _ _ q => q
    rcases hc with z | z
    · rw [z]; exact nit b u e
    · exact nit c _ z
theorem Inv.tok (I : Inv X pins σ H s) (t : Nat) : Inv X pins σ H { s with toks := t } := I.un (h' := s.heap) (t' := t) Un.refl I.hok
theorem Inv.kept {t' : Nat} (I : Inv X pins σ H s) (k : ∀ b u, s.heap.get? b = some u → h'.get? b = some u) : Inv X pins σ H { s with heap := h', toks := t' } := I.un (Un.kept k) (I.hok.kept k)
theorem Inv.laid {a : Addr} {o : HO} {t' : Nat} (I : Inv X pins σ H s) (k : ∀ b u, s.heap.get? b = some u → h'.get? b = some u) (hp : s.heap.objs.size ≤ a) (new : ObjOk X.prog X.w (upd H a o) h' a o) :
    Inv X pins σ (upd H a o) { s with heap := h', toks := t' } := I.un (Un.laid k hp (I.hok.fresh hp)) (I.hok.laid k hp new)
theorem Inv.write {x e : Addr} {o : HO} {t' : Nat} (I : Inv X pins σ H s) (mu : Mut (H x)) (he : e = x ∨ H e = some (.own x)) (k : ∀ b u, b ≠ e → s.heap.get? b = some u → h'.get? b = some u) (heo : ∃ u, h'.get? e = some u)
    (new : ObjOk X.prog X.w (upd H x o) h' x o) : Inv X pins σ (upd H x o) { s with heap := h', toks := t' } := I.un (Un.write mu he k heo) (I.hok.write mu he k heo new)
theorem Inv.pins_of {pins' : List (Addr × Obj)} (I : Inv X pins σ H s) (h : ∀ p ∈ pins', s.heap.get? p.1 = some p.2 ∧ H p.1 = none ∧ p.1 ≠ X.env.locals ∧ p.1 ∉ X.fs ∧ ∀ v, p.2.data ≠ .cell v) : Inv X pins' σ H s :=
  ⟨I.ok, I.os, I.bare, I.base, I.loc, I.cell, I.free, I.freeC, fun p hp => (List.mem_append.mp hp).elim (fun z => I.pin p (List.mem_append_left _ z)) (h p), I.hok, I.len⟩

theorem nodup_ix {N : List Str} (hN : N.Nodup) {i j : Nat} {x : Str} (a : N[i]? = some x) (b : N[j]? = some x) : i = j := by
  obtain ⟨h1, e1⟩ := List.getElem?_eq_some_iff.mp a
  obtain ⟨h2, e2⟩ := List.getElem?_eq_some_iff.mp b
  exact (List.getElem_inj hN).mp (e1.trans e2.symm)

theorem store_ok2 {M : Model} {A : Around} {E : Value → Shared → Prop} {i : Nat} {x : Str} {v : V} {u : Value} {Q : Unit → Shared → Prop} (I : Inv X pins σ H s) (hN : X.N.Nodup) (hi : X.N[i]? = some x) (hx : Loc X.env.scope x) (r : RelV v u)
    (h : ∀ s', Inv X pins (σ.set i (some v)) H s' → (∃ a, Heap.SameBut a s.heap s'.heap ∧ (a = X.env.locals ∨ X.env.cells.lookup x = some a)) → Q () s') (hf : X.fn x = true ∨ X.env.scope.names.lookup x = some .local := by first | exact .inl rfl | exact .inr rfl | assumption) : wpAny M A (storeName X.env x u) Q E s := by
  obtain ⟨m, hn, hl⟩ := id I.loc
  have hcls : (X.env.scope.kind == .class || (X.env.scope.kind == .module && X.env.locals != X.env.globals)) = false := by rw [I.ok.kind]; rfl
  have hiσ : i < σ.length := by rw [I.len]; exact (List.getElem?_eq_some_iff.mp hi).1
  have cne := I.cne
  have tracked : ∀ {a : Addr} {h' : Heap}, (∃ o, s.heap.get? a = some o ∧ H a = none) → Heap.SameBut a s.heap h' → HOk X.prog X.w H h' := fun {a h'} ha hs b ob e => by
    obtain ⟨_, _, hfree⟩ := ha
    refine (I.hok b ob e).stay (fun c w' hc q => (hs.2 c ?_).trans q) (fun _ q => q) fun _ _ q => q
    rintro rfl
    rcases hc with rfl | hc
    · rw [hfree] at e; cases e
    · rw [hfree] at hc; cases hc
  rcases hx with hk | hk
  · refine wpAny_storeName_local hk hn (fun h' hn' hs => ?_) hcls
    obtain ⟨oL, _, _, hoL, _⟩ := id hn
    refine h _ ⟨I.ok, I.os, I.bare, ⟨fun b o e n hb hx => ?_, fun b o e n hb hx => ?_, I.base.free, fun b o e hx => ?_, I.base.tups, I.base.frzs, I.base.tbls⟩, ⟨_, hn', fun j y v' e1 e2 e3 => ?_⟩, fun y c e => ?_, I.free, I.freeC, fun p hp => ?_, tracked ⟨oL, hoL, I.free⟩ hs, by simpa using I.len⟩ ⟨_, hs, .inl rfl⟩
    · exact (hs.2 b (Nat.ne_of_lt (Nat.lt_of_lt_of_le (Heap.lt_size e) I.ok.above))).trans (I.base.keep b o e n hb hx)
    · obtain ⟨sl, e1⟩ := I.base.slot b o e n hb hx
      exact ⟨sl, (hs.2 b (Nat.ne_of_lt (Nat.lt_of_lt_of_le (Heap.lt_size e) I.ok.above))).trans e1⟩
    · obtain ⟨o', e1⟩ := I.base.there b o e hx
      exact ⟨o', (hs.2 b (Nat.ne_of_lt (Nat.lt_of_lt_of_le (Heap.lt_size e) I.ok.above))).trans e1⟩
    · by_cases hj : j = i
      · subst hj
        rw [hi] at e1; cases e1
        rw [List.getElem?_set_self hiσ] at e2
        cases e2
        exact ⟨u, r, .inl ⟨hk, by simp⟩⟩
      · rw [List.getElem?_set_ne (Ne.symm hj)] at e2
        obtain ⟨u', r', q⟩ := hl j y v' e1 e2 e3
        refine ⟨u', r', ?_⟩
        rcases q with ⟨k, e⟩ | ⟨k, c, e, z⟩
        · refine .inl ⟨k, ?_⟩
          have : y ≠ x := fun e => hj (nodup_ix hN e1 (e ▸ hi))
          simp [this, e]
        · exact .inr ⟨k, c, e, z.sameBut hs (cne y c e)⟩
    · obtain ⟨w', z⟩ := I.cell y c e
      exact ⟨w', z.sameBut hs (cne y c e)⟩
    · obtain ⟨e, n, ne, nf, d⟩ := I.pin p hp
      exact ⟨(hs.2 p.1 ne).trans e, n, ne, nf, d⟩
  · have hfn : X.fn x = true := by
      rcases hf with z | z
      · exact z
      · rw [z] at hk; cases hk
    obtain ⟨c, hc⟩ := I.ok.has x (.inl hk)
    obtain ⟨w', z⟩ := I.cell x c hc
    refine wpAny_storeName_cell I.ok.kind hk hc z (fun h' hc' hs => ?_)
    obtain ⟨oc, hoc, hocd⟩ := id z
    refine h { s with heap := h' } ⟨I.ok, I.os, I.bare, ⟨fun b o e n hb hx => ?_, fun b o e n hb hx => ?_, I.base.free, fun b o e hx => ?_, I.base.tups, I.base.frzs, I.base.tbls⟩, ⟨m, hn.sameBut hs (Ne.symm (cne x c hc)), fun j y v' e1 e2 e3 => ?_⟩, fun y c' e => ?_, I.free, I.freeC, fun p hp => ?_, tracked ⟨oc, hoc, I.freeC x c hc⟩ hs, by simpa using I.len⟩ ⟨c, hs, .inr hc⟩
    · exact (hs.2 b (Nat.ne_of_lt (Nat.lt_of_lt_of_le (Heap.lt_size e) (I.ok.cab x c hfn hc)))).trans (I.base.keep b o e n hb hx)
    · obtain ⟨sl, e1⟩ := I.base.slot b o e n hb hx
      exact ⟨sl, (hs.2 b (Nat.ne_of_lt (Nat.lt_of_lt_of_le (Heap.lt_size e) (I.ok.cab x c hfn hc)))).trans e1⟩
    · obtain ⟨o', e1⟩ := I.base.there b o e hx
      exact ⟨o', (hs.2 b (Nat.ne_of_lt (Nat.lt_of_lt_of_le (Heap.lt_size e) (I.ok.cab x c hfn hc)))).trans e1⟩
    · by_cases hj : j = i
      · subst hj
        rw [hi] at e1; cases e1
        rw [List.getElem?_set_self hiσ] at e2
        cases e2
        exact ⟨u, r, .inr ⟨.inl hk, c, hc, hc'⟩⟩
      · rw [List.getElem?_set_ne (Ne.symm hj)] at e2
        obtain ⟨u', r', q⟩ := hl j y v' e1 e2 e3
        refine ⟨u', r', ?_⟩
        rcases q with q | ⟨k, c', e, z'⟩
        · exact .inl q
        · refine .inr ⟨k, c', e, z'.sameBut hs ?_⟩
          rintro rfl
          exact hj (nodup_ix hN e1 (I.ok.inj _ _ _ e hc ▸ hi))
    · by_cases hcc : c' = c
      · subst hcc; exact ⟨_, hc'⟩
      · obtain ⟨w2, z2⟩ := I.cell y c' e
        exact ⟨w2, z2.sameBut hs hcc⟩
    · obtain ⟨e, n, ne, nf, d⟩ := I.pin p hp
      refine ⟨(hs.2 p.1 ?_).trans e, n, ne, nf, d⟩
      intro q
      rw [q, hoc] at e
      have q' : oc = p.2 := Option.some.inj e
      exact d w' (by rw [← q']; exact hocd)
theorem store_ok {M : Model} {A : Around} {E : Value → Shared → Prop} {i : Nat} {x : Str} {v : V} {u : Value} {Q : Unit → Shared → Prop} (I : Inv X pins σ H s) (hN : X.N.Nodup) (hi : X.N[i]? = some x) (hx : Loc X.env.scope x) (r : RelV v u)
    (h : ∀ s', Inv X pins (σ.set i (some v)) H s' → Q () s') (hf : X.fn x = true ∨ X.env.scope.names.lookup x = some .local := by first | exact .inl rfl | exact .inr rfl | assumption) : wpAny M A (storeName X.env x u) Q E s :=
  store_ok2 I hN hi hx r (fun s' I' _ => h s' I') hf
theorem Inv.call' {s' : Shared} {ch : List Addr} (I : Inv X pins σ H s) (ho : s'.os = s.os) (u : Un (frs X.stack) ch H H' s.heap s'.heap) (hok : HOk X.prog X.w H' s'.heap) (hg : AllBare s'.gens)
    (hch : ∀ b ∈ ch, (b ∈ X.ex ∨ X.s₀.heap.objs.size ≤ b) ∧ b ≠ X.env.locals ∧ (∀ x c, X.env.cells.lookup x = some c → c ≠ b) ∧ ∀ p ∈ X.pn ++ pins, p.1 ≠ b) : Inv X pins σ H' s' := by
  obtain ⟨h', g', d', t', o'⟩ := s'
  have e : o' = s.os := ho
  subst e
  exact I.call (g' := g') (t' := t') (d' := d') u hok hg hch
end

abbrev XK := Value → Option Addr → Hp → Prop
abbrev St := List (Option V)
abbrev VK := V → Hp → Prop
abbrev TE := St → Hp → VK → Prop
abbrev TT := St → Hp → (Bool → Hp → Prop) → Prop
abbrev TA := St → Hp → (List V → Hp → Prop) → Prop
structure Ends where
  nx : St → Hp → Prop
  rt : VK
  bk : St → Hp → Prop := fun _ _ => False
  ct : St → Hp → Prop := fun _ _ => False
abbrev TS := Ends → St → Hp → Prop

def EP (X : Cx) (pins : List (Addr × Obj)) (σ : St) (Q : VK) (u : Value) (s' : Shared) : Prop := ∃ v H', Inv X pins σ H' s' ∧ RelV v u ∧ Q v H'
def TP (X : Cx) (pins : List (Addr × Obj)) (σ : St) (Q : Bool → Hp → Prop) (b : Bool) (s' : Shared) : Prop := ∃ H', Inv X pins σ H' s' ∧ Q b H'
def AP (X : Cx) (pins : List (Addr × Obj)) (σ : St) (Q : List V → Hp → Prop) (us : List Value) (s' : Shared) : Prop := ∃ vs H', Inv X pins σ H' s' ∧ Vals vs us ∧ Q vs H'
def SP (X : Cx) (pins : List (Addr × Obj)) (D : Ends) (f : Flow) (s' : Shared) : Prop :=
  match f with
  | .next => ∃ σ' H', Inv X pins σ' H' s' ∧ D.nx σ' H'
  | .brk => ∃ σ' H', Inv X pins σ' H' s' ∧ D.bk σ' H'
  | .cont => ∃ σ' H', Inv X pins σ' H' s' ∧ D.ct σ' H'
  | .ret u => ∃ v σ' H', Inv X pins σ' H' s' ∧ RelV v u ∧ D.rt v H'

def PE (X : Cx) (e : Expr) (t : TE) : Prop :=
  ∀ (pins : List (Addr × Obj)) (s : Shared) (σ : St) (H : Hp) (Q : VK), Inv X pins σ H s → t σ H Q → wpAny (model X.prog X.w) X.A (eval e X.env) (EP X pins σ Q) X.xe s
def PT (X : Cx) (e : Expr) (t : TT) : Prop :=
  ∀ (pins : List (Addr × Obj)) (s : Shared) (σ : St) (H : Hp) (Q : Bool → Hp → Prop), Inv X pins σ H s → t σ H Q → wpAny (model X.prog X.w) X.A (isTrue e X.env (eval e X.env)) (TP X pins σ Q) X.xe s
def PW (X : Cx) (e : Expr) (t : TT) : Prop :=
  ∀ (whole : Sem Value) (pins : List (Addr × Obj)) (s : Shared) (σ : St) (H : Hp) (Q : Bool → Hp → Prop), Inv X pins σ H s → t σ H Q → wpAny (model X.prog X.w) X.A (isTrue e X.env whole) (TP X pins σ Q) X.xe s
theorem PW.pt {X : Cx} {e : Expr} {t : TT} (h : PW X e t) : PT X e t := h _
def PA (X : Cx) (es : List Expr) (t : TA) : Prop :=
  ∀ (pos : Pos) (pins : List (Addr × Obj)) (s : Shared) (σ : St) (H : Hp) (Q : List V → Hp → Prop), Inv X pins σ H s → t σ H Q → wpAny (model X.prog X.w) X.A (spliced (backTo pos (starEach es X.env))) (AP X pins σ Q) X.xe s
def PS (X : Cx) (st : Stmt) (t : TS) : Prop :=
  ∀ (pins : List (Addr × Obj)) (s : Shared) (σ : St) (H : Hp) (D : Ends), Inv X pins σ H s → t D σ H → wpAny (model X.prog X.w) X.A (exec st X.env) (SP X pins D) X.xe s
def PSs (X : Cx) (st : List Stmt) (t : TS) : Prop :=
  ∀ (pins : List (Addr × Obj)) (s : Shared) (σ : St) (H : Hp) (D : Ends), Inv X pins σ H s → t D σ H → wpAny (model X.prog X.w) X.A (execs st X.env) (SP X pins D) X.xe s
theorem thn {α : Type} {t : Sem α} {Q Q' : α → Shared → Prop} {M : Model} {A : Around} {E : Value → Shared → Prop} {s : Shared} (h : wpAny M A t Q E s) (hQ : ∀ a s, Q a s → Q' a s) : wpAny M A t Q' E s := wpAny_mono h hQ fun _ _ x => x
end L2

namespace L2
open PySem PySem.Spec PyProof.Rows
section
variable {X : Cx}

def tVar (i : Nat) : TE := fun σ H Q => ∃ v, σ[i]? = some (some v) ∧ Q v H
def tC (v : V) : TE := fun _ H Q => Q v H
theorem pe_var {i : Nat} {x : Str} {pos : Pos} (hN : X.N[i]? = some x) (hv : Vis X.env.scope x) (hd : (x == ("__debug__" : Str)) = false := by decide) (hcd : (x == ("__classdict__" : Str)) = false := by decide) : PE X (.Name x pos) (tVar i) := by
  intro pins s σ H Q I h
  obtain ⟨v, e, h⟩ := h
  obtain ⟨m, hn, hl⟩ := I.loc
  obtain ⟨u, r, l⟩ := hl i x v hN e hv
  have fin : EP X pins σ Q u s := ⟨v, H, I, r, h⟩
  rcases l with ⟨hk, hm⟩ | ⟨hk, c, hc, hcell⟩
  · exact wpAny_Name (wpAny_loadName_local I.ok.kind hk hn hm fin) hd
  · rcases hk with hk | hk
    · exact wpAny_Name (wpAny_loadName_cell I.ok.kind hk hc hcell fin) hd
    · exact wpAny_Name (wpAny_loadName_free I.ok.kind hk hc hcell fin hcd) hd
theorem pe_int {i j pos} : PE X (.Constant (.int i) j pos) (tC (.int i)) := fun _ _ _ H _ I h => wpAny_Constant_int ⟨.int i, H, I.tok _, ⟨_, rfl⟩, h⟩
theorem pe_bl {b j pos} : PE X (.Constant (.bool b) j pos) (tC (.bl b)) := fun _ _ _ H _ I h => Constant_bool ⟨.bl b, H, I, rfl, h⟩
theorem pe_non {j pos} : PE X (.Constant .none j pos) (tC .non) := fun _ _ _ H _ I h => Constant_none ⟨.non, H, I, rfl, h⟩
theorem pe_str {x j pos} : PE X (.Constant (.str x) j pos) (tC (.str x)) := fun _ _ _ H _ I h => Calls.Constant_str ⟨.str x, H, I.tok _, ⟨_, rfl⟩, h⟩

def Gl (X : Cx) (x : Str) : Prop := X.env.kindOf x = some .globalImplicit
theorem ld_glob {E : Value → Shared → Prop} {pins : List (Addr × Obj)} {s : Shared} {σ : St} {H : Hp} {x : Str} {u : Value} {pos : Pos} {Q : Value → Shared → Prop} (I : Inv X pins σ H s) (hg : Gl X x) (hm : X.mg x = some u) (h : Q u s)
    (hd : (x == ("__debug__" : Str)) = false := by decide) : wpAny (model X.prog X.w) X.A (eval (.Name x pos) X.env) Q E s :=
  Calls.Name_function_global I.ok.kind hg (Calls.loadGlobal_global (by rw [I.ok.glob]; exact I.mod.glob.keeps I.bk) hm h) hd
theorem ld_blt {E : Value → Shared → Prop} {pins : List (Addr × Obj)} {s : Shared} {σ : St} {H : Hp} {x : Str} {u : Value} {pos : Pos} {Q : Value → Shared → Prop} (I : Inv X pins σ H s) (hg : Gl X x) (hm : X.mg x = none) (hv : bootBuiltins x = some u) (h : Q u s)
    (hn : x ≠ "__name__" := by decide) (hd : (x == ("__debug__" : Str)) = false := by decide) : wpAny (model X.prog X.w) X.A (eval (.Name x pos) X.env) Q E s := by
  obtain ⟨mb, h1, h2⟩ := I.mod.blt
  exact Calls.Name_function_global I.ok.kind hg (Calls.loadGlobal_builtin (by rw [I.ok.glob]; exact I.mod.glob.keeps I.bk) hm (by rw [I.ok.blt]; exact h1.keeps I.bk) ((h2 x hn).trans hv) h) hd
theorem pe_glob {x : Str} {v : V} {u : Value} {pos : Pos} (hg : Gl X x) (hm : X.mg x = some u) (r : RelV v u) (hd : (x == ("__debug__" : Str)) = false := by decide) : PE X (.Name x pos) (tC v) :=
  fun _ _ _ H _ I h => ld_glob I hg hm ⟨v, H, I, r, h⟩ hd
theorem pe_bltn {x : Str} {v : V} {u : Value} {pos : Pos} (hg : Gl X x) (hm : X.mg x = none) (hv : bootBuiltins x = some u) (r : RelV v u) (hn : x ≠ "__name__" := by decide) (hd : (x == ("__debug__" : Str)) = false := by decide) : PE X (.Name x pos) (tC v) :=
  fun _ _ _ H _ I h => ld_blt I hg hm hv ⟨v, H, I, r, h⟩ hn hd

def t2I (ta tb : TE) (k : Int → Int → Hp → Prop) : St → Hp → Prop := fun σ H => ta σ H fun x H1 => tb σ H1 fun y H2 => ∃ i j, x = .int i ∧ y = .int j ∧ k i j H2
def tAdd (ta tb : TE) : TE := fun σ H Q => t2I ta tb (fun i j H2 => Q (.int (i + j)) H2) σ H
def tSub (ta tb : TE) : TE := fun σ H Q => t2I ta tb (fun i j H2 => Q (.int (i - j)) H2) σ H
def tMul (ta tb : TE) : TE := fun σ H Q => t2I ta tb (fun i j H2 => (-(2 ^ 64) < i ∧ i < 2 ^ 64) ∧ Q (.int (i * j)) H2) σ H
variable {a b : Expr} {ta tb : TE} {pos : Pos}
def PC (X : Cx) (op : CmpOp) (a b : Expr) (t : TE) : Prop :=
  ∀ (pins : List (Addr × Obj)) (s : Shared) (σ : St) (H : Hp) (Q : VK), Inv X pins σ H s → t σ H Q →
    wpAny (model X.prog X.w) X.A (eval a X.env) (fun v s₁ => wpAny (model X.prog X.w) X.A (eval b X.env) (fun u s₂ => wpAny (model X.prog X.w) X.A (compareOp op v u) (EP X pins σ Q) X.xe s₂) X.xe s₁) X.xe s
def tCmp (p : Int → Int → Bool) (ta tb : TE) : TE := fun σ H Q => t2I ta tb (fun i j H2 => Q (.bl (p i j)) H2) σ H
abbrev tLt : TE → TE → TE := tCmp fun i j => decide (i < j)
abbrev tLe : TE → TE → TE := tCmp fun i j => decide (i ≤ j)
abbrev tGt : TE → TE → TE := tCmp fun i j => decide (j < i)
abbrev tGe : TE → TE → TE := tCmp fun i j => decide (j ≤ i)
abbrev tEqI : TE → TE → TE := tCmp fun i j => decide (i = j)
abbrev tNeI : TE → TE → TE := tCmp fun i j => !decide (i = j)
def tIsN (ta : TE) : TE := fun σ H Q => ta σ H fun x H1 => Q (.bl (decide (x = .non))) H1
def tNotN (ta : TE) : TE := fun σ H Q => ta σ H fun x H1 => Q (.bl (!decide (x = .non))) H1
def tB (t : TE) : TT := fun σ H Q => t σ H fun x H1 => ∃ c, x = .bl c ∧ Q c H1
theorem pt_cmp {op : CmpOp} {t : TE} (h : PC X op a b t) (h1 : behindInMarks op b = false := by first | exact nobehind _ (by decide) (by decide) | rfl) : PT X (.Compare a [op] [b] pos) (tB t) := by
  intro pins s σ H Q I hw
  refine wpAny_isTrue_Compare1 (thn (h pins s σ H _ I hw) fun v s1 h1 => thn h1 fun u s2 h2 => thn h2 fun c s3 ⟨x, H1, I1, r1, q1⟩ => ?_) h1
  obtain ⟨d, rfl, q⟩ := q1
  cases r1
  exact wpAny_truthy_bool ⟨H1, I1, q⟩
theorem pt_val {e : Expr} {t : TE} (h : PE X e t) (he : ∀ whole, isTrue e X.env whole = (do let v ← whole; standAt e.pos; holding [v] (truthy v)) := by intro _; rfl) : PT X e (tB t) := by
  intro pins s σ H Q I hw
  refine isTrue_plain (thn (h pins s σ H _ I hw) fun v s1 ⟨x, H1, I1, r1, q1⟩ => ?_) (he _)
  obtain ⟨d, rfl, q⟩ := q1
  cases r1
  exact wpAny_truthy_bool ⟨H1, I1, q⟩

variable {tA tB' : TT} {rest : List Expr}
def tAnd (t u : TT) : TT := fun σ H Q => t σ H fun c H1 => if c = true then u σ H1 Q else Q false H1
def tOr (t u : TT) : TT := fun σ H Q => t σ H fun c H1 => if c = true then Q true H1 else u σ H1 Q
def tNot (t : TT) : TT := fun σ H Q => t σ H fun c H1 => Q (!c) H1
theorem pw_and1 (ha : PT X a tA) : PW X (.BoolOp .And [a] pos) tA := by
  intro wh pins s σ H Q I h
  refine isTrue_and (thn (ha pins s σ H Q I h) fun c s1 e => ?_)
  cases c with
  | true => exact isTrue_and_nil e
  | false => exact e
theorem pw_or1 (ha : PT X a tA) : PW X (.BoolOp .Or [a] pos) tA := by
  intro wh pins s σ H Q I h
  refine isTrue_or (thn (ha pins s σ H Q I h) fun c s1 e => ?_)
  cases c with
  | false => exact isTrue_or_nil e
  | true => exact e
theorem pw_and (ha : PT X a tA) (hb : PW X (.BoolOp .And (b :: rest) pos) tB') : PW X (.BoolOp .And (a :: b :: rest) pos) (tAnd tA tB') := by
  intro wh pins s σ H Q I h
  refine isTrue_and (thn (ha pins s σ H _ I h) fun c s1 ⟨H1, I1, q1⟩ => ?_)
  cases c with
  | true => exact hb wh pins s1 σ H1 Q I1 q1
  | false => exact ⟨H1, I1, q1⟩
theorem pw_or (ha : PT X a tA) (hb : PW X (.BoolOp .Or (b :: rest) pos) tB') : PW X (.BoolOp .Or (a :: b :: rest) pos) (tOr tA tB') := by
  intro wh pins s σ H Q I h
  refine isTrue_or (thn (ha pins s σ H _ I h) fun c s1 ⟨H1, I1, q1⟩ => ?_)
  cases c with
  | true => exact ⟨H1, I1, q1⟩
  | false => exact hb wh pins s1 σ H1 Q I1 q1
theorem pt_not (ha : PT X a tA) : PT X (.UnaryOp .Not a pos) (tNot tA) := by
  intro pins s σ H Q I h
  exact isTrue_not (ha pins s σ H (fun c H1 => Q (!c) H1) I h)
def tAndV (ta tb : TE) : TE := fun σ H Q => ta σ H fun x H1 => ∃ c, x = .bl c ∧ if c = true then tb σ H1 Q else Q (.bl false) H1
def tOrV (ta tb : TE) : TE := fun σ H Q => ta σ H fun x H1 => ∃ c, x = .bl c ∧ if c = true then Q (.bl true) H1 else tb σ H1 Q
def tNotV (ta : TE) : TE := fun σ H Q => ta σ H fun x H1 => ∃ c, x = .bl c ∧ Q (.bl (!c)) H1
theorem pe_one {op} {t : TE} (h : PE X a t) : PE X (.BoolOp op [a] pos) t := fun pins s σ H Q I hw => BoolOp_one (h pins s σ H Q I hw)
theorem pe_and (ha : PE X a ta) (hb : PE X (.BoolOp .And (b :: rest) pos) tb) : PE X (.BoolOp .And (a :: b :: rest) pos) (tAndV ta tb) := by
  intro pins s σ H Q I h
  refine BoolOp_and (thn (ha pins s σ H _ I h) fun v s1 ⟨x, H1, I1, r1, q1⟩ => ?_)
  obtain ⟨c, rfl, q1⟩ := q1
  cases r1
  refine wpAny_truthy_bool ?_
  cases c with
  | true => exact hb pins s1 σ H1 Q I1 q1
  | false => exact ⟨.bl false, H1, I1, rfl, q1⟩
theorem pe_or (ha : PE X a ta) (hb : PE X (.BoolOp .Or (b :: rest) pos) tb) : PE X (.BoolOp .Or (a :: b :: rest) pos) (tOrV ta tb) := by
  intro pins s σ H Q I h
  refine BoolOp_or (thn (ha pins s σ H _ I h) fun v s1 ⟨x, H1, I1, r1, q1⟩ => ?_)
  obtain ⟨c, rfl, q1⟩ := q1
  cases r1
  refine wpAny_truthy_bool ?_
  cases c with
  | false => exact hb pins s1 σ H1 Q I1 q1
  | true => exact ⟨.bl true, H1, I1, rfl, q1⟩
theorem pe_not (ha : PE X a ta) : PE X (.UnaryOp .Not a pos) (tNotV ta) := by
  intro pins s σ H Q I h
  refine UnaryOp_ (thn (ha pins s σ H _ I h) fun v s1 ⟨x, H1, I1, r1, q1⟩ => ?_)
  obtain ⟨c, rfl, q1⟩ := q1
  cases r1
  exact not_of (wpAny_truthy_bool ⟨.bl (!c), H1, I1, rfl, q1⟩)
def tIf (t : TT) (ta tb : TE) : TE := fun σ H Q => t σ H fun c H1 => if c = true then ta σ H1 Q else tb σ H1 Q
theorem pe_ifExp {c : Expr} (hc : PT X c tA) (ha : PE X a ta) (hb : PE X b tb) : PE X (.IfExp c a b pos) (tIf tA ta tb) := by
  intro pins s σ H Q I h
  refine wpAny_IfExp (thn (hc pins s σ H _ I h) fun d s1 ⟨H1, I1, q1⟩ => ?_)
  cases d with
  | true => exact ha pins s1 σ H1 Q I1 q1
  | false => exact hb pins s1 σ H1 Q I1 q1
end
end L2

namespace L2
open PySem PySem.Spec PyProof.Rows

def SqL (K : PySem.W.Frag) (H : Hp) (a : Addr) (xs : List V) : Prop :=
  Rd H a (.lst xs) ∨
    ∃ (o : Obj) (its : Array Value) (n : Nat), K.lookup a = some o ∧ o.cls = .type "list" ∧ o.dict = none ∧ o.data = .seq its n ∧ its.size ≤ sizeLine ∧ Vals xs its.toList
def SqT (K : PySem.W.Frag) (H : Hp) (a : Addr) (xs : List V) : Prop :=
  Rd H a (.tup xs) ∨
    ∃ (o : Obj) (its : Array Value) (n : Nat), K.lookup a = some o ∧ o.cls = .type "tuple" ∧ o.data = .seq its n ∧ its.size ≤ sizeLine ∧ Vals xs its.toList
def absV : Value → Option V
  | .none => some .non
  | .bool b => some (.bl b)
  | .int i _ => some (.int i)
  | .str x _ => some (.str x)
  | .bytes b _ => some (.byt b)
  | .float b _ => some (.flt b)
  | .ref a => some (.ref a)
  | .type n => some (.ty n)
  | _ => none
theorem RelV.abs {x : V} {u : Value} (r : RelV x u) : absV u = some x := by
  cases x with
  | non => cases r; rfl
  | bl _ => cases r; rfl
  | int _ => obtain ⟨t, rfl⟩ := r; rfl
  | str _ => obtain ⟨t, rfl⟩ := r; rfl
  | byt _ => obtain ⟨t, rfl⟩ := r; rfl
  | flt _ => obtain ⟨t, rfl⟩ := r; rfl
  | ref _ => cases r; rfl
  | ty _ => cases r; rfl
theorem RelV.inj {x y : V} {u : Value} (r : RelV x u) (q : RelV y u) : x = y := Option.some.inj (r.abs.symm.trans q.abs)
theorem Vals.inj : ∀ {xs ys : List V} {us : List Value}, Vals xs us → Vals ys us → xs = ys
  | _, _, _, .nil, .nil => rfl
  | _, _, _, .cons r t, .cons r' t' => by rw [r.inj r', Vals.inj t t']
section
variable {X : Cx} {pins : List (Addr × Obj)} {σ : St} {H : Hp} {s : Shared} {a : Addr} {xs ys : List V}
theorem SqL.of {K : PySem.W.Frag} (h : H a = some (.lst xs)) : SqL K H a xs := .inl (.inl h)
theorem SqT.of {K : PySem.W.Frag} (h : H a = some (.tup xs)) : SqT K H a xs := .inl (.inl h)
theorem Inv.list (I : Inv X pins σ H s) (h : SqL X.K H a xs) : ∃ its : List Value, Vals xs its ∧ PlainL s.heap a its.toArray ∧ xs.length ≤ sizeLine := by
  rcases h with h | ⟨o, its, n, hk, hc, hd, hs, hz, r⟩
  · obtain ⟨z, its, n, r, e⟩ := h.ok I.hok
    exact ⟨its, r, ⟨_, n, e, rfl, rfl, rfl⟩, z⟩
  · refine ⟨its.toList, r, ⟨o, n, I.kIn a o hk, hc, hd, by simpa using hs⟩, ?_⟩
    have e := r.length
    simp only [Array.length_toList] at e
    omega
theorem Inv.tuple (I : Inv X pins σ H s) (h : SqT X.K H a xs) : ∃ its : List Value, Vals xs its ∧ IsTup s.heap a its.toArray ∧ xs.length ≤ sizeLine := by
  rcases h with h | ⟨o, its, n, hk, hc, hs, hz, r⟩
  · obtain ⟨z, its, r, p⟩ := h.ok I.hok
    exact ⟨its, r, p, z⟩
  · refine ⟨its.toList, r, ⟨o, I.kIn a o hk, hc, n, by simpa using hs⟩, ?_⟩
    have e := r.length
    simp only [Array.length_toList] at e
    omega
theorem Inv.list_inj (I : Inv X pins σ H s) (h : SqL X.K H a xs) (h' : SqL X.K H a ys) : xs = ys := by
  obtain ⟨its, r, ⟨o, n, e, _, _, d⟩, _⟩ := I.list h
  obtain ⟨its', r', ⟨o', n', e', _, _, d'⟩, _⟩ := I.list h'
  rw [e] at e'; cases e'
  rw [d] at d'
  injection d' with d1 _
  have : its = its' := by simpa using congrArg Array.toList d1
  subst this
  exact r.inj r'
theorem Inv.tuple_inj (I : Inv X pins σ H s) (h : SqT X.K H a xs) (h' : SqT X.K H a ys) : xs = ys := by
  obtain ⟨its, r, ⟨o, e, _, n, d⟩, _⟩ := I.tuple h
  obtain ⟨its', r', ⟨o', e', _, n', d'⟩, _⟩ := I.tuple h'
  rw [e] at e'; cases e'
  rw [d] at d'
  injection d' with d1 _
  have : its = its' := by simpa using congrArg Array.toList d1
  subst this
  exact r.inj r'
end

abbrev Cx.wish (X : Cx) (E : Value → Shared → Prop) : Cx := { X with xe := E }
abbrev Cx.nox (X : Cx) : Cx := X.wish fun _ _ => False
theorem Cx.Ok.wish {X : Cx} (ok : X.Ok) (E : Value → Shared → Prop) : (X.wish E).Ok :=
  ⟨ok.mod, ok.kind, ok.glob, ok.blt, ok.above, ok.inj, ok.has, ok.cab, ok.hd, ok.frames, ok.stk, ok.exf, ok.bs, ok.bsz, ok.noex, ok.exfs, ok.funs, ok.frf⟩
theorem Cx.Ok.unwish {X : Cx} {E : Value → Shared → Prop} (ok : (X.wish E).Ok) : X.Ok :=
  ⟨ok.mod, ok.kind, ok.glob, ok.blt, ok.above, ok.inj, ok.has, ok.cab, ok.hd, ok.frames, ok.stk, ok.exf, ok.bs, ok.bsz, ok.noex, ok.exfs, ok.funs, ok.frf⟩
section
variable {X : Cx} {pins : List (Addr × Obj)} {σ : St} {H : Hp} {s : Shared} {E : Value → Shared → Prop}
theorem Inv.wish (I : Inv X pins σ H s) (E : Value → Shared → Prop) : Inv (X.wish E) pins σ H s := ⟨I.ok.wish E, I.os, I.bare, I.base, I.loc, I.cell, I.free, I.freeC, I.pin, I.hok, I.len⟩
theorem Inv.unwish (I : Inv (X.wish E) pins σ H s) : Inv X pins σ H s := ⟨I.ok.unwish, I.os, I.bare, I.base, I.loc, I.cell, I.free, I.freeC, I.pin, I.hok, I.len⟩
theorem SP.unwish {D : Ends} {f : Flow} {s' : Shared} (h : SP (X.wish E) pins D f s') : SP X pins D f s' := by
  cases f with
  | next => obtain ⟨σ', H', I, q⟩ := h; exact ⟨σ', H', I.unwish, q⟩
  | brk => obtain ⟨σ', H', I, q⟩ := h; exact ⟨σ', H', I.unwish, q⟩
  | cont => obtain ⟨σ', H', I, q⟩ := h; exact ⟨σ', H', I.unwish, q⟩
  | ret u => obtain ⟨v, σ', H', I, r, q⟩ := h; exact ⟨v, σ', H', I.unwish, r, q⟩
theorem PSs.nox {st : List Stmt} {t : TS} (h : PSs X.nox st t) : PSs X st t := fun pins s σ H D I hw =>
  wpAny_mono (h pins s σ H D (I.wish _) hw) (fun _ _ q => q.unwish) fun _ _ z => False.elim z
end

section
variable {X : Cx} {st : Stmt} {rest : List Stmt} {t u : TS} {e : Expr} {te : TE} {pos : Pos}
def tNext : TS := fun D σ H => D.nx σ H
def tSeq (t u : TS) : TS := fun D σ H => t { D with nx := u D } σ H
theorem pss_nil : PSs X [] tNext := fun _ _ σ H _ I h => wpAny_execs_nil ⟨σ, H, I, h⟩
theorem pss_cons (h1 : PS X st t) (h2 : PSs X rest u) : PSs X (st :: rest) (tSeq t u) := by
  intro pins s σ H D I h
  refine wpAny_execs_cons (thn (h1 pins s σ H { D with nx := u D } I h) fun f s1 q => ?_)
  cases f with
  | next =>
    obtain ⟨σ', H', I', q⟩ := q
    exact h2 pins s1 σ' H' D I' q
  | ret v => exact q
  | brk => exact q
  | cont => exact q
theorem pss_one (h1 : PS X st t) : PSs X [st] t := by
  intro pins s σ H D I h
  refine wpAny_execs_cons (thn (h1 pins s σ H D I h) fun f s1 q => ?_)
  cases f with
  | next => exact wpAny_execs_nil q
  | ret v => exact q
  | brk => exact q
  | cont => exact q
def tBreak : TS := fun D σ H => D.bk σ H
def tCont : TS := fun D σ H => D.ct σ H
theorem Inv.quiet {pins : List (Addr × Obj)} {σ : St} {H : Hp} {s : Shared} (I : Inv X pins σ H s) : interactive X.env = false := by simp [interactive, I.ok.kind]
def tDrop (te : TE) : TS := fun D σ H => te σ H fun _ H1 => D.nx σ H1
theorem ps_expr (he : PE X e te) (hs : swapsWith e none pos.line X.env = pure false := by rfl) : PS X (.Expr e pos) (tDrop te) := by
  intro pins s σ H D I h
  exact wpAny_Expr_any (thn (he pins s σ H _ I h) fun v s1 ⟨x, H1, I1, r1, q1⟩ => ⟨σ, H1, I1, q1⟩) I.quiet hs
def tRet (te : TE) : TS := fun D σ H => te σ H D.rt
theorem ps_ret (he : PE X e te) : PS X (.Return (some e) pos) (tRet te) := by
  intro pins s σ H D I h
  exact wpAny_Return_some (thn (he pins s σ H _ I h) fun v s1 ⟨x, H1, I1, r1, q1⟩ => ⟨x, σ, H1, I1, r1, q1⟩)
def tRetN : TS := fun D _ H => D.rt .non H
def tIfS (c : TT) (t u : TS) : TS := fun D σ H => c σ H fun b H1 => if b = true then t D σ H1 else u D σ H1
theorem ps_if {c : Expr} {a b : List Stmt} {tc : TT} (hc : PT X c tc) (ha : PSs X a t) (hb : PSs X b u) : PS X (.If c a b pos) (tIfS tc t u) := by
  intro pins s σ H D I h
  refine wpAny_If (thn (hc pins s σ H _ I h) fun d s1 ⟨H1, I1, q1⟩ => ?_)
  cases d with
  | true => exact ha pins s1 σ H1 D I1 q1
  | false => exact hb pins s1 σ H1 D I1 q1
def tNever : TS := fun _ _ _ => False
theorem pss_never {sts : List Stmt} : PSs X sts tNever := fun _ _ _ _ _ _ h => h.elim
end

abbrev TG := V → St → Hp → (St → Hp → Prop) → Prop
abbrev TGs := List V → St → Hp → (St → Hp → Prop) → Prop
def PG (X : Cx) (target : Expr) (t : TG) : Prop :=
  ∀ (pins : List (Addr × Obj)) (s : Shared) (σ : St) (H : Hp) (v : V) (u : Value) (Q : St → Hp → Prop), Inv X pins σ H s → RelV v u → t v σ H Q →
    wpAny (model X.prog X.w) X.A (assign target X.env u) (fun _ s' => ∃ σ' H', Inv X pins σ' H' s' ∧ Q σ' H') X.xe s
def PGs (X : Cx) (ts : List Expr) (t : TGs) : Prop :=
  ∀ (pins : List (Addr × Obj)) (s : Shared) (σ : St) (H : Hp) (vs : List V) (us : List Value) (Q : St → Hp → Prop), Inv X pins σ H s → Vals vs us → t vs σ H Q →
    wpAny (model X.prog X.w) X.A (assignInOrder ((assignEach ts X.env).map (·.2)) us) (fun _ s' => ∃ σ' H', Inv X pins σ' H' s' ∧ Q σ' H') X.xe s
abbrev TSet := V → V → V → Hp → (Hp → Prop) → Prop
def PSet (X : Cx) (t : TSet) : Prop :=
  ∀ (pins : List (Addr × Obj)) (s : Shared) (σ : St) (H : Hp) (o i v : V) (ov iv u : Value) (Q : Hp → Prop), Inv X pins σ H s → RelV o ov → RelV i iv → RelV v u → t o i v H Q →
    wpAny (model X.prog X.w) X.A (setItem ov iv u) (fun _ s' => ∃ H', Inv X pins σ H' s' ∧ Q H') X.xe s
abbrev TIp := V → V → Hp → VK → Prop
def PIp (X : Cx) (op : Operator) (t : TIp) : Prop :=
  ∀ (pins : List (Addr × Obj)) (s : Shared) (σ : St) (H : Hp) (x y : V) (v u : Value) (Q : VK), Inv X pins σ H s → RelV x v → RelV y u → t x y H Q →
    wpAny (model X.prog X.w) X.A (inplaceOp op v u) (EP X pins σ Q) X.xe s
section
variable {X : Cx} {pos : Pos}
def gName (i : Nat) : TG := fun v σ H Q => Q (σ.set i (some v)) H
theorem pg_name {i : Nat} {x : Str} (hN : X.N.Nodup) (hi : X.N[i]? = some x) (hx : Loc X.env.scope x) (hf : X.fn x = true ∨ X.env.scope.names.lookup x = some .local := by first | exact .inl rfl | exact .inr rfl | assumption) : PG X (.Name x pos) (gName i) := by
  intro pins s σ H v u Q I r h
  exact wpAny_assign_Name (store_ok I hN hi hx r (fun s' I' => ⟨_, H, I', h⟩) hf)
def gNil : TGs := fun vs σ H Q => vs = [] ∧ Q σ H
def gCons (t : TG) (u : TGs) : TGs := fun vs σ H Q => ∃ v r, vs = v :: r ∧ t v σ H fun σ' H' => u r σ' H' Q
theorem pgs_nil : PGs X [] gNil := by
  intro pins s σ H vs us Q I r h
  obtain ⟨e, h⟩ := h
  subst e
  cases r
  exact assignInOrder_nil ⟨σ, H, I, h⟩
theorem pgs_cons {e : Expr} {es : List Expr} {t : TG} {u : TGs} (h1 : PG X e t) (h2 : PGs X es u)
    (hs : (assignEach (e :: es) X.env).map (·.2) = assign e X.env :: (assignEach es X.env).map (·.2) := by rfl) : PGs X (e :: es) (gCons t u) := by
  intro pins s σ H vs us Q I r h
  obtain ⟨v, vr, e1, h⟩ := h
  subst e1
  cases r with
  | cons r rr =>
    rw [hs]
    refine assignInOrder_cons (thn (h1 pins s σ H _ _ _ I r h) fun _ s1 ⟨σ1, H1, I1, q1⟩ => ?_)
    exact h2 pins s1 σ1 H1 _ _ Q I1 rr q1
def gTup (K : PySem.W.Frag) (n : Nat) (t : TGs) : TG := fun v σ H Q => ∃ a xs, v = .ref a ∧ SqT K H a xs ∧ xs.length = n ∧ t xs σ H Q
theorem pg_tup {es : List Expr} {k : Nat} {t : TGs} {n : Nat} (hc : X.calm = true) (h : PGs X es t)
    (hn : (assignEach es X.env).length = n := by rfl) (hst : (assignEach es X.env).findIdx? (·.1) = none := by rfl) : PG X (.Tuple es k pos) (gTup X.K n t) := by
  intro pins s σ H v u Q I r hw
  obtain ⟨a, xs, e1, hq, hl, hw⟩ := hw
  subst e1
  cases r
  obtain ⟨its, rv, ht, hz⟩ := I.tuple hq
  refine assign_Tuple_tuple (I.ok.hd hc) ht (by simp [hn, ← hl, rv.length]) hst fun h' hx => ?_
  have I1 : Inv X pins σ H { s with heap := h' } := I.kept (t' := s.toks) fun b o e => hx b o (Nat.ne_of_lt (Heap.lt_size e)) e
  exact h pins _ σ H xs _ Q I1 (by simpa using rv) hw
def gSub (to ti : TE) (t : TSet) : TG := fun v σ H Q => to σ H fun o H1 => ti σ H1 fun i H2 => t o i v H2 fun H3 => Q σ H3
def tAsg (te : TE) (g : TG) : TS := fun D σ H => te σ H fun x H1 => g x σ H1 D.nx
theorem ps_asg {tg e : Expr} {te : TE} {g : TG} (he : PE X e te) (hg : PG X tg g) (hs : swapsWithSole [tg] e pos.line X.env = pure false := by rfl) (hw : swappedStores [tg] e X.env = pure none := by rfl)
    (h1 : (assignEach [tg] X.env).map (·.2) = [assign tg X.env] := by rfl) : PS X (.Assign [tg] e pos) (tAsg te g) := by
  intro pins s σ H D I h
  refine wpAny_Assign_stores (thn (he pins s σ H _ I h) fun v s1 ⟨x, H1, I1, r1, q1⟩ => ?_) hs hw
  rw [h1]
  exact thn (hg pins s1 σ H1 x v _ I1 r1 q1) fun _ s2 q => q
theorem ps_set {i : Nat} {x : Str} {e : Expr} {te : TE} {pos' : Pos} (hN : X.N.Nodup) (hi : X.N[i]? = some x) (hx : Loc X.env.scope x) (he : PE X e te) (hs : swapsWith e (some (.Name x pos')) pos.line X.env = pure false := by rfl) (hf : X.fn x = true ∨ X.env.scope.names.lookup x = some .local := by first | exact .inl rfl | exact .inr rfl | assumption) :
    PS X (.Assign [.Name x pos'] e pos) (tAsg te (gName i)) := by
  intro pins s σ H D I h
  refine wpAny_Assign_Name (thn (he pins s σ H _ I h) fun v s1 ⟨y, H1, I1, r1, q1⟩ => ?_) hs
  exact store_ok I1 hN hi hx r1 (fun s2 I2 => ⟨_, H1, I2, q1⟩) hf
def tPar (i j : Nat) (ta : TA) : TS := fun D σ H => ta σ H fun vs H1 => ∃ v w, vs = [v, w] ∧ D.nx ((σ.set i (some v)).set j (some w)) H1
def tAug (i : Nat) (te : TE) (ti : TIp) : TS := fun D σ H => ∃ x, σ[i]? = some (some x) ∧ te σ H fun y H1 => ti x y H1 fun z H2 => D.nx (σ.set i (some z)) H2
def tAugS (to ti te : TE) (tget : V → V → Hp → VK → Prop) (tip : TIp) (tset : TSet) : TS := fun D σ H => to σ H fun o H1 => ti σ H1 fun i H2 => tget o i H2 fun x H3 => te σ H3 fun y H4 => tip x y H4 fun z H5 => tset o i z H5 fun H6 => D.nx σ H6
def PGet (X : Cx) (t : V → V → Hp → VK → Prop) : Prop :=
  ∀ (pins : List (Addr × Obj)) (s : Shared) (σ : St) (H : Hp) (o i : V) (ov iv : Value) (Q : VK), Inv X pins σ H s → RelV o ov → RelV i iv → t o i H Q →
    wpAny (model X.prog X.w) X.A (getItem ov iv) (EP X pins σ Q) X.xe s
def ipI (f : Int → Int → Int) : TIp := fun x y H Q => ∃ i j, x = .int i ∧ y = .int j ∧ Q (.int (f i j)) H
end

section
variable {X : Cx} {pos : Pos}
def tWhile (c : TT) (tb : TS) : TS := fun D σ H => ∃ W : Nat → St → Hp → Prop, (∃ m, W m σ H) ∧ ∀ m σ H, W m σ H →
  c σ H fun b H1 => if b = true then ∃ N : St → Hp → Prop, (∀ σ' H', N σ' H' → ∃ m', m' < m ∧ W m' σ' H') ∧ tb { D with nx := N, ct := N, bk := D.nx } σ H1 else D.nx σ H1
theorem ps_while {c : Expr} {body : List Stmt} {tc : TT} {tb : TS} (hp : PassesOwn (model X.prog X.w) X.A X.env X.xe) (hc : PT X c tc) (hb : PSs X body tb) : PS X (.While c body [] pos) (tWhile tc tb) := by
  intro pins s σ H D I h
  obtain ⟨W, ⟨m0, w0⟩, turn⟩ := h
  refine wpAny_While (codeAny_whileLoop (fun n s' => ∃ σ' H', Inv X pins σ' H' s' ∧ W n σ' H') ?_ m0 ⟨σ, H, I, w0⟩)
  rintro n s1 ⟨σ1, H1, I1, w1⟩
  refine wpAny_passesOwn hp (thn (hc pins s1 σ1 H1 _ I1 (turn n σ1 H1 w1)) fun b s2 ⟨H2, I2, q2⟩ => ?_)
  cases b with
  | true =>
    obtain ⟨N, hN, q2⟩ := q2
    rw [if_pos rfl]
    refine wpAny_passesOwn hp (thn (hb pins s2 σ1 H2 _ I2 q2) fun f s3 q3 => ?_)
    cases f with
    | next =>
      obtain ⟨σ3, H3, I3, n3⟩ := q3
      obtain ⟨m', hm, w3⟩ := hN σ3 H3 n3
      exact ⟨m', hm, σ3, H3, I3, w3⟩
    | cont =>
      obtain ⟨σ3, H3, I3, n3⟩ := q3
      obtain ⟨m', hm, w3⟩ := hN σ3 H3 n3
      exact ⟨m', hm, σ3, H3, I3, w3⟩
    | brk => exact q3
    | ret v => exact q3
  | false =>
    rw [if_neg Bool.false_ne_true]
    exact wpAny_execs_nil ⟨σ1, H2, I2, q2⟩
end

structure It where
  go : Nat → Hp → Prop
  yld : Nat → Hp → V → Hp → Prop
  stop : Nat → Hp → Prop
def FpOk (X : Cx) (pins : List (Addr × Obj)) (H : Hp) (b : Addr) : Prop :=
  H b = none ∧ b ≠ X.env.locals ∧ b ∉ X.fs ∧ (b ∈ X.ex ∨ X.s₀.heap.objs.size ≤ b) ∧ (∀ x c, X.env.cells.lookup x = some c → c ≠ b) ∧ ∀ p ∈ X.pn ++ pins, p.1 ≠ b
theorem Inv.fpOk {X : Cx} {pins : List (Addr × Obj)} {σ : St} {H H' : Hp} {s : Shared} {b : Addr} (I : Inv X pins σ H s) (hb : s.heap.objs.size ≤ b) (hn : H' b = none) : FpOk X pins H' b := by
  refine ⟨hn, Nat.ne_of_gt (Nat.lt_of_lt_of_le I.lt hb), I.nofs hb, .inr (Nat.le_trans I.sz hb), fun x c e z => ?_, fun p hp z => ?_⟩
  · obtain ⟨v, q⟩ := I.cell x c e
    exact absurd (Nat.lt_of_lt_of_le q.lt (by rw [z]; exact hb)) (Nat.lt_irrefl _)
  · exact absurd (Nat.lt_of_lt_of_le (Heap.lt_size (I.pin p hp).1) (by rw [z]; exact hb)) (Nat.lt_irrefl _)
structure Turn (P : Program) (w : World) (K : PySem.W.Frag) (tg : Expr) (J : It) (fp : List Addr) (it : Addr) (tn : Nat → Heap → Prop) : Prop where
  mem : it ∈ fp
  obj : ∀ i h, tn i h → ∀ b ∈ fp, ∃ o, h.get? b = some o ∧ ∀ v, o.data ≠ .cell v
  keep : ∀ i h h', tn i h → (∀ b ∈ fp, ∀ o, h.get? b = some o → h'.get? b = some o) → tn i h'
  item : ∀ (X : Cx), X.prog = P → X.w = w → X.K = K → X.calm = true → ∀ (i : Nat) (pins : List (Addr × Obj)) (s : Shared) (σ : St) (H : Hp) (E : Value → Shared → Prop), Inv X pins σ H s → (∀ b ∈ fp, FpOk X pins H b) → tn i s.heap → J.go i H →
    wpAny (model P w) X.A (pyNext (.ref it)) (fun r s1 => ∃ u, r = some u ∧
      wpAny (model P w) X.A (letOwnedTupleGo tg (.ref it) u) (fun _ s2 => ∃ x H', Inv X pins σ H' s2 ∧ RelV x u ∧ J.yld i H x H' ∧ tn (i + 1) s2.heap ∧ ∀ b ∈ fp, H' b = none) E s1) E s
  done : ∀ (X : Cx), X.prog = P → X.w = w → X.K = K → X.calm = true → ∀ (i : Nat) (pins : List (Addr × Obj)) (s : Shared) (σ : St) (H : Hp) (E : Value → Shared → Prop), Inv X pins σ H s → (∀ b ∈ fp, FpOk X pins H b) → tn i s.heap → J.stop i H →
    wpAny (model P w) X.A (pyNext (.ref it)) (fun r s1 => r = none ∧ Inv X pins σ H s1) E s
  self : ∀ (A : Around) (i : Nat) (s : Shared) (Q : Value → Shared → Prop) (E : Value → Shared → Prop), tn i s.heap → Q (.ref it) s → wpAny (model P w) A (pyIter (.ref it)) Q E s
abbrev TI := St → Hp → (It → Hp → Prop) → Prop
def PIE (X : Cx) (pins : List (Addr × Obj)) (σ : St) (tg : Expr) (R : It → Hp → Prop) (itv : Value) (s2 : Shared) : Prop :=
  ∃ (it : Addr) (fp : List Addr) (tn : Nat → Heap → Prop) (J : It) (H' : Hp), itv = .ref it ∧ Inv X pins σ H' s2 ∧ Turn X.prog X.w X.K tg J fp it tn ∧ tn 0 s2.heap ∧ (∀ b ∈ fp, FpOk X pins H' b) ∧ R J H'
def PI (X : Cx) (tg iter : Expr) (wi : TI) : Prop :=
  ∀ (pins : List (Addr × Obj)) (s : Shared) (σ : St) (H : Hp) (R : It → Hp → Prop), Inv X pins σ H s → wi σ H R →
    wpAny (model X.prog X.w) X.A (eval iter X.env) (fun v s1 => wpAny (model X.prog X.w) X.A (pyIter v) (PIE X pins σ tg R) X.xe s1) X.xe s

theorem go_of {M : Model} {A : Around} {E : Value → Shared → Prop} {s : Shared} {tg : Expr} {it : Addr} {u : Value} {o : Obj} {n : String} {vs : Array Value} {Q : Unit → Shared → Prop} (ho : s.heap.get? it = some o) (hc : o.cls = .type n) (hd : o.data = .fields vs)
    (hn : ["enumerate", "zip", "dict_itemiterator", "dict_reverseitemiterator", "odict_iterator", "itertools.zip_longest", "itertools.pairwise"].contains n = false) (hQ : Q () s) : wpAny M A (letOwnedTupleGo tg (.ref it) u) Q E s := by
  unfold letOwnedTupleGo
  cases tg <;> first
    | exact wpAny_pure hQ
    | (cases u <;> first
        | exact wpAny_pure hQ
        | (refine wpAny_bind (wpAny_load ho ?_)
           rw [hc, hd]
           show wpAny M A (if (["enumerate", "zip", "dict_itemiterator", "dict_reverseitemiterator", "odict_iterator", "itertools.zip_longest", "itertools.pairwise"].contains n && vs[0]? == some (rawInt _)) = true then _ else _) Q E s
           rw [if_neg (by intro h; rw [hn, Bool.false_and] at h; cases h)]
           exact wpAny_pure hQ))

def Itl (K : PySem.W.Frag) (a : Addr) : It :=
  ⟨fun i H => ∃ xs x, SqL K H a xs ∧ xs[i]? = some x, fun i H x H' => H' = H ∧ ∀ xs, SqL K H a xs → xs[i]? = some x, fun i H => ∃ xs, SqL K H a xs ∧ xs.length ≤ i⟩
def Itt (K : PySem.W.Frag) (a : Addr) : It :=
  ⟨fun i H => ∃ xs x, SqT K H a xs ∧ xs[i]? = some x, fun i H x H' => H' = H ∧ ∀ xs, SqT K H a xs → xs[i]? = some x, fun i H => ∃ xs, SqT K H a xs ∧ xs.length ≤ i⟩
def Itr (lo : Int) (n : Nat) : It := ⟨fun i _ => i < n, fun i H x H' => H' = H ∧ x = .int (lo + i), fun i _ => n ≤ i⟩
theorem turn_list {P : Program} {w : World} {K : PySem.W.Frag} {tg : Expr} (a it : Addr) : Turn P w K tg (Itl K a) [it] it (fun i h => h.IsListIter it a i) where
  mem := by simp
  obj := fun i h st b hb => by
    have e : b = it := by simpa using hb
    subst e
    obtain ⟨o, e, c, d⟩ := st
    exact ⟨o, e, fun v z => by rw [d] at z; cases z⟩
  keep := fun i h h' st k => st.at fun o e => k it (by simp) o e
  item := by
    intro X hP hw hK hc i pins s σ H E I hf st hg
    subst hP hw hK
    obtain ⟨xs, x, hq, hx⟩ := hg
    obtain ⟨its, rv, p, hz⟩ := I.list hq
    obtain ⟨u, hu, ru⟩ := rv.get hx
    obtain ⟨f0, f1, f2, f3, f4, f5⟩ := hf it (by simp)
    refine wpAny_pyNext_list_item st p.isList (x := u) (by simpa using hu) fun h' st' sb => ?_
    have I1 : Inv X pins σ H { s with heap := h' } := I.turned (t' := s.toks) (fun b o hb e => (sb.2 b hb).trans e) f0 f1 f3 f4 f5
    obtain ⟨o, e, c, d⟩ := id st'
    exact ⟨u, rfl, go_of (s := { s with heap := h' }) e c d (by decide) ⟨x, H, I1, ru, ⟨rfl, fun ys hy => by rw [I.list_inj hy hq]; exact hx⟩, st', fun b hb => (hf b hb).1⟩⟩
  done := by
    intro X hP hw hK hc i pins s σ H E I hf st hg
    subst hP hw hK
    obtain ⟨xs, hq, hx⟩ := hg
    obtain ⟨its, rv, p, hz⟩ := I.list hq
    obtain ⟨f0, f1, f2, f3, f4, f5⟩ := hf it (by simp)
    have hl := rv.length
    exact wpAny_pyNext_list_end (I.ok.hd hc) st p.isList (by simp; omega) fun h' eb => ⟨rfl, I.turned (t' := s.toks) (fun b o hb e => eb b o hb e) f0 f1 f3 f4 f5⟩
  self := fun _ _ _ _ _ st h => wpAny_pyIter_listiter st h
theorem turn_tuple {P : Program} {w : World} {K : PySem.W.Frag} {tg : Expr} (a it : Addr) : Turn P w K tg (Itt K a) [it] it (fun i h => h.IsTupleIter it a i) where
  mem := by simp
  obj := fun i h st b hb => by
    have e : b = it := by simpa using hb
    subst e
    obtain ⟨o, e, c, d⟩ := st
    exact ⟨o, e, fun v z => by rw [d] at z; cases z⟩
  keep := fun i h h' st k => st.at fun o e => k it (by simp) o e
  item := by
    intro X hP hw hK hc i pins s σ H E I hf st hg
    subst hP hw hK
    obtain ⟨xs, x, hq, hx⟩ := hg
    obtain ⟨its, rv, p, hz⟩ := I.tuple hq
    obtain ⟨u, hu, ru⟩ := rv.get hx
    obtain ⟨f0, f1, f2, f3, f4, f5⟩ := hf it (by simp)
    refine wpAny_pyNext_tuple_item st (show s.heap.IsTuple a its.toArray from p) (x := u) (by simpa using hu) fun h' st' sb => ?_
    have I1 : Inv X pins σ H { s with heap := h' } := I.turned (t' := s.toks) (fun b o hb e => (sb.2 b hb).trans e) f0 f1 f3 f4 f5
    obtain ⟨o, e, c, d⟩ := id st'
    exact ⟨u, rfl, go_of (s := { s with heap := h' }) e c d (by decide) ⟨x, H, I1, ru, ⟨rfl, fun ys hy => by rw [I.tuple_inj hy hq]; exact hx⟩, st', fun b hb => (hf b hb).1⟩⟩
  done := by
    intro X hP hw hK hc i pins s σ H E I hf st hg
    subst hP hw hK
    obtain ⟨xs, hq, hx⟩ := hg
    obtain ⟨its, rv, p, hz⟩ := I.tuple hq
    obtain ⟨f0, f1, f2, f3, f4, f5⟩ := hf it (by simp)
    have hl := rv.length
    exact wpAny_pyNext_tuple_end (I.ok.hd hc) st (show s.heap.IsTuple a its.toArray from p) (by simp; omega) fun h' eb => ⟨rfl, I.turned (t' := s.toks) (fun b o hb e => eb b o hb e) f0 f1 f3 f4 f5⟩
  self := fun _ _ _ _ _ st h => wpAny_pyIter_tupleiter st h
theorem turn_range {P : Program} {w : World} {K : PySem.W.Frag} {tg : Expr} (it : Addr) (lo : Int) (n : Nat) : Turn P w K tg (Itr lo n) [it] it (fun i h => IsRangeIter h it (lo + (i : Nat) * 1) ((n : Int) - (i : Nat)) 1) where
  mem := by simp
  obj := fun i h st b hb => by
    have e : b = it := by simpa using hb
    subst e
    exact ⟨_, st, fun v z => by
      have z' : Data.fields _ = Data.cell v := z
      cases z'⟩
  keep := fun i h h' st k => k it (by simp) _ st
  item := by
    intro X hP hw hK hc i pins s σ H E I hf st hg
    subst hP hw hK
    obtain ⟨f0, f1, f2, f3, f4, f5⟩ := hf it (by simp)
    have W := Walks.range (prog := X.prog) (w := X.w) (I.ok.hd hc) it lo 1 n
    refine W.item i s _ _ hg st fun v h' tk hv st' kk => ?_
    obtain ⟨t, rfl⟩ := hv
    have I1 : Inv X pins σ H { s with heap := h', toks := tk } := I.turned (fun b o hb e => kk b o (by simpa using hb) e) f0 f1 f3 f4 f5
    refine ⟨_, rfl, go_of (s := { s with heap := h', toks := tk }) (n := "range_iterator") st' rfl rfl (by decide) ⟨.int (lo + i), H, I1, ⟨t, ?_⟩, ⟨rfl, rfl⟩, st', fun b hb => (hf b hb).1⟩⟩
    rw [Int.mul_one]
  done := by
    intro X hP hw hK hc i pins s σ H E I hf st hg
    subst hP hw hK
    obtain ⟨f0, f1, f2, f3, f4, f5⟩ := hf it (by simp)
    exact wpAny_pyNext_range_end (I.ok.hd hc) st (by have : n ≤ i := hg; omega) fun h' eb => ⟨rfl, I.turned (t' := s.toks) (fun b o hb e => eb b o hb e) f0 f1 f3 f4 f5⟩
  self := fun _ _ _ _ _ st h => wpAny_pyIter_rangeiter st h
end L2

namespace L2
open PySem PySem.Spec PyProof.Rows
section
variable {X : Cx} {tg : Expr}
def iList (K : PySem.W.Frag) (tl : TE) : TI := fun σ H R => tl σ H fun x H1 => ∃ a, x = .ref a ∧ (∃ xs, SqL K H1 a xs) ∧ R (Itl K a) H1
def iTup (K : PySem.W.Frag) (tl : TE) : TI := fun σ H R => tl σ H fun x H1 => ∃ a, x = .ref a ∧ (∃ xs, SqT K H1 a xs) ∧ R (Itt K a) H1
theorem pi_list {l : Expr} {tl : TE} (hl : PE X l tl) : PI X tg l (iList X.K tl) := by
  intro pins s σ H R I h
  refine thn (hl pins s σ H _ I h) fun v s1 ⟨x, H1, I1, r1, q1⟩ => ?_
  obtain ⟨a, e, ⟨xs, hq⟩, q⟩ := q1
  subst e
  cases r1
  obtain ⟨its, rv, p, hz⟩ := I1.list hq
  refine wpAny_pyIter_list p.isList ?_
  refine ⟨s1.heap.objs.size, [s1.heap.objs.size], _, _, H1, rfl, I1.kept (t' := s1.toks) fun b o e => Heap.get?_push_of_some _ e, turn_list a _, ⟨_, Heap.get?_push_size _ rfl, rfl, rfl⟩, fun b hb => ?_, q⟩
  have e : b = s1.heap.objs.size := by simpa using hb
  subst e
  exact I1.fpOk (Nat.le_refl _) (I1.hok.fresh (Nat.le_refl _))
theorem pi_tup {l : Expr} {tl : TE} (hl : PE X l tl) : PI X tg l (iTup X.K tl) := by
  intro pins s σ H R I h
  refine thn (hl pins s σ H _ I h) fun v s1 ⟨x, H1, I1, r1, q1⟩ => ?_
  obtain ⟨a, e, ⟨xs, hq⟩, q⟩ := q1
  subst e
  cases r1
  obtain ⟨its, rv, p, hz⟩ := I1.tuple hq
  refine wpAny_pyIter_tuple (show s1.heap.IsTuple a its.toArray from p) ?_
  refine ⟨s1.heap.objs.size, [s1.heap.objs.size], _, _, H1, rfl, I1.kept (t' := s1.toks) fun b o e => Heap.get?_push_of_some _ e, turn_tuple a _, ⟨_, Heap.get?_push_size _ rfl, rfl, rfl⟩, fun b hb => ?_, q⟩
  have e : b = s1.heap.objs.size := by simpa using hb
  subst e
  exact I1.fpOk (Nat.le_refl _) (I1.hok.fresh (Nat.le_refl _))
theorem range_it {pins : List (Addr × Obj)} {σ : St} {H : Hp} {s : Shared} {R : It → Hp → Prop} {E : Value → Shared → Prop} {lo hi : Int} {t u v : Tok} {tk : Nat} (I : Inv X pins σ H s) (h1 : -(2 ^ 62) ≤ lo) (h2 : lo < 2 ^ 62) (h3 : -(2 ^ 62) ≤ hi) (h4 : hi < 2 ^ 62)
    (q : R (Itr lo (hi - lo).toNat) H) : wpAny (model X.prog X.w) X.A (pyIter (.ref s.heap.objs.size)) (PIE X pins σ tg R) E { s with heap := s.heap.push { cls := .type "range", data := .fields #[.int lo t, .int hi u, .int 1 v] }, toks := tk } := by
  refine wpAny_pyIter_range (IsRange.new ..) (small_one h1 h2 h3 h4) ?_
  have I1 : Inv X pins σ H { s with heap := s.heap.push { cls := .type "range", data := .fields #[.int lo t, .int hi u, .int 1 v] }, toks := tk } := I.kept fun b o e => Heap.get?_push_of_some _ e
  refine ⟨(s.heap.push { cls := .type "range", data := .fields #[.int lo t, .int hi u, .int 1 v] }).objs.size, [(s.heap.push { cls := .type "range", data := .fields #[.int lo t, .int hi u, .int 1 v] }).objs.size], _, _, H, rfl,
    I1.kept (t' := tk) fun b o e => Heap.get?_push_of_some _ e, turn_range _ lo (hi - lo).toNat, ?_, fun b hb => ?_, q⟩
  · have e1 : lo + ((0 : Nat) : Int) * 1 = lo := by simp
    have e2 : (((hi - lo).toNat : Nat) : Int) - ((0 : Nat) : Int) = Builtin.Range.rangeSize lo hi 1 := by rw [rangeSize_one]; split <;> omega
    show IsRangeIter _ _ (lo + ((0 : Nat) : Int) * 1) ((((hi - lo).toNat : Nat) : Int) - ((0 : Nat) : Int)) 1
    rw [e1, e2]
    exact Heap.get?_push_size _ rfl
  · have e : b = (s.heap.push { cls := .type "range", data := .fields #[.int lo t, .int hi u, .int 1 v] }).objs.size := by simpa using hb
    subst e
    exact I1.fpOk (Nat.le_refl _) (I1.hok.fresh (Nat.le_refl _))
def iRng1 (ta : TA) : TI := fun σ H R => ta σ H fun vs H1 => ∃ j : Int, vs = [.int j] ∧ -(2 ^ 62) ≤ j ∧ j < 2 ^ 62 ∧ R (Itr 0 j.toNat) H1
def iRng2 (ta : TA) : TI := fun σ H R => ta σ H fun vs H1 => ∃ i j : Int, vs = [.int i, .int j] ∧ (-(2 ^ 62) ≤ i ∧ i < 2 ^ 62 ∧ -(2 ^ 62) ≤ j ∧ j < 2 ^ 62) ∧ R (Itr i (j - i).toNat) H1
theorem pi_range1 {a : Expr} {ta : TA} {p pos : Pos} (hg : Gl X "range") (hm : X.mg "range" = none) (ha : PA X [a] ta) (hs : starEach [a] X.env = [(false, eval a X.env)] := by rfl) : PI X tg (.Call (.Name "range" p) [a] [] pos) (iRng1 ta) := by
  intro pins s σ H R I h
  refine Call_ (ld_blt I hg hm boot_range (PyProof.Rows.callWith_type1 (thn (ha pos pins s σ H _ I h) fun us s1 ⟨vs, H1, I1, r1, q1⟩ => ?_) hs rfl))
  obtain ⟨j, e, q1, q2, q⟩ := q1
  subst e
  cases r1 with
  | cons r rr =>
    cases rr
    obtain ⟨t, rfl⟩ := r
    exact call_range_1 (range_it I1 (by omega) (by omega) q1 q2 (by simpa using q))
def tFor (wi : TI) (g : TG) (tb : TS) : TS := fun D σ H => wi σ H fun J H1 => ∃ W : Nat → Nat → St → Hp → Prop, (∃ m, W 0 m σ H1) ∧ ∀ i m σ H, W i m σ H →
  (J.stop i H ∧ D.nx σ H) ∨ (J.go i H ∧ ∃ N : St → Hp → Prop, (∀ σ' H', N σ' H' → ∃ m', m' < m ∧ W (i + 1) m' σ' H') ∧ ∀ x H', J.yld i H x H' → g x σ H' fun σ2 H2 => tb { D with nx := N, ct := N, bk := D.nx } σ2 H2)
def pinsAt (fp : List Addr) (h : Heap) : List (Addr × Obj) := fp.filterMap fun b => (h.get? b).map fun o => (b, o)
theorem mem_pinsAt {fp : List Addr} {h : Heap} {b : Addr} {o : Obj} (hb : b ∈ fp) (e : h.get? b = some o) : (b, o) ∈ pinsAt fp h := List.mem_filterMap.mpr ⟨b, hb, by rw [e]; rfl⟩
theorem of_pinsAt {fp : List Addr} {h : Heap} {p : Addr × Obj} (hp : p ∈ pinsAt fp h) : p.1 ∈ fp ∧ h.get? p.1 = some p.2 := by
  obtain ⟨b, hb, e⟩ := List.mem_filterMap.mp hp
  cases q : h.get? b with
  | none => rw [q] at e; cases e
  | some o =>
    rw [q] at e
    have e' : (b, o) = p := Option.some.inj e
    subst e'
    exact ⟨hb, q⟩
theorem Inv.pinned {pins : List (Addr × Obj)} {σ : St} {H : Hp} {s : Shared} {fp : List Addr} (I : Inv X pins σ H s) (hf : ∀ b ∈ fp, FpOk X pins H b) (ho : ∀ b ∈ fp, ∃ o, s.heap.get? b = some o ∧ ∀ v, o.data ≠ .cell v) : Inv X (pins ++ pinsAt fp s.heap) σ H s :=
  I.pins_of fun p hp => (List.mem_append.mp hp).elim (fun z => I.pin p (List.mem_append_right _ z)) fun z => by
    obtain ⟨hb, e⟩ := of_pinsAt z
    obtain ⟨f0, f1, f2, _⟩ := hf p.1 hb
    obtain ⟨o, e', d⟩ := ho p.1 hb
    rw [e] at e'; cases e'
    exact ⟨e, f0, f1, f2, d⟩
theorem Inv.unpinned {pins pl : List (Addr × Obj)} {σ : St} {H : Hp} {s : Shared} (I : Inv X (pins ++ pl) σ H s) : Inv X pins σ H s := I.pins_of fun p hp => I.pin p (List.mem_append_right _ (List.mem_append_left _ hp))
theorem ps_for {iter : Expr} {body : List Stmt} {wi : TI} {g : TG} {tb : TS} {pos : Pos} (hp : PassesOwn (model X.prog X.w) X.A X.env X.xe) (hc : X.calm = true) (hi : PI X tg iter wi) (hg : PG X tg g) (hb : PSs X body tb)
    (hs : ∀ x, foldedSetIterable iter X.env x = pure x := by intro _; rfl) : PS X (.For tg iter body [] pos) (tFor wi g tb) := by
  intro pins s σ H D I h
  refine wpAny_For (thn (hi pins s σ H _ I h) fun v s1 h1 => thn h1 fun itv s2 h2 => ?_) hs
  obtain ⟨it, fp, tn, J, H2, e, I2, T, st2, f2, W, ⟨m0, w0⟩, turn⟩ := h2
  subst e
  -- what stays true of the iterator's objects through the loop
  have stat : ∀ {H' : Hp}, (∀ b ∈ fp, H' b = none) → ∀ b ∈ fp, FpOk X pins H' b := fun hn b hb => ⟨hn b hb, (f2 b hb).2⟩
  refine codeAny_forLoop_any (fun n s' => ∃ i σ' H', Inv X pins σ' H' s' ∧ tn i s'.heap ∧ (∀ b ∈ fp, H' b = none) ∧ W i n σ' H') ?_ m0 ⟨0, σ, H2, I2, st2, fun b hb => (f2 b hb).1, w0⟩
  rintro n s3 ⟨i, σ3, H3, I3, st3, fr3, w3⟩
  rcases turn i n σ3 H3 w3 with ⟨stop, qn⟩ | ⟨go, N, hN, step⟩
  · refine wpAny_passesOwn hp (thn (T.done X rfl rfl rfl hc i pins s3 σ3 H3 X.xe I3 (stat fr3) st3 stop) fun r s4 ⟨hr, I4⟩ => ?_)
    subst hr
    exact wpAny_execs_nil ⟨σ3, H3, I4, qn⟩
  · refine wpAny_passesOwn hp (thn (T.item X rfl rfl rfl hc i pins s3 σ3 H3 X.xe I3 (stat fr3) st3 go) fun r s4 ⟨u, hr, h4⟩ => ?_)
    subst hr
    refine wpAny_passesOwn hp (thn h4 fun _ s5 ⟨x, H5, I5, r5, y5, st5, fr5⟩ => ?_)
    have I5' := I5.pinned (stat fr5) (T.obj _ _ st5)
    refine wpAny_passesOwn hp (thn (hg _ s5 σ3 H5 x u _ I5' r5 (step x H5 y5)) fun _ s6 ⟨σ6, H6, I6, q6⟩ => ?_)
    refine wpAny_passesOwn hp (thn (hb _ s6 σ6 H6 _ I6 q6) fun f s7 q7 => ?_)
    have again : ∀ {σ7 : St} {H7 : Hp}, Inv X (pins ++ pinsAt fp s5.heap) σ7 H7 s7 → N σ7 H7 → ∃ m, m < n ∧ ∃ i σ' H', Inv X pins σ' H' s7 ∧ tn i s7.heap ∧ (∀ b ∈ fp, H' b = none) ∧ W i m σ' H' := fun {σ7 H7} I7 n7 => by
      obtain ⟨m', hm, w7⟩ := hN σ7 H7 n7
      refine ⟨m', hm, i + 1, σ7, H7, I7.unpinned, T.keep _ _ _ st5 fun b hb o e => (I7.pin (b, o) (List.mem_append_right _ (List.mem_append_right _ (mem_pinsAt hb e)))).1, fun b hb => ?_, w7⟩
      obtain ⟨o, e, d⟩ := T.obj _ _ st5 b hb
      exact (I7.pin (b, o) (List.mem_append_right _ (List.mem_append_right _ (mem_pinsAt hb e)))).2.1
    cases f with
    | next => obtain ⟨σ7, H7, I7, n7⟩ := q7; exact again I7 n7
    | cont => obtain ⟨σ7, H7, I7, n7⟩ := q7; exact again I7 n7
    | brk => obtain ⟨σ7, H7, I7, q7⟩ := q7; exact ⟨σ7, H7, I7.unpinned, q7⟩
    | ret v => obtain ⟨x7, σ7, H7, I7, r7, q7⟩ := q7; exact ⟨x7, σ7, H7, I7.unpinned, r7, q7⟩
end

theorem for_list {K : PySem.W.Frag} {a : Addr} {xs : List V} {g : TG} {tb : TS} {D : Ends} {σ : St} {H : Hp} (Pv : Nat → St → Hp → Prop) (h0 : Pv 0 σ H) (hl : ∀ i σ H, i ≤ xs.length → Pv i σ H → SqL K H a xs)
    (hs : ∀ i x σ H, xs[i]? = some x → Pv i σ H → g x σ H fun σ2 H2 => tb { D with nx := Pv (i + 1), ct := Pv (i + 1), bk := D.nx } σ2 H2) (hd : ∀ σ H, Pv xs.length σ H → D.nx σ H) :
    ∃ W : Nat → Nat → St → Hp → Prop, (∃ m, W 0 m σ H) ∧ ∀ i m σ H, W i m σ H →
      ((Itl K a).stop i H ∧ D.nx σ H) ∨ ((Itl K a).go i H ∧ ∃ N : St → Hp → Prop, (∀ σ' H', N σ' H' → ∃ m', m' < m ∧ W (i + 1) m' σ' H') ∧ ∀ x H', (Itl K a).yld i H x H' → g x σ H' fun σ2 H2 => tb { D with nx := N, ct := N, bk := D.nx } σ2 H2) := by
  refine ⟨fun i m σ H => m = xs.length - i ∧ i ≤ xs.length ∧ Pv i σ H, ⟨xs.length, by simp, Nat.zero_le _, h0⟩, ?_⟩
  rintro i m σ H ⟨rfl, hi, p⟩
  have q := hl i σ H hi p
  by_cases hlt : i < xs.length
  · refine .inr ⟨⟨xs, xs[i], q, by simp [hlt]⟩, Pv (i + 1), fun σ' H' p' => ⟨xs.length - (i + 1), by omega, rfl, hlt, p'⟩, fun x H' y => ?_⟩
    obtain ⟨e, y⟩ := y
    subst e
    exact hs i x σ _ (y xs q) p
  · have e : i = xs.length := by omega
    subst e
    exact .inl ⟨⟨xs, q, Nat.le_refl _⟩, hd σ H p⟩
theorem for_tup {K : PySem.W.Frag} {a : Addr} {xs : List V} {g : TG} {tb : TS} {D : Ends} {σ : St} {H : Hp} (Pv : Nat → St → Hp → Prop) (h0 : Pv 0 σ H) (hl : ∀ i σ H, i ≤ xs.length → Pv i σ H → SqT K H a xs)
    (hs : ∀ i x σ H, xs[i]? = some x → Pv i σ H → g x σ H fun σ2 H2 => tb { D with nx := Pv (i + 1), ct := Pv (i + 1), bk := D.nx } σ2 H2) (hd : ∀ σ H, Pv xs.length σ H → D.nx σ H) :
    ∃ W : Nat → Nat → St → Hp → Prop, (∃ m, W 0 m σ H) ∧ ∀ i m σ H, W i m σ H →
      ((Itt K a).stop i H ∧ D.nx σ H) ∨ ((Itt K a).go i H ∧ ∃ N : St → Hp → Prop, (∀ σ' H', N σ' H' → ∃ m', m' < m ∧ W (i + 1) m' σ' H') ∧ ∀ x H', (Itt K a).yld i H x H' → g x σ H' fun σ2 H2 => tb { D with nx := N, ct := N, bk := D.nx } σ2 H2) := by
  refine ⟨fun i m σ H => m = xs.length - i ∧ i ≤ xs.length ∧ Pv i σ H, ⟨xs.length, by simp, Nat.zero_le _, h0⟩, ?_⟩
  rintro i m σ H ⟨rfl, hi, p⟩
  have q := hl i σ H hi p
  by_cases hlt : i < xs.length
  · refine .inr ⟨⟨xs, xs[i], q, by simp [hlt]⟩, Pv (i + 1), fun σ' H' p' => ⟨xs.length - (i + 1), by omega, rfl, hlt, p'⟩, fun x H' y => ?_⟩
    obtain ⟨e, y⟩ := y
    subst e
    exact hs i x σ _ (y xs q) p
  · have e : i = xs.length := by omega
    subst e
    exact .inl ⟨⟨xs, q, Nat.le_refl _⟩, hd σ H p⟩
theorem for_range {lo : Int} {n : Nat} {g : TG} {tb : TS} {D : Ends} {σ : St} {H : Hp} (Pv : Nat → St → Hp → Prop) (h0 : Pv 0 σ H)
    (hs : ∀ i σ H, i < n → Pv i σ H → g (.int (lo + i)) σ H fun σ2 H2 => tb { D with nx := Pv (i + 1), ct := Pv (i + 1), bk := D.nx } σ2 H2) (hd : ∀ σ H, Pv n σ H → D.nx σ H) :
    ∃ W : Nat → Nat → St → Hp → Prop, (∃ m, W 0 m σ H) ∧ ∀ i m σ H, W i m σ H →
      ((Itr lo n).stop i H ∧ D.nx σ H) ∨ ((Itr lo n).go i H ∧ ∃ N : St → Hp → Prop, (∀ σ' H', N σ' H' → ∃ m', m' < m ∧ W (i + 1) m' σ' H') ∧ ∀ x H', (Itr lo n).yld i H x H' → g x σ H' fun σ2 H2 => tb { D with nx := N, ct := N, bk := D.nx } σ2 H2) := by
  refine ⟨fun i m σ H => m = n - i ∧ i ≤ n ∧ Pv i σ H, ⟨n, by simp, Nat.zero_le _, h0⟩, ?_⟩
  rintro i m σ H ⟨rfl, hi, p⟩
  by_cases hlt : i < n
  · refine .inr ⟨hlt, Pv (i + 1), fun σ' H' p' => ⟨n - (i + 1), by omega, rfl, hlt, p'⟩, fun x H' y => ?_⟩
    obtain ⟨e, y⟩ := y
    subst e y
    exact hs i σ _ hlt p
  · have e : i = n := by omega
    subst e
    exact .inl ⟨Nat.le_refl _, hd σ H p⟩
end L2

namespace L2
open PySem PySem.Spec PyProof.Rows

abbrev R2 := V → V → Hp → VK → Prop
def OpR (X : Cx) (f : Value → Value → Sem Value) (r : R2) : Prop :=
  ∀ (pins : List (Addr × Obj)) (s : Shared) (σ : St) (H : Hp) (x y : V) (v u : Value) (Q : VK), Inv X pins σ H s → RelV x v → RelV y u → r x y H Q →
    wpAny (model X.prog X.w) X.A (f v u) (EP X pins σ Q) X.xe s
def UnR (X : Cx) (f : Value → Sem Value) (r : V → Hp → VK → Prop) : Prop :=
  ∀ (pins : List (Addr × Obj)) (s : Shared) (σ : St) (H : Hp) (x : V) (v : Value) (Q : VK), Inv X pins σ H s → RelV x v → r x H Q →
    wpAny (model X.prog X.w) X.A (f v) (EP X pins σ Q) X.xe s
def CallR (X : Cx) (f : Value) (r : List V → Hp → VK → Prop) : Prop :=
  ∀ (pins : List (Addr × Obj)) (s : Shared) (σ : St) (H : Hp) (xs : List V) (us : List Value) (Q : VK), Inv X pins σ H s → Vals xs us → r xs H Q →
    wpAny (model X.prog X.w) X.A (call f us) (EP X pins σ Q) X.xe s
def TruR (X : Cx) (r : V → Hp → (Bool → Hp → Prop) → Prop) : Prop :=
  ∀ (pins : List (Addr × Obj)) (s : Shared) (σ : St) (H : Hp) (x : V) (v : Value) (Q : Bool → Hp → Prop), Inv X pins σ H s → RelV x v → r x H Q →
    wpAny (model X.prog X.w) X.A (truthy v) (TP X pins σ Q) X.xe s

def tOp (r : R2) (ta tb : TE) : TE := fun σ H Q => ta σ H fun x H1 => tb σ H1 fun y H2 => r x y H2 Q
def tUn (r : V → Hp → VK → Prop) (ta : TE) : TE := fun σ H Q => ta σ H fun x H1 => r x H1 Q
def rI (C : Int → Int → Prop) (g : Int → Int → V) : R2 := fun x y H Q => ∃ i j, x = .int i ∧ y = .int j ∧ C i j ∧ Q (g i j) H
def rI0 (g : Int → Int → V) : R2 := fun x y H Q => ∃ i j, x = .int i ∧ y = .int j ∧ Q (g i j) H
def rU (g : Int → V) : V → Hp → VK → Prop := fun x H Q => ∃ i, x = .int i ∧ Q (g i) H

section
variable {X : Cx} {a b c : Expr} {ta tb tc : TE} {pos : Pos}

theorem binT (ha : PE X a ta) (hb : PE X b tb) {pins : List (Addr × Obj)} {s : Shared} {σ : St} {H : Hp} {R : V → V → Hp → Prop} (I : Inv X pins σ H s)
    (h : ta σ H fun x H1 => tb σ H1 fun y H2 => R x y H2) {Q : Value → Shared → Prop} {f : Value → Value → Sem Value}
    (hf : ∀ v u s2 x y H2, Inv X pins σ H2 s2 → RelV x v → RelV y u → R x y H2 → wpAny (model X.prog X.w) X.A (f v u) Q X.xe s2) :
    wpAny (model X.prog X.w) X.A (eval a X.env) (fun v s₁ => wpAny (model X.prog X.w) X.A (eval b X.env) (fun u s₂ => wpAny (model X.prog X.w) X.A (f v u) Q X.xe s₂) X.xe s₁) X.xe s := by
  refine thn (ha pins s σ H _ I h) fun v s1 ⟨x, H1, I1, r1, q1⟩ => ?_
  refine thn (hb pins s1 σ H1 _ I1 q1) fun u s2 ⟨y, H2, I2, r2, q2⟩ => ?_
  exact hf v u s2 x y H2 I2 r1 r2 q2

theorem pe_op {op : Operator} {r : R2} (ho : OpR X (binaryOp op) r) (ha : PE X a ta) (hb : PE X b tb) : PE X (.BinOp a op b pos) (tOp r ta tb) := by
  intro pins s σ H Q I h
  exact wpAny_BinOp (binT ha hb I h fun v u s2 x y H2 I2 rx ry q => ho pins s2 σ H2 x y v u Q I2 rx ry q)
theorem pe_un {op : UnaryOp} {r : V → Hp → VK → Prop} (ho : UnR X (unaryOp op) r) (ha : PE X a ta) : PE X (.UnaryOp op a pos) (tUn r ta) := by
  intro pins s σ H Q I h
  exact UnaryOp_ (thn (ha pins s σ H _ I h) fun v s1 ⟨x, H1, I1, r1, q1⟩ => ho pins s1 σ H1 x v Q I1 r1 q1)
theorem opI {f : Value → Value → Sem Value} {C : Int → Int → Prop} {g : Int → Int → Int}
    (rule : ∀ (i j : Int) (t u : Tok) (s : Shared) (Q : Value → Shared → Prop) (E : Value → Shared → Prop), C i j → Q (.int (g i j) s.toks) { s with toks := s.toks + 1 } → wpAny (model X.prog X.w) X.A (f (.int i t) (.int j u)) Q E s) :
    OpR X f (rI C fun i j => .int (g i j)) := by
  intro pins s σ H x y v u Q I rx ry h
  obtain ⟨i, j, rfl, rfl, hc, q⟩ := h
  obtain ⟨t, rfl⟩ := rx
  obtain ⟨t', rfl⟩ := ry
  exact rule i j t t' s _ _ hc ⟨.int (g i j), H, I.tok _, ⟨_, rfl⟩, q⟩
theorem opI0 {f : Value → Value → Sem Value} {g : Int → Int → Int}
    (rule : ∀ (i j : Int) (t u : Tok) (s : Shared) (Q : Value → Shared → Prop) (E : Value → Shared → Prop), Q (.int (g i j) s.toks) { s with toks := s.toks + 1 } → wpAny (model X.prog X.w) X.A (f (.int i t) (.int j u)) Q E s) :
    OpR X f (rI0 fun i j => .int (g i j)) := by
  intro pins s σ H x y v u Q I rx ry h
  obtain ⟨i, j, rfl, rfl, q⟩ := h
  obtain ⟨t, rfl⟩ := rx
  obtain ⟨t', rfl⟩ := ry
  exact rule i j t t' s _ _ ⟨.int (g i j), H, I.tok _, ⟨_, rfl⟩, q⟩
theorem opB0 {f : Value → Value → Sem Value} {g : Int → Int → Bool}
    (rule : ∀ (i j : Int) (t u : Tok) (s : Shared) (Q : Value → Shared → Prop) (E : Value → Shared → Prop), Q (.bool (g i j)) s → wpAny (model X.prog X.w) X.A (f (.int i t) (.int j u)) Q E s) :
    OpR X f (rI0 fun i j => .bl (g i j)) := by
  intro pins s σ H x y v u Q I rx ry h
  obtain ⟨i, j, rfl, rfl, q⟩ := h
  obtain ⟨t, rfl⟩ := rx
  obtain ⟨t', rfl⟩ := ry
  exact rule i j t t' s _ _ ⟨.bl (g i j), H, I, rfl, q⟩

def CDiv (i j : Int) : Prop := 0 < j ∧ j < 1073741824
def CDivN (i j : Int) : Prop := j ≠ 0 ∧ j.natAbs < 1073741824
def CPow (i j : Int) : Prop := 0 ≤ j ∧ j ≤ 1000000 ∧ i.natAbs < 2 ^ 64
def CMul (i j : Int) : Prop := (-(2 ^ 64) < i ∧ i < 2 ^ 64) ∨ (-(2 ^ 64) < j ∧ j < 2 ^ 64)
theorem op_add : OpR X (binaryOp .Add) (rI0 fun i j => .int (i + j)) := opI0 fun _ _ _ _ _ _ _ q => add_int q
theorem op_sub : OpR X (binaryOp .Sub) (rI0 fun i j => .int (i - j)) := opI0 fun _ _ _ _ _ _ _ q => sub_int q
theorem op_fdiv : OpR X (binaryOp .FloorDiv) (rI CDiv fun i j => .int (i / j)) := opI fun i j _ _ _ _ _ hc q => by
  have h1 : (0 : Int) < j := hc.1
  have h2 : j < 1073741824 := hc.2
  exact floordiv_int (by omega) (by rw [Int.fdiv_eq_ediv_of_nonneg i (by omega)]; exact q) (.inl (PyProof.noPylong_small (by omega)))
theorem op_mod : OpR X (binaryOp .Mod) (rI (fun _ j => 0 < j) fun i j => .int (i % j)) := opI fun i j _ _ _ _ _ hc q => by
  have h1 : (0 : Int) < j := hc
  exact mod_int' (by omega) (by rw [Int.fmod_eq_emod_of_nonneg i (by omega)]; exact q)
theorem op_modN : OpR X (binaryOp .Mod) (rI (fun _ j => j ≠ 0) fun i j => .int (i.fmod j)) := opI fun _ _ _ _ _ _ _ hc q => mod_int' hc q
theorem op_pow : OpR X (binaryOp .Pow) (rI CPow fun i j => .int (i ^ j.toNat)) := opI fun _ _ _ _ _ _ _ hc q => pow_int_small hc.1 hc.2.1 hc.2.2 q
theorem unI {f : Value → Sem Value} {g : Int → Int}
    (rule : ∀ (i : Int) (t : Tok) (s : Shared) (Q : Value → Shared → Prop) (E : Value → Shared → Prop), Q (.int (g i) s.toks) { s with toks := s.toks + 1 } → wpAny (model X.prog X.w) X.A (f (.int i t)) Q E s) :
    UnR X f (rU fun i => .int (g i)) := by
  intro pins s σ H x v Q I rx h
  obtain ⟨i, rfl, q⟩ := h
  obtain ⟨t, rfl⟩ := rx
  exact rule i t s _ _ ⟨.int (g i), H, I.tok _, ⟨_, rfl⟩, q⟩
theorem un_neg : UnR X (unaryOp .USub) (rU fun i => .int (-i)) := unI fun _ _ _ _ _ q => neg_int q
end

def scal : V → V → Bool
  | .non, .non => true | .non, .int _ => true | .int _, .non => true | .non, .bl _ => true | .bl _, .non => true | .non, .str _ => true | .str _, .non => true
  | .int _, .int _ => true | .bl _, .bl _ => true | .str _, .str _ => true | .byt _, .byt _ => true
  | .int _, .str _ => true | .str _, .int _ => true | .bl _, .str _ => true | .str _, .bl _ => true
  | _, _ => false
def rEq : R2 := fun x y H Q => scal x y = true ∧ Q (.bl (decide (x = y))) H
def rNe : R2 := fun x y H Q => scal x y = true ∧ Q (.bl (!decide (x = y))) H

theorem dec_int {i j : Int} : decide (V.int i = V.int j) = (i == j) := by
  rw [Bool.eq_iff_iff]
  simp
theorem dec_bl {i j : Bool} : decide (V.bl i = V.bl j) = (i == j) := by
  rw [Bool.eq_iff_iff]
  simp
theorem dec_str {i j : Str} : decide (V.str i = V.str j) = (i == j) := by
  rw [Bool.eq_iff_iff]
  simp
theorem dec_byt {i j : Array UInt8} : decide (V.byt i = V.byt j) = (i.toList == j.toList) := by
  rw [Bool.eq_iff_iff]
  cases i
  cases j
  simp

section
variable {X : Cx} {a b c : Expr} {ta tb tc : TE} {pos : Pos}
theorem fin_bl {pins : List (Addr × Obj)} {σ : St} {H : Hp} {s : Shared} {Q : VK} {k k' : Bool} (I : Inv X pins σ H s) (q : Q (.bl k) H) (e : k = k') : EP X pins σ Q (.bool k') s := by
  subst e
  exact ⟨.bl k, H, I, rfl, q⟩
theorem op_eq : OpR X (compareOp .Eq) rEq := by
  intro pins s σ H x y v u Q I rx ry h
  obtain ⟨hs, q⟩ := h
  cases x with
  | non =>
    cases rx
    cases y with
    | non => cases ry; exact PySem.EqNone.eq_none_none (fin_bl I q (by simp))
    | bl j => cases ry; exact PySem.EqNone.eq_none_bool (fin_bl I q (by simp))
    | int j => obtain ⟨t', rfl⟩ := ry; exact PySem.EqNone.eq_none_int (fin_bl I q (by simp))
    | str j => obtain ⟨t', rfl⟩ := ry; exact PySem.EqNone.eq_none_str (fin_bl I q (by simp))
    | _ => exact absurd (show false = true from hs) Bool.false_ne_true
  | bl i =>
    cases rx
    cases y with
    | non => cases ry; exact PySem.EqNone.eq_bool_none (fin_bl I q (by simp))
    | bl j => cases ry; exact eq_bool (fin_bl I q dec_bl)
    | str j => obtain ⟨t', rfl⟩ := ry; exact PySem.EqMixed.eq_bool_str (fin_bl I q (by simp))
    | _ => exact absurd (show false = true from hs) Bool.false_ne_true
  | int i =>
    obtain ⟨t, rfl⟩ := rx
    cases y with
    | non => cases ry; exact PySem.EqNone.eq_int_none (fin_bl I q (by simp))
    | int j => obtain ⟨t', rfl⟩ := ry; exact eq_int (fin_bl I q dec_int)
    | str j => obtain ⟨t', rfl⟩ := ry; exact PySem.EqMixed.eq_int_str (fin_bl I q (by simp))
    | _ => exact absurd (show false = true from hs) Bool.false_ne_true
  | str i =>
    obtain ⟨t, rfl⟩ := rx
    cases y with
    | non => cases ry; exact PySem.EqNone.eq_str_none (fin_bl I q (by simp))
    | bl j => cases ry; exact PySem.EqMixed.eq_str_bool (fin_bl I q (by simp))
    | int j => obtain ⟨t', rfl⟩ := ry; exact PySem.EqMixed.eq_str_int (fin_bl I q (by simp))
    | str j => obtain ⟨t', rfl⟩ := ry; exact eq_str (fin_bl I q dec_str)
    | _ => exact absurd (show false = true from hs) Bool.false_ne_true
  | byt i =>
    obtain ⟨t, rfl⟩ := rx
    cases y with
    | byt j => obtain ⟨t', rfl⟩ := ry; exact PySem.W.eq_bytes (fin_bl I q dec_byt)
    | _ => exact absurd (show false = true from hs) Bool.false_ne_true
  | _ => cases y <;> exact absurd (show false = true from hs) Bool.false_ne_true
theorem op_ne : OpR X (compareOp .NotEq) rNe := by
  intro pins s σ H x y v u Q I rx ry h
  obtain ⟨hs, q⟩ := h
  cases x with
  | non =>
    cases rx
    cases y with
    | non => cases ry; exact PySem.EqNone.ne_none_none (fin_bl I q (by simp))
    | bl j => cases ry; exact PySem.EqNone.ne_none_bool (fin_bl I q (by simp))
    | int j => obtain ⟨t', rfl⟩ := ry; exact PySem.EqNone.ne_none_int (fin_bl I q (by simp))
    | str j => obtain ⟨t', rfl⟩ := ry; exact PySem.EqNone.ne_none_str (fin_bl I q (by simp))
    | _ => exact absurd (show false = true from hs) Bool.false_ne_true
  | bl i =>
    cases rx
    cases y with
    | non => cases ry; exact PySem.EqNone.ne_bool_none (fin_bl I q (by simp))
    | bl j => cases ry; exact ne_bool (fin_bl I q (congrArg not dec_bl))
    | str j => obtain ⟨t', rfl⟩ := ry; exact PySem.EqMixed.ne_bool_str (fin_bl I q (by simp))
    | _ => exact absurd (show false = true from hs) Bool.false_ne_true
  | int i =>
    obtain ⟨t, rfl⟩ := rx
    cases y with
    | non => cases ry; exact PySem.EqNone.ne_int_none (fin_bl I q (by simp))
    | int j => obtain ⟨t', rfl⟩ := ry; exact ne_int (fin_bl I q (congrArg not dec_int))
    | str j => obtain ⟨t', rfl⟩ := ry; exact PySem.EqMixed.ne_int_str (fin_bl I q (by simp))
    | _ => exact absurd (show false = true from hs) Bool.false_ne_true
  | str i =>
    obtain ⟨t, rfl⟩ := rx
    cases y with
    | non => cases ry; exact PySem.EqNone.ne_str_none (fin_bl I q (by simp))
    | bl j => cases ry; exact PySem.EqMixed.ne_str_bool (fin_bl I q (by simp))
    | int j => obtain ⟨t', rfl⟩ := ry; exact PySem.EqMixed.ne_str_int (fin_bl I q (by simp))
    | str j => obtain ⟨t', rfl⟩ := ry; exact ne_str (fin_bl I q (congrArg not dec_str))
    | _ => exact absurd (show false = true from hs) Bool.false_ne_true
  | byt i =>
    obtain ⟨t, rfl⟩ := rx
    cases y with
    | byt j => obtain ⟨t', rfl⟩ := ry; exact PySem.W.ne_bytes (fin_bl I q (congrArg not dec_byt))
    | _ => exact absurd (show false = true from hs) Bool.false_ne_true
  | _ => cases y <;> exact absurd (show false = true from hs) Bool.false_ne_true

theorem op_lt : OpR X (compareOp .Lt) (rI0 fun i j => .bl (decide (i < j))) := opB0 fun _ _ _ _ _ _ _ q => lt_int q
theorem op_le : OpR X (compareOp .LtE) (rI0 fun i j => .bl (decide (i ≤ j))) := opB0 fun _ _ _ _ _ _ _ q => le_int q
theorem op_gt : OpR X (compareOp .Gt) (rI0 fun i j => .bl (decide (j < i))) := opB0 fun _ _ _ _ _ _ _ q => gt_int q
def isObj : HO → Bool
  | .lst _ => true
  | .ins _ _ _ => true
  | _ => false
theorem nomark (b : Expr) {op : CmpOp} (h : op ≠ .In := by decide) (h2 : op ≠ .NotIn := by decide) : behindInMarks op b = false := by
  have e1 : (op == CmpOp.In) = false := by cases op <;> first | rfl | exact absurd rfl h
  have e2 : (op == CmpOp.NotIn) = false := by cases op <;> first | rfl | exact absurd rfl h2
  cases b <;> simp [behindInMarks, e1, e2]
theorem pe_cmpR {op : CmpOp} {r : R2} (ho : OpR X (compareOp op) r) (ha : PE X a ta) (hb : PE X b tb) (hm : behindInMarks op b = false) : PE X (.Compare a [op] [b] pos) (tOp r ta tb) := by
  intro pins s σ H Q I h
  exact wpAny_Compare1 (binT ha hb I h fun v u s2 x y H2 I2 rx ry q => ho pins s2 σ H2 x y v u Q I2 rx ry q) hm
def tTest (t : TE) : TT := fun σ H Q => t σ H fun x H' => ∃ k, x = .bl k ∧ Q k H'
theorem pt_cmpR {op : CmpOp} {r : R2} (ho : OpR X (compareOp op) r) (ha : PE X a ta) (hb : PE X b tb) (hm : behindInMarks op b = false) : PT X (.Compare a [op] [b] pos) (tTest (tOp r ta tb)) := by
  intro pins s σ H Q I h
  refine wpAny_isTrue_Compare1 (thn (ha pins s σ H _ I h) fun v s1 ⟨x, H1, I1, r1, q1⟩ => thn (hb pins s1 σ H1 _ I1 q1) fun u s2 ⟨y, H2, I2, r2, q2⟩ =>
    thn (ho pins s2 σ H2 x y v u _ I2 r1 r2 q2) fun c s3 ⟨z, H3, I3, r3, k, e, q3⟩ => ?_) hm
  subst e
  cases r3
  exact wpAny_truthy_bool ⟨H3, I3, q3⟩
def tChain (r r' : R2) (ta tb tc : TE) : TE := fun σ H Q => ta σ H fun x H1 => tb σ H1 fun y H2 => r x y H2 fun z H3 => ∃ k, z = .bl k ∧
  (if k = true then tc σ H3 fun w' H4 => r' y w' H4 Q else Q (.bl false) H3)
def TruV (K : PySem.W.Frag) (x : V) (H : Hp) (k : Bool) : Prop :=
  match x with
  | .non => k = false
  | .bl b => k = b
  | .int i => k = (i != 0)
  | .str y => y.length ≤ sizeLine ∧ k = ((y.length : Int) != 0)
  | .byt y => y.size ≤ sizeLine ∧ k = ((y.size : Int) != 0)
  | .ref p => (∃ xs, SqL K H p xs ∧ k = !xs.isEmpty) ∨ (∃ xs, SqT K H p xs ∧ k = !xs.isEmpty) ∨ ∃ kvs, H p = some (.dK kvs) ∧ k = !kvs.isEmpty
  | _ => False
theorem line63 : (sizeLine : Nat) < 2 ^ 63 := by rw [sizeLine_eq]; decide
def PlainIxT (b : Expr) : Prop := ∀ o i, subscripted b false o i = operate [o, i] (getItem o i)
theorem vals1 {x : V} {us : List Value} (r : Vals [x] us) : ∃ u, us = [u] ∧ RelV x u := by
  cases r with
  | cons r1 r2 => cases r2; exact ⟨_, rfl, r1⟩
theorem vals2 {x y : V} {us : List Value} (r : Vals [x, y] us) : ∃ u w', us = [u, w'] ∧ RelV x u ∧ RelV y w' := by
  cases r with
  | cons r1 r2 =>
    cases r2 with
    | cons r3 r4 => cases r4; exact ⟨_, _, rfl, r1, r3⟩
theorem call_abs : CallR X (.builtin "abs") (fun xs H Q => ∃ i, xs = [.int i] ∧ Q (.int (if i < 0 then -i else i)) H) := by
  intro pins s σ H xs us Q I r h
  obtain ⟨i, rfl, q⟩ := h
  obtain ⟨u, rfl, t, rfl⟩ := vals1 r
  exact call_abs_int fun u tk => ⟨.int (if i < 0 then -i else i), H, I.tok _, ⟨_, rfl⟩, q⟩
theorem call_min2 (hc : X.calm = true) : CallR X (.builtin "min") (fun xs H Q => ∃ i j, xs = [.int i, .int j] ∧ Q (.int (if j < i then j else i)) H) := by
  intro pins s σ H xs us Q I r h
  obtain ⟨i, j, rfl, q⟩ := h
  obtain ⟨u, w', rfl, ⟨t, rfl⟩, ⟨t', rfl⟩⟩ := vals2 r
  refine min_two_ints (I.ok.hd hc) fun h' tk k => ⟨_, H, I.kept k, ?_, q⟩
  by_cases hj : j < i
  · rw [if_pos hj, if_pos hj]; exact ⟨_, rfl⟩
  · rw [if_neg hj, if_neg hj]; exact ⟨_, rfl⟩
def LenV (K : PySem.W.Frag) (x : V) (H : Hp) (n : Nat) : Prop :=
  match x with
  | .str y => y.length ≤ sizeLine ∧ n = y.length
  | .byt y => y.size ≤ sizeLine ∧ n = y.size
  | .ref p => (∃ xs, SqL K H p xs ∧ n = xs.length) ∨ ∃ xs, SqT K H p xs ∧ n = xs.length
  | _ => False
end
end L2

namespace L2
open PySem PySem.Spec PyProof.Rows

structure ObjM (h : Heap) (x dx C : Addr) (mA : Str → Option Value) : Prop where
  obj : h.get? x = some (PySem.W.instObj C dx)
  ns : h.Ns1 dx mA
  ne : dx ≠ x

theorem lookIn_ns {h : Heap} {dx : Addr} {mA : Str → Option Value} (n : h.Ns1 dx mA) : ∃ od, h.get? dx = some od ∧ ∀ name, PySem.W.lookIn name od = some (mA name) := by
  obtain ⟨o, es, ep, ho, hd, hk, _, hm⟩ := n
  refine ⟨o, ho, fun name => ?_⟩
  have e := hm name
  unfold nsFind findBy at e
  rw [← Array.find?_toList] at e
  unfold PySem.W.lookIn
  rw [hd]
  dsimp only
  split
  · rename_i y q
    rw [q] at e
    exact congrArg some e
  · rename_i q
    rw [q] at e
    have a : es.toList.any (·.refKey) = false := by
      rw [List.any_eq_false]
      intro y hy
      obtain ⟨z, t, hkey⟩ := hk y (Array.mem_toList_iff.mp hy)
      simp [DictEntry.refKey, hkey]
    have a' : ¬ es.toList.any (·.refKey) = true := by rw [a]; exact Bool.false_ne_true
    rw [if_neg a']
    exact congrArg some e

theorem ObjM.look {h : Heap} {x dx C : Addr} {mA : Str → Option Value} (I : ObjM h x dx C mA) : ∃ od, PySem.W.InstAt h x (PySem.W.instObj C dx) C (some od) ∧ ∀ name, PySem.W.lookIn name od = some (mA name) :=
  let ⟨od, ho, hl⟩ := lookIn_ns I.ns
  ⟨od, ⟨I.obj, rfl, rfl, ho⟩, hl⟩

section
variable {prog : Program} {w : World} {A : Around} {E : Value → Shared → Prop} {s : Shared} {K : PySem.W.Frag} {x dx C f : Addr} {mA : Str → Option Value} {name : Str} {v : Value}

end

def putF (f : Str) (v : V) : List (Str × V) → List (Str × V)
  | [] => [(f, v)]
  | (g, x) :: r => if g = f then (g, v) :: r else (g, x) :: putF f v r
section
variable {P : Program} {w : World} {H H' : Hp} {h h' : Heap} {a C dx : Addr} {fs fs' : List (Str × V)}
theorem ins_get (hok : HOk P w H h) (e : H a = some (.ins C dx fs)) : ∃ mA, ObjM h a dx C mA ∧ (∀ f, RelO (fs.lookup f) (mA f)) ∧ PySem.Within mA (fs.map (·.1)) ∧ fs.length ≤ 1000 ∧ H dx = some (.own a) := by
  obtain ⟨d, z, ne, ob, mA, n, r, q⟩ := (show ObjOk P w H h a (.ins C dx fs) from hok a _ e)
  exact ⟨mA, ⟨ob, n, ne⟩, r, q, z, d⟩
end

structure Cls (K : PySem.W.Frag) (C : Addr) : Prop where
  pg : PySem.W.plainGet K C Str.empty = true
  hd : PySem.W.hasDictIn K C = true
  po : PySem.W.plainOver K C = true
  sa : PySem.W.findIn K (.ref C) "__setattr__" = some (some (.builtin "object.__setattr__"))
theorem Cls.get {K : PySem.W.Frag} {C : Addr} (c : Cls K C) (f : Str) : PySem.W.plainGet K C f = true := c.pg
def NoAttr (K : PySem.W.Frag) (C : Addr) (f : Str) : Prop := PySem.W.findIn K (.ref C) f = some none
structure Con (K : PySem.W.Frag) (C : Addr) (f : Str) (v : V) (u : Value) : Prop where
  at_ : PySem.W.findIn K (.ref C) f = some (some u)
  rel : RelV v u
  get : PySem.W.specialIn K u "__get__" = some none
  cp : PySem.W.copiedNames.contains f = false
structure Meth (K : PySem.W.Frag) (C : Addr) (m : Str) (f : Addr) : Prop where
  at_ : PySem.W.findIn K (.ref C) m = some (some (.ref f))
  fn : PySem.W.isFn K (.ref f) = true
  kp : PySem.W.keepIn K (.ref f) = true

section
variable {X : Cx} {pins : List (Addr × Obj)} {σ : St} {H : Hp} {s : Shared} {a C dx : Addr} {fs : List (Str × V)} {f : Str} {v : V} {A : Around} {E : Value → Shared → Prop}

end

def tFld (K : PySem.W.Frag) (ta : TE) (f : Str) : TE := fun σ H Q => ta σ H fun x H1 => ∃ a C dx fs v, x = .ref a ∧ H1 a = some (.ins C dx fs) ∧ Cls K C ∧ NoAttr K C f ∧ fs.lookup f = some v ∧ Q v H1
def tCon (K : PySem.W.Frag) (ta : TE) (f : Str) : TE := fun σ H Q => ta σ H fun x H1 => ∃ a C dx fs v u, x = .ref a ∧ H1 a = some (.ins C dx fs) ∧ Cls K C ∧ Con K C f v u ∧ fs.lookup f = none ∧ Q v H1
def sFld (K : PySem.W.Frag) (ta tv : TE) (f : Str) : TS := fun D σ H => tv σ H fun y H1 => ta σ H1 fun x H2 => ∃ a C dx fs, x = .ref a ∧ H2 a = some (.ins C dx fs) ∧ Cls K C ∧ NoAttr K C f ∧ fs.length < 1000 ∧
  D.nx σ (upd H2 a (.ins C dx (putF f y fs)))
def InOp (X : Cx) (op : Operator) (rd : V → V → Hp → VK → Prop) : Prop :=
  ∀ (pins : List (Addr × Obj)) (s : Shared) (σ : St) (H : Hp) (x y : V) (u v : Value) (Q : VK), Inv X pins σ H s → RelV x u → RelV y v → rd x y H Q → wpAny (model X.prog X.w) X.A (inplaceOp op u v) (EP X pins σ Q) X.xe s
def sFldAug (K : PySem.W.Frag) (ta tv : TE) (rd : V → V → Hp → VK → Prop) (f : Str) : TS := fun D σ H => ta σ H fun x H1 => ∃ a C dx fs v, x = .ref a ∧ H1 a = some (.ins C dx fs) ∧ Cls K C ∧ NoAttr K C f ∧ fs.lookup f = some v ∧
  tv σ H1 fun y H2 => rd v y H2 fun z H3 => ∃ dx' fs', H3 a = some (.ins C dx' fs') ∧ fs'.length < 1000 ∧ D.nx σ (upd H3 a (.ins C dx' (putF f z fs')))

section
variable {X : Cx} {o e value : Expr} {f : Str} {pos pos' tpos : Pos} {ta tv : TE}
def rAdd : V → V → Hp → VK → Prop := fun x y H Q => ∃ i j, x = .int i ∧ y = .int j ∧ Q (.int (i + j)) H
def rSub : V → V → Hp → VK → Prop := fun x y H Q => ∃ i j, x = .int i ∧ y = .int j ∧ Q (.int (i - j)) H
end

section
variable {X : Cx} {pins : List (Addr × Obj)} {σ : St} {H : Hp} {s : Shared} {A : Around} {E : Value → Shared → Prop} {Q : Value → Shared → Prop} {c : Value} {b : Bool}
inductive TyOf (K : PySem.W.Frag) (H : Hp) : V → Value → Prop where
  | non : TyOf K H .non (.type "NoneType")
  | bl (x : Bool) : TyOf K H (.bl x) (.type "bool")
  | int (i : Int) : TyOf K H (.int i) (.type "int")
  | str (x : Str) : TyOf K H (.str x) (.type "str")
  | flt (x : UInt64) : TyOf K H (.flt x) (.type "float")
  | lst {a : Addr} {xs : List V} (e : H a = some (.lst xs)) : TyOf K H (.ref a) (.type "list")
  | frz {a : Addr} {o : Obj} {xs : List V} (e : H a = some (.frz o (.lst xs))) : TyOf K H (.ref a) (.type "list")
  | tup {a : Addr} {xs : List V} (e : H a = some (.tup xs)) : TyOf K H (.ref a) (.type "tuple")
  | dK {a : Addr} {kvs : List (Key × V)} (e : H a = some (.dK kvs)) : TyOf K H (.ref a) (.type "dict")
  | dT {a : Addr} {kvs : List (List Key × V)} (e : H a = some (.dT kvs)) : TyOf K H (.ref a) (.type "dict")
  | ins {a C dx : Addr} {fs : List (Str × V)} (e : H a = some (.ins C dx fs)) (cl : Cls K C) (ha : PySem.W.findIn K (.ref C) "__class__" = some (some (.builtin "object.__class__")))
      (hn : PySem.W.specialIn K (.builtin "object.__class__") "__get__" = some (some (.builtin "getset_descriptor.__get__"))) (htk : PySem.W.takesIn K (.builtin "object.__class__") = some true)
      (hm : PySem.W.mroIn K C (.type "object") = some true) : TyOf K H (.ref a) (.ref C)
theorem isinst_ok {x : V} {u t : Value} (I : Inv X pins σ H s) (rx : RelV x u) (ty : TyOf X.K H x t) (e : PySem.W.kitOne X.K t c = some b) (h : ∀ tk, Q (.bool b) { s with toks := tk }) :
    wpAny (model X.prog X.w) A (call (.builtin "isinstance") [u, c]) Q E s := by
  cases ty with
  | non => cases (show u = Value.none from rx); exact PySem.W.kia_one PySem.W.kitx_none I.kIn True.intro e (fun z => nomatch z) h
  | bl y => cases (show u = Value.bool y from rx); exact PySem.W.kia_one PySem.W.kitx_bool I.kIn True.intro e (fun z => nomatch z) h
  | int i => obtain ⟨t, q⟩ := (show ∃ t, u = Value.int i t from rx); cases q; exact PySem.W.kia_one PySem.W.kitx_int I.kIn True.intro e (fun z => nomatch z) h
  | str y => obtain ⟨t, q⟩ := (show ∃ t, u = Value.str y t from rx); cases q; exact PySem.W.kia_one PySem.W.kitx_str I.kIn True.intro e (fun z => nomatch z) h
  | flt y => obtain ⟨t, q⟩ := (show ∃ t, u = Value.float y t from rx); cases q; exact PySem.W.kia_one PySem.W.kitx_float I.kIn True.intro e (fun z => nomatch z) h
  | @lst a xs ea =>
    cases (show u = Value.ref a from rx)
    obtain ⟨_, _, n, _, h1⟩ := (show ObjOk X.prog X.w H s.heap a (.lst xs) from I.hok a _ ea)
    exact PySem.W.kia_one PySem.W.kitx_list I.kIn ⟨_, h1, rfl⟩ e (fun z => nomatch z) h
  | @frz a ob xs ea =>
    cases (show u = Value.ref a from rx)
    obtain ⟨_, _, _, n, _, h1⟩ := (show ObjOk X.prog X.w H s.heap a (.frz ob (.lst xs)) from I.hok a _ ea)
    exact PySem.W.kia_one PySem.W.kitx_list I.kIn ⟨_, h1, rfl⟩ e (fun z => nomatch z) h
  | @tup a xs ea =>
    cases (show u = Value.ref a from rx)
    obtain ⟨_, _, _, p⟩ := (show ObjOk X.prog X.w H s.heap a (.tup xs) from I.hok a _ ea)
    obtain ⟨o, h1, h2, _⟩ := p
    exact PySem.W.kia_one PySem.W.kitx_tuple I.kIn ⟨o, h1, h2⟩ e (fun z => nomatch z) h
  | @dK a kvs ea =>
    cases (show u = Value.ref a from rx)
    obtain ⟨_, _, vs, _, p⟩ := (show ObjOk X.prog X.w H s.heap a (.dK kvs) from I.hok a _ ea)
    obtain ⟨o, es, ep, h1, h2, _⟩ := p
    exact PySem.W.kia_one PySem.W.kitx_dict I.kIn ⟨o, h1, h2.1⟩ e (fun z => nomatch z) h
  | @dT a kvs ea =>
    cases (show u = Value.ref a from rx)
    obtain ⟨_, _, xs, _, o, es, ep, h1, h2, _⟩ := (show ObjOk X.prog X.w H s.heap a (.dT kvs) from I.hok a _ ea)
    exact PySem.W.kia_one PySem.W.kitx_dict I.kIn ⟨o, h1, h2.1⟩ e (fun z => nomatch z) h
  | @ins a C dx fs ea cl ha hn htk hm =>
    cases (show u = Value.ref a from rx)
    obtain ⟨mA, O, _⟩ := ins_get I.hok ea
    obtain ⟨od, J, _⟩ := O.look
    exact PySem.W.kia_one (PySem.W.kitx_own (cl.get _) cl.hd ha hn htk hm) I.kIn J e (fun z => nomatch z) h
end
end L2

namespace L2
open PySem PySem.Spec PyProof.Rows

structure Room (k : Nat) (A : Around) : Prop where
  hd : A.handled = none
  dp : A.depth + 3 * k + 5 < recursionLimit
  un : A.units + 16 * k + 200 < cLine
theorem Room.mono {j k : Nat} {A : Around} (r : Room k A) (h : j ≤ k) : Room j A := ⟨r.hd, by have := r.dp; omega, by have := r.un; omega⟩
theorem Room.deeper {k : Nat} {A : Around} (r : Room (k + 1) A) (env : Env) : Room k (A.deeper env) :=
  ⟨r.hd, by have := r.dp; show A.depth + 1 + 3 * k + 5 < _; omega, by have := r.un; show A.units + 3 + 16 * k + 200 < _; omega⟩
theorem Room.depth {k : Nat} {A : Around} (r : Room k A) : A.depth < recursionLimit := by have := r.dp; omega
def tNil : TA := fun _ H Q => Q [] H
def tCons (ta : TE) (tr : TA) : TA := fun σ H Q => ta σ H fun x H1 => tr σ H1 fun xs H2 => Q (x :: xs) H2
section
variable {X : Cx} {e : Expr} {es : List Expr} {te : TE} {t : TA} {pos : Pos}
theorem pa_nil : PA X [] tNil := fun _ _ _ _ H Q I h => Calls.spliced_nil ⟨[], H, I, .nil, h⟩
theorem pa_cons (ha : PE X e te) (hr : PA X es t) (hs : starEach (e :: es) X.env = (false, eval e X.env) :: starEach es X.env := by rfl) : PA X (e :: es) (tCons te t) := by
  intro pos pins s σ H Q I h
  rw [hs]
  show wpAny _ _ (spliced ((false, eval e X.env) :: backTo pos (starEach es X.env))) _ _ s
  refine Calls.spliced_cons (thn (ha pins s σ H _ I h) fun u s1 ⟨x, H1, I1, r1, q1⟩ => ?_)
  exact thn (hr pos pins s1 σ H1 _ I1 q1) fun us s2 ⟨xs, H2, I2, r2, q2⟩ => ⟨x :: xs, H2, I2, .cons r1 r2, q2⟩

def tTup (t : TA) : TE := fun σ H Q => t σ H fun xs H1 => xs.length ≤ sizeLine ∧ ∀ p, H1 p = none → Q (.ref p) (upd H1 p (.tup xs))
def tLst (t : TA) : TE := fun σ H Q => t σ H fun xs H1 => xs.length ≤ sizeLine ∧ ∀ p, H1 p = none → Q (.ref p) (upd H1 p (.lst xs))
theorem pe_tup {x1} (h : PA X es t) : PE X (.Tuple es x1 pos) (tTup t) := by
  intro pins s σ H Q I hq
  refine wpAny_Tuple_spliced (thn (h pos pins s σ H _ I hq) fun us s1 ⟨xs, H1, I1, r, z, q⟩ => ⟨by rw [← r.length]; exact z, ?_⟩)
  have hf : H1 s1.heap.objs.size = none := I1.hok.fresh (Nat.le_refl _)
  refine ⟨.ref s1.heap.objs.size, upd H1 s1.heap.objs.size (.tup xs), I1.laid (t' := s1.toks) (fun b u e => Heap.get?_push_of_some _ e) (Nat.le_refl _) ?_, rfl, q _ hf⟩
  exact ⟨z, us, r, ⟨_, Heap.get?_push_size _ rfl, rfl, _, rfl⟩⟩
theorem pe_lst (h : PA X es t) : PE X (.List es pos) (tLst t) := by
  intro pins s σ H Q I hq
  refine wpAny_List_spliced (thn (h pos pins s σ H _ I hq) fun us s1 ⟨xs, H1, I1, r, z, q⟩ => ⟨by rw [← r.length]; exact z, ?_⟩)
  have hf : H1 s1.heap.objs.size = none := I1.hok.fresh (Nat.le_refl _)
  refine ⟨.ref s1.heap.objs.size, upd H1 s1.heap.objs.size (.lst xs), I1.laid (t' := s1.toks) (fun b u e => Heap.get?_push_of_some _ e) (Nat.le_refl _) ?_, rfl, q _ hf⟩
  exact ⟨z, us, 0, r, Heap.get?_push_size _ rfl⟩
end

abbrev Sp := List V → Hp → VK → XK → Prop
abbrev CXT := List Env → Hp → Shared → XK → Value → Shared → Prop

structure Env0 (P : Program) (w : World) (K : PySem.W.Frag) (mg : Str → Option Value) (base : Heap) (A : Around) (outer : List Env) (s : Shared) (H : Hp) : Prop where
  frames : A.frames = some outer
  mod : Mod K mg base
  bs : ∀ b o, base.get? b = some o → s.heap.get? b = some o ∧ H b = none
  bsz : base.objs.size ≤ s.heap.objs.size
  funs : s.heap.FunFrames base outer
  frf : ∀ b ∈ frs outer, H b = none
  hok : HOk P w H s.heap
  bare : AllBare s.gens
def CE (outer : List Env) (P : Program) (w : World) (H : Hp) (s : Shared) (Q : VK) (u : Value) (s' : Shared) : Prop :=
  ∃ v H', s'.os = s.os ∧ AllBare s'.gens ∧ Un (frs outer) [] H H' s.heap s'.heap ∧ HOk P w H' s'.heap ∧ RelV v u ∧ Q v H'
def CR (CX : CXT) (outer : List Env) (P : Program) (w : World) (H : Hp) (s : Shared) (Q : VK) (E : XK) (r : Result) (s' : Shared) : Prop :=
  match r with
  | .ok (.ret u) => CE outer P w H s Q u s'
  | .ok _ => False
  | .error e => CX outer H s E e s'
structure FnOk (P : Program) (w : World) (K : PySem.W.Frag) (mg : Str → Option Value) (base : Heap) (CX : CXT) (k : Nat) (f : Addr) (fd : FuncData) (ps : List Str) (sp : Sp) : Prop where
  len : ∀ vs H Q E, sp vs H Q E → vs.length = ps.length
  run : ∀ (A : Around) (outer : List Env) (s : Shared) (H : Hp) (args : Args) (us : List Value) (vs : List V) (Q : VK) (E : XK), Room k A → Env0 P w K mg base A outer s H → BindsTo s fd args (ps.zip us) → Vals vs us → sp vs H Q E →
    codeAny (model P w) A (.call (.ref f) args) (CR CX outer P w H s Q E) s
section
variable {X : Cx} {pins : List (Addr × Obj)} {σ : St} {H : Hp} {s s' : Shared}
theorem Inv.env0 (I : Inv X pins σ H s) : Env0 X.prog X.w X.K X.mg X.base X.A X.stack s H :=
  ⟨I.ok.frames, I.ok.mod, I.bs, Nat.le_trans I.ok.bsz I.sz, I.stack, I.stkFree, I.hok, I.bare⟩
theorem Inv.after {Q : VK} {u : Value} (I : Inv X pins σ H s) (h : CE X.stack X.prog X.w H s Q u s') : EP X pins σ Q u s' := by
  obtain ⟨v, H', os, bare, un, hok, r, q⟩ := h
  obtain ⟨hh, g, d, t, os'⟩ := s'
  obtain rfl : os' = s.os := os
  exact ⟨v, H', I.call (h' := hh) (g' := g) (d' := d) (t' := t) (ch := []) un hok bare (fun b z => absurd z (by simp)), r, q⟩
end

def tCall (sp : Sp) (dvs : List V) (E : XK) (t : TA) : TE := fun σ H Q => t σ H fun vs H1 => sp (vs ++ dvs) H1 Q E
def tMeth (C : Addr) (m : Str) (sp : Sp) (dvs : List V) (E : XK) (ta : TE) (t : TA) : TE := fun σ H Q => ta σ H fun x H1 => ∃ a dx fs, x = .ref a ∧ H1 a = some (.ins C dx fs) ∧ fs.lookup m = none ∧
  t σ H1 fun vs H2 => sp (x :: (vs ++ dvs)) H2 Q E
def tMake (C : Addr) (sp : Sp) (dvs : List V) (E : XK) (t : TA) : TE := fun σ H Q => t σ H fun vs H1 => ∀ x dx, H1 x = none → H1 dx = none → dx ≠ x →
  sp (.ref x :: (vs ++ dvs)) (upd (upd H1 dx (.own x)) x (.ins C dx [])) (fun v H2 => v = .non ∧ Q (.ref x) H2) E

def Binds (K : PySem.W.Frag) (fd : FuncData) (ps : List Str) (ds : List Value) : Prop :=
  ∀ (s : Shared) (us : List Value), K.In s.heap → (us ++ ds).length = ps.length → BindsTo s fd ⟨us, []⟩ (ps.zip (us ++ ds))
theorem Binds.all {K : PySem.W.Frag} {fd : FuncData} {ps : List Str} (h : ∀ us : List Value, us.length = ps.length → bindArgs fd ⟨us, []⟩ = pure (ps.zip us)) : Binds K fd ps [] := fun s us _ hl => by
  rw [List.append_nil] at hl ⊢
  exact .of_eq (h us hl)

def Passes (CX : CXT) (X : Cx) (E : XK) : Prop := ∀ (pins : List (Addr × Obj)) (σ : St) (H : Hp) (s : Shared) (e : Value) (s' : Shared), Inv X pins σ H s → CX X.stack H s E e s' → X.xe e s'

section
variable {X : Cx} {CX : CXT} {k : Nat} {f C : Addr} {fd : FuncData} {ps : List Str} {sp : Sp} {dvs : List V} {ds : List Value} {E : XK} {x m : Str} {p pos apos : Pos} {e o : Expr} {es : List Expr} {ta : TE} {t : TA}

theorem run_fn {pins : List (Addr × Obj)} {σ : St} {H : Hp} {s : Shared} {Q : VK} {us : List Value} {vs : List V} (F : FnOk X.prog X.w X.K X.mg X.base CX k f fd ps sp) (hr : Room k X.A) (hb : Binds X.K fd ps ds) (hd : Vals dvs ds) (hx : Passes CX X E)
    (I : Inv X pins σ H s) (r : Vals vs us) (h : sp (vs ++ dvs) H Q E) : wpAny (model X.prog X.w) X.A (call (.ref f) us) (EP X pins σ Q) X.xe s := by
  have r2 : Vals (vs ++ dvs) (us ++ ds) := r.append hd
  have hl : (us ++ ds).length = ps.length := by rw [← r2.length]; exact F.len _ _ _ _ h
  refine wpAny_call (codeAny_mono (F.run X.A X.stack s H ⟨us, []⟩ (us ++ ds) (vs ++ dvs) Q E hr I.env0 (hb s us I.kIn hl) r2 h) fun r s' hq => ?_)
  cases r with
  | error e => exact hx pins σ H s e s' I hq
  | ok fl =>
    cases fl with
    | ret u => exact I.after hq
    | next => exact False.elim hq
    | brk => exact False.elim hq
    | cont => exact False.elim hq

theorem pe_call (F : FnOk X.prog X.w X.K X.mg X.base CX k f fd ps sp) (hr : Room k X.A) (hg : Gl X x) (hm : X.mg x = some (.ref f)) (hk : PySem.W.keepIn X.K (.ref f) = true) (hb : Binds X.K fd ps ds) (hd : Vals dvs ds) (hx : Passes CX X E)
    (ha : PA X (e :: es) t) (hdb : (x == ("__debug__" : Str)) = false := by decide) (he : starEach (e :: es) X.env = (false, eval e X.env) :: starEach es X.env := by rfl) (hpl : (backTo pos (starEach es X.env)).any (·.1) = false := by rfl) :
    PE X (.Call (.Name x p) (e :: es) [] pos) (tCall sp dvs E t) := by
  intro pins s σ H Q I h
  refine wpAny_Call_Name_kw (ld_glob I hg hm ?_ hdb)
  refine PySem.W.callWith_K (h₀ := X.base) I.ok.mod.kin hk (thn (ha pos pins s σ H _ I h) fun us s1 ⟨vs, H1, I1, r, q⟩ => ⟨I1.kIn, ?_⟩) he hpl
  exact run_fn F hr hb hd hx I1 r q
theorem pe_call0 (F : FnOk X.prog X.w X.K X.mg X.base CX k f fd ps sp) (hr : Room k X.A) (hg : Gl X x) (hm : X.mg x = some (.ref f)) (hk : PySem.W.keepIn X.K (.ref f) = true) (hb : Binds X.K fd ps ds) (hd : Vals dvs ds) (hx : Passes CX X E)
    (hdb : (x == ("__debug__" : Str)) = false := by decide) : PE X (.Call (.Name x p) [] [] pos) (tCall sp dvs E tNil) := by
  intro pins s σ H Q I h
  refine wpAny_Call_Name_kw (ld_glob I hg hm ?_ hdb)
  exact PySem.W.callWith_K0 I.kIn hk (run_fn (us := []) F hr hb hd hx I .nil h)

structure Mk (K : PySem.W.Frag) (C f : Addr) : Prop where
  makes : PySem.W.makesIn K C = true
  init : PySem.W.findIn K (.ref C) "__init__" = some (some (.ref f))
  fn : PySem.W.isFn K (.ref f) = true
  kp : PySem.W.keepIn K (.ref C) = true

end

def PK (X : Cx) (kws : List Keyword) (t : TA) : Prop :=
  ∀ (pos : Pos) (pins : List (Addr × Obj)) (s : Shared) (σ : St) (H : Hp) (Q : List V → Hp → Prop), Inv X pins σ H s → t σ H Q → wpAny (model X.prog X.w) X.A (evalAll ((backToKw pos (keywordEach kws X.env)).map (·.2))) (AP X pins σ Q) X.xe s
section
variable {X : Cx} {CX : CXT} {k : Nat} {f C : Addr} {fd : FuncData} {ps ks : List Str} {sp : Sp} {E : XK} {x m : Str} {p pos apos kpos : Pos} {e o : Expr} {es : List Expr} {kws : List Keyword} {te ta : TE} {t tk : TA} {nm : Option Str}
structure KBinds (K : PySem.W.Frag) (fd : FuncData) (ps ks : List Str) (g : List Value → List Value → List Value) (gV : List V → List V → List V) : Prop where
  to : ∀ (s : Shared) (us ws : List Value), K.In s.heap → (g us ws).length = ps.length → BindsTo s fd ⟨us, ks.zip ws⟩ (ps.zip (g us ws))
  rel : ∀ {vs : List V} {us : List Value} {zs : List V} {ws : List Value}, Vals vs us → Vals zs ws → Vals (gV vs zs) (g us ws)
def tCallK (sp : Sp) (gV : List V → List V → List V) (E : XK) (t tk : TA) : TE := fun σ H Q => t σ H fun vs H1 => tk σ H1 fun zs H2 => sp (gV vs zs) H2 Q E
variable {g : List Value → List Value → List Value} {gV : List V → List V → List V}
end

structure FnScope (N P : List Str) (sc : Scope) : Prop where
  kind : sc.kind = .function
  co : sc.isCoroutine = false
  gen : sc.isGenerator = false
  nd : N.Nodup
  pre : N.take P.length = P
  par : ∀ x ∈ P, sc.names.lookup x = some .local ∨ sc.names.lookup x = some .cell
  nofree : ∀ y ∈ sc.names, y.2 ≠ .free

theorem bindL_out {kindOf : Str → Option NameKind} {x : Str} : ∀ {binds : List (Str × Value)} {m : Str → Option Value}, (∀ v, (x, v) ∉ binds) → bindL kindOf binds m x = m x
  | [], _, _ => rfl
  | (n, v) :: r, m, h => by
    unfold bindL
    rw [bindL_out fun w hw => h w (List.mem_cons_of_mem _ hw)]
    split
    · have : x ≠ n := by rintro rfl; exact h v List.mem_cons_self
      simp [this]
    · rfl
theorem bindC_out {kindOf : Str → Option NameKind} {x : Str} : ∀ {binds : List (Str × Value)} {m : Str → Option Value}, (∀ v, (x, v) ∉ binds) → bindC kindOf binds m x = m x
  | [], _, _ => rfl
  | (n, v) :: r, m, h => by
    unfold bindC
    rw [bindC_out fun w hw => h w (List.mem_cons_of_mem _ hw)]
    split
    · rfl
    · have : x ≠ n := by rintro rfl; exact h v List.mem_cons_self
      simp [this]
theorem bindL_get {kindOf : Str → Option NameKind} {x : Str} {v : Value} : ∀ {P : List Str} {vs : List Value} {i : Nat} {m : Str → Option Value}, P.Nodup → P[i]? = some x → vs[i]? = some v → kindOf x = some .local →
    bindL kindOf (P.zip vs) m x = some v
  | [], _, _, _, _, h, _, _ => by simp at h
  | _ :: _, [], _, _, _, _, h, _ => by simp at h
  | p :: P, w :: vs, 0, m, nd, h1, h2, hk => by
    simp at h1 h2; subst h1; subst h2
    show bindL kindOf ((p, w) :: P.zip vs) m p = _
    unfold bindL
    rw [bindL_out fun v hv => (List.nodup_cons.mp nd).1 (List.of_mem_zip hv).1, if_pos hk]
    simp
  | p :: P, w :: vs, i + 1, m, nd, h1, h2, hk => by
    show bindL kindOf ((p, w) :: P.zip vs) m x = _
    unfold bindL
    exact bindL_get (i := i) (List.nodup_cons.mp nd).2 (by simpa using h1) (by simpa using h2) hk
theorem bindC_get {kindOf : Str → Option NameKind} {x : Str} {v : Value} : ∀ {P : List Str} {vs : List Value} {i : Nat} {m : Str → Option Value}, P.Nodup → P[i]? = some x → vs[i]? = some v → kindOf x ≠ some .local →
    bindC kindOf (P.zip vs) m x = some v
  | [], _, _, _, _, h, _, _ => by simp at h
  | _ :: _, [], _, _, _, _, h, _ => by simp at h
  | p :: P, w :: vs, 0, m, nd, h1, h2, hk => by
    simp at h1 h2; subst h1; subst h2
    show bindC kindOf ((p, w) :: P.zip vs) m p = _
    unfold bindC
    rw [bindC_out fun v hv => (List.nodup_cons.mp nd).1 (List.of_mem_zip hv).1, if_neg hk]
    simp
  | p :: P, w :: vs, i + 1, m, nd, h1, h2, hk => by
    show bindC kindOf ((p, w) :: P.zip vs) m x = _
    unfold bindC
    exact bindC_get (i := i) (List.nodup_cons.mp nd).2 (by simpa using h1) (by simpa using h2) hk

def start (N : List Str) (vs : List V) : St := vs.map some ++ List.replicate (N.length - vs.length) none

def cxOf (CX : CXT) (P : Program) (w : World) (K : PySem.W.Frag) (mg : Str → Option Value) (base : Heap) (N : List Str) (qual : Str) (scope : Scope) (f : Addr) (cd : Value) (A : Around) (outer : List Env) (s : Shared) (H : Hp) (E : XK) : Cx where
  prog := P
  w := w
  K := K
  mg := mg
  base := base
  A := A.deeper (envOfC qual scope s.heap.objs.size f cd)
  N := N
  s₀ := s
  H₀ := H
  env := envOfC qual scope s.heap.objs.size f cd
  outer := outer
  stack := envOfC qual scope s.heap.objs.size f cd :: outer
  ex := []
  calm := true
  fn := fun _ => true
  pn := []
  xe := fun e s' => wpAny (model P w) (A.deeper (envOfC qual scope s.heap.objs.size f cd)) (leaving (envOfC qual scope s.heap.objs.size f cd) e) (fun _ s'' => CX outer H s E e s'') (fun e' s'' => CX outer H s E e' s'') s'

theorem cell_has {sc : Scope} {n : Nat} {x : Str} (h : sc.names.lookup x = some .cell) : ∃ c, (cellsFrom n sc.names []).lookup x = some c := by
  have q := PySem.W.cellsFrom_some sc.names n [] (.inl h)
  exact Option.isSome_iff_exists.mp q

theorem inv_start {CX : CXT} {P : Program} {w : World} {K : PySem.W.Frag} {mg : Str → Option Value} {base : Heap} {N ps : List Str} {qual : Str} {scope : Scope} {f : Addr} {cd : Value} {A : Around} {outer : List Env} {s s1 : Shared} {H : Hp} {E : XK} {us : List Value} {vs : List V}
    (S : FnScope N ps scope) (hd : A.handled = none) (e0 : Env0 P w K mg base A outer s H) (hl : vs.length = ps.length) (r : Vals vs us)
    (x : InCallC s s.heap.objs.size (bindL (envOfC qual scope s.heap.objs.size f cd).kindOf (ps.zip us) fun _ => none) (cellsFrom (s.heap.objs.size + 1) scope.names []) (bindC (envOfC qual scope s.heap.objs.size f cd).kindOf (ps.zip us) fun _ => none) s1) :
    Inv (cxOf CX P w K mg base N qual scope f cd A outer s H E) [] (start N vs) H s1 := by
  have hpl : ps.length ≤ N.length := by have := congrArg List.length S.pre; rw [List.length_take] at this; omega
  obtain ⟨h1, tk, rfl, hk⟩ := x.done
  have noA : ∀ b : Addr, b ∉ (cxOf CX P w K mg base N qual scope f cd A outer s H E).ex := fun b z => absurd (show b ∈ ([] : List Addr) from z) (by simp)
  refine ⟨⟨e0.mod, S.kind, rfl, rfl, Nat.le_refl _, fun y z c h1 h2 => ?_, fun y hy => ?_, fun y c _ h => ?_, fun _ => hd, Around.frames_deeper e0.frames, .inr ⟨rfl, rfl⟩, fun b z => absurd z (noA b), e0.bs, e0.bsz, fun b _ _ => noA b, fun b z => absurd z (noA b), e0.funs, e0.frf⟩,
    rfl, e0.bare, Un.kept hk, ⟨_, x.toInCall.ns, fun i y v h1 h2 h3 => ?_⟩, fun y c h => ⟨_, x.cell y c h⟩, e0.hok.fresh (Nat.le_refl _), fun y c h => ?_, fun p hp => absurd (show p ∈ ([] : List (Addr × Obj)) from hp) (by simp), e0.hok.kept hk, ?_⟩
  · exact name_of_addr x.apart (PySem.mem_of_lookup h1) (PySem.mem_of_lookup h2)
  · have hy : scope.names.lookup y = some .cell ∨ scope.names.lookup y = some .free := hy
    rcases hy with hy | hy
    · exact cell_has hy
    · exact absurd rfl (S.nofree _ (PySem.mem_of_lookup hy))
  · exact Nat.le_of_lt (x.above y c (PySem.mem_of_lookup h))
  · have hi : i < vs.length := by
      unfold start at h2
      by_cases hi : i < vs.length
      · exact hi
      · rw [List.getElem?_append_right (by simpa using hi)] at h2
        rw [List.getElem?_replicate] at h2
        split at h2 <;> cases h2
    have ha : vs[i]? = some v := by
      unfold start at h2
      rw [List.getElem?_append_left (by simpa using hi), List.getElem?_map] at h2
      cases e : vs[i]? with
      | none => rw [e] at h2; cases h2
      | some a => rw [e] at h2; cases h2; rfl
    obtain ⟨u, hu, rv⟩ := r.get ha
    have hp : ps[i]? = some y := by
      rw [← S.pre, List.getElem?_take_of_lt (by omega)]; exact h1
    have ndP : ps.Nodup := by rw [← S.pre]; exact S.nd.sublist (List.take_sublist _ _)
    refine ⟨u, rv, ?_⟩
    rcases S.par y (List.mem_of_getElem? hp) with k | k
    · exact .inl ⟨k, bindL_get ndP hp hu k⟩
    · obtain ⟨c, e⟩ := cell_has (n := s.heap.objs.size + 1) k
      refine .inr ⟨.inl k, c, e, ?_⟩
      have q := x.cell y c e
      rw [bindC_get ndP hp hu (by show scope.names.lookup y ≠ _; rw [k]; decide)] at q
      exact q
  · exact e0.hok.fresh (Nat.le_of_lt (x.above y c (PySem.mem_of_lookup h)))
  · unfold start
    show _ = N.length
    rw [List.length_append, List.length_map, List.length_replicate]
    omega

theorem fn_of {CX : CXT} {P : Program} {w : World} {K : PySem.W.Frag} {mg : Str → Option Value} {base : Heap} {k : Nat} {f : Addr} {name qual : Str} {params : Arguments} {body : List Stmt} {scope : Scope} {dV kV doc pm cdv ct oc : Value} {an od : Option Addr}
    {osl : Array (Option Value)} {N ps : List Str} {sp : Sp} (lk : K.lookup f = some ⟨oc, od, .func (PySem.W.fnOf name qual params body scope dV kV doc pm an cdv ct), osl⟩) (hcd : PySem.W.codeIn K cdv qual = true) (S : FnScope N ps scope)
    (len : ∀ vs H Q E, sp vs H Q E → vs.length = ps.length)
    (hbody : ∀ (A : Around) (outer : List Env) (s : Shared) (H : Hp) (vs : List V) (Q : VK) (E : XK), Room k (A.deeper (envOfC qual scope s.heap.objs.size f cdv)) → sp vs H Q E →
      ∃ t, PSs (cxOf CX P w K mg base N qual scope f cdv A outer s H E) body t ∧ t { nx := fun _ H' => Q .non H', rt := Q } (start N vs) H) :
    FnOk P w K mg base CX (k + 1) f (PySem.W.fnOf name qual params body scope dV kV doc pm an cdv ct) ps sp := by
  refine ⟨len, fun A outer s H args us vs Q E hr e0 hb r hsp => ?_⟩
  have hl := len _ _ _ _ hsp
  have KX : K.In s.heap := e0.mod.kin.keeps fun b o e => (e0.bs b o e).1
  have lim : s.heap.NoLimit := e0.mod.nolimit.keeps fun b o e => (e0.bs b o e).1
  have hkind : ∀ y ∈ ps.zip us, scope.names.lookup y.1 = some .local ∨ (scope.names.lookup y.1 = some .cell ∧ ((cellsFrom (s.heap.objs.size + 1) scope.names []).lookup y.1).isSome = true) := fun ⟨n, v⟩ hy => by
    rcases S.par n (List.of_mem_zip hy).1 with q | q
    · exact .inl q
    · exact .inr ⟨q, PySem.W.cellsFrom_some _ _ _ (.inl q)⟩
  refine codeAny_call_function hr.depth (KX _ _ lk) rfl S.co S.gen rfl (PySem.W.codeRec_of KX hcd) (hb _ _ _ _ ?_)
  refine wpAny_newFunctionEnv_cells S.kind hkind fun env he s1 x => ?_
  subst he
  refine ⟨lim.keeps x.toInCall.keep, codeAny_func ?_⟩
  obtain ⟨t, ht, hq⟩ := hbody A outer s H vs Q E (hr.deeper _) hsp
  have I : Inv (cxOf CX P w K mg base N qual scope f cdv A outer s H E) [] (start N vs) H s1 := inv_start S hr.hd e0 hl r x
  refine wpAny_mono (ht [] s1 (start N vs) H _ I hq) (fun fl s' hs => ?_) fun e s' hs => hs
  have fin : ∀ {σ' : St} {H' : Hp} {v : V} {u : Value}, Inv (cxOf CX P w K mg base N qual scope f cdv A outer s H E) [] σ' H' s' → RelV v u → Q v H' → CE outer P w H s Q u s' :=
    fun {σ' H' v u} J rv q => ⟨v, H', J.os, J.bare, J.base, J.hok, rv, q⟩
  cases fl with
  | ret u =>
    obtain ⟨v, σ', H', J, rv, q⟩ := hs
    exact fin J rv q
  | next =>
    obtain ⟨σ', H', J, q⟩ := hs
    exact fin (v := V.non) (u := Value.none) J rfl q
  | brk =>
    obtain ⟨_, _, _, q⟩ := hs
    exact False.elim q
  | cont =>
    obtain ⟨_, _, _, q⟩ := hs
    exact False.elim q
end L2

namespace L2
open PySem PySem.Spec PyProof.Rows
section
variable {X : Cx} {x : Str} {p pos : Pos} {e : Expr} {es : List Expr} {t : TA} {id T : String} {r : List V → Hp → VK → Prop}

def tCB (r : List V → Hp → VK → Prop) (t : TA) : TE := fun σ H Q => t σ H fun vs H1 => r vs H1 Q
theorem pe_callB (hc : CallR X (.builtin id) r) (hg : Gl X x) (hm : X.mg x = none) (hv : bootBuiltins x = some (.builtin id)) (ha : PA X (e :: es) t) (hn : x ≠ "__name__" := by decide) (hdb : (x == ("__debug__" : Str)) = false := by decide)
    (he : starEach (e :: es) X.env = (false, eval e X.env) :: starEach es X.env := by rfl) (hpl : (backTo pos (starEach es X.env)).any (·.1) = false := by rfl) : PE X (.Call (.Name x p) (e :: es) [] pos) (tCB r t) := by
  intro pins s σ H Q I h
  refine wpAny_Call_Name_kw (ld_blt I hg hm hv ?_ hn hdb)
  exact PyProof.Rows.callWith_builtin1 (thn (ha pos pins s σ H _ I h) fun us s1 ⟨vs, H1, I1, r1, q1⟩ => hc pins s1 σ H1 vs us Q I1 r1 q1) he hpl
theorem pe_callTy (hc : CallR X (.type T) r) (hg : Gl X x) (hm : X.mg x = none) (hv : bootBuiltins x = some (.type T)) (ha : PA X (e :: es) t) (hn : x ≠ "__name__" := by decide) (hdb : (x == ("__debug__" : Str)) = false := by decide)
    (he : starEach (e :: es) X.env = (false, eval e X.env) :: starEach es X.env := by rfl) (hpl : (backTo pos (starEach es X.env)).any (·.1) = false := by rfl) : PE X (.Call (.Name x p) (e :: es) [] pos) (tCB r t) := by
  intro pins s σ H Q I h
  refine wpAny_Call_Name_kw (ld_blt I hg hm hv ?_ hn hdb)
  exact PyProof.Rows.callWith_type1 (thn (ha pos pins s σ H _ I h) fun us s1 ⟨vs, H1, I1, r1, q1⟩ => hc pins s1 σ H1 vs us Q I1 r1 q1) he hpl
end
end L2

namespace HT
open PySem PyProof.Rows

def lexLt : List Int → List Int → Bool
  | [], [] => false
  | [], _ :: _ => true
  | _ :: _, [] => false
  | x :: xs, y :: ys => if x = y then lexLt xs ys else decide (x < y)
section
open PySem.SeqAt
open PySem.AutoSeq1 (wpAny_loadPart')
open PySem.MeetsSeq PySem.MeetsSeq2 PySem.MeetsSeq3

end

section
variable {prog : Program} {w : World} {A : Around} {E : Value → Shared → Prop} {s : Shared}

def sIx (n d : Nat) : Option Int → Nat
  | none => d
  | some v => if v < 0 then (v + (n : Int)).toNat else min v.toNat n
end
end HT

namespace L2
open PySem PySem.Spec PyProof.Rows

abbrev TO := St → Hp → (Option Int → Hp → Prop) → Prop
def PO (X : Cx) (e : Option Expr) (t : TO) : Prop :=
  ∀ (pins : List (Addr × Obj)) (s : Shared) (σ : St) (H : Hp) (Q : Option Int → Hp → Prop), Inv X pins σ H s → t σ H Q →
    wpAny (model X.prog X.w) X.A (evalPart e X.env) (fun u s' => ∃ o H', Inv X pins σ H' s' ∧ IsPart u o ∧ Q o H') X.xe s
def tNoPart : TO := fun _ H Q => Q none H
def tPart (t : TE) : TO := fun σ H Q => t σ H fun x H1 => ∃ i, x = .int i ∧ Q (some i) H1

section
variable {X : Cx} {e : Expr} {te : TE} {lo hi : Option Expr} {tl th : TO} {pos p2 : Pos}

def SlR (X : Cx) (r : V → Option Int → Option Int → Hp → VK → Prop) : Prop :=
  ∀ (pins : List (Addr × Obj)) (s : Shared) (σ : St) (H : Hp) (x : V) (v vl vu : Value) (lo hi : Option Int) (sl : Addr) (Q : VK), Inv X pins σ H s → RelV x v → s.heap.IsSliceOf sl vl vu .none → IsPart vl lo → IsPart vu hi → r x lo hi H Q →
    ∃ T id, typeLookup (.type T) "__getitem__" = pure (some (.builtin id)) ∧ s.TypeIs v T ∧ wpAny (model X.prog X.w) X.A (getItem v (.ref sl)) (EP X pins σ Q) X.xe s
def tSl (r : V → Option Int → Option Int → Hp → VK → Prop) (te : TE) (tl th : TO) : TE := fun σ H Q => te σ H fun x H1 => tl σ H1 fun l H2 => th σ H2 fun u H3 => r x l u H3 Q
def cutV (xs : List V) (lo hi : Option Int) : List V := (xs.drop (HT.sIx xs.length 0 lo)).take (HT.sIx xs.length xs.length hi - HT.sIx xs.length 0 lo)
def rSlT (K : PySem.W.Frag) : V → Option Int → Option Int → Hp → VK → Prop := fun x lo hi H Q => ∃ a xs, x = .ref a ∧ SqT K H a xs ∧
  ¬ (HT.sIx xs.length 0 lo = 0 ∧ HT.sIx xs.length xs.length hi = xs.length) ∧ ∀ p, H p = none → Q (.ref p) (upd H p (.tup (cutV xs lo hi)))
def rLtT (K : PySem.W.Frag) : R2 := fun x y H Q => ∃ a b ns ms, x = .ref a ∧ y = .ref b ∧ SqT K H a (ns.map V.int) ∧ SqT K H b (ms.map V.int) ∧ Q (.bl (HT.lexLt ns ms)) H
def rCatT (K : PySem.W.Frag) : R2 := fun x y H Q => ∃ a b xs ys, x = .ref a ∧ y = .ref b ∧ SqT K H a xs ∧ SqT K H b ys ∧ xs ≠ [] ∧ xs.length + ys.length ≤ sizeLine ∧
  (ys = [] → Q (.ref a) H) ∧ (ys ≠ [] → ∀ p, H p = none → Q (.ref p) (upd H p (.tup (xs ++ ys))))
end
end L2

namespace L2
open PySem PySem.Spec PyProof.Rows

def ixN (n : Nat) (i : Int) : Option Nat := if 0 ≤ i then (if i < n then some i.toNat else none) else if -(n : Int) ≤ i then some (i + n).toNat else none
def atI {α : Type} (xs : List α) (i : Int) : Option α := (ixN xs.length i).bind fun j => xs[j]?
theorem ixN_seq {n : Nat} {i : Int} {j : Nat} (h : ixN n i = some j) : seqIndex? i n = some j ∧ j < n ∧ -(n : Int) ≤ i ∧ i < n := by
  unfold ixN at h
  by_cases h0 : 0 ≤ i
  · rw [if_pos h0] at h
    by_cases h1 : i < n
    · rw [if_pos h1] at h
      have e : i.toNat = j := Option.some.inj h
      exact ⟨by rw [seqIndex_of h0 h1, e], by omega, by omega, h1⟩
    · rw [if_neg h1] at h; cases h
  · rw [if_neg h0] at h
    by_cases h1 : -(n : Int) ≤ i
    · rw [if_pos h1] at h
      have e : (i + n).toNat = j := Option.some.inj h
      exact ⟨by rw [seqIndex_neg (by omega) h1, e], by omega, h1, by omega⟩
    · rw [if_neg h1] at h; cases h
theorem atI_get {α : Type} {xs : List α} {i : Int} {v : α} (h : atI xs i = some v) : ∃ j, seqIndex? i xs.length = some j ∧ xs[j]? = some v ∧ j < xs.length ∧ -(xs.length : Int) ≤ i ∧ i < xs.length := by
  unfold atI at h
  cases e : ixN xs.length i with
  | none => rw [e] at h; cases h
  | some j =>
    rw [e] at h
    obtain ⟨h1, h2, h3, h4⟩ := ixN_seq e
    exact ⟨j, h1, h, h2, h3, h4⟩
theorem atI_nat {α : Type} {xs : List α} {j : Nat} {v : α} (h : xs[j]? = some v) : atI xs (j : Int) = some v := by
  have hj : j < xs.length := (List.getElem?_eq_some_iff.mp h).1
  have e : ixN xs.length (j : Int) = some j := by
    unfold ixN
    rw [if_pos (by omega), if_pos (by omega)]; simp
  unfold atI; rw [e]; exact h
def PlainIx (b : Expr) : Prop := ∀ o i, subscripted b false o i = operate [o, i] (getItem o i)
def IxR (X : Cx) (r : R2) : Prop :=
  ∀ (value slice : Expr) (pins : List (Addr × Obj)) (s : Shared) (σ : St) (H : Hp) (x y : V) (v u : Value) (Q : VK), Inv X pins σ H s → RelV x v → RelV y u → r x y H Q →
    subscripted slice false v u = operate [v, u] (getItem v u) → wpAny (model X.prog X.w) X.A (subscriptTail value slice v u) (EP X pins σ Q) X.xe s
def MtR (X : Cx) (id : String) (r : V → List V → Hp → VK → Prop) : Prop :=
  ∀ (pins : List (Addr × Obj)) (s : Shared) (σ : St) (H : Hp) (x : V) (xs : List V) (v : Value) (us : List Value) (Q : VK), Inv X pins σ H s → RelV x v → Vals xs us → r x xs H Q →
    wpAny (model X.prog X.w) X.A (call (.builtin id) (v :: us)) (EP X pins σ Q) X.xe s
section
variable {X : Cx} {a b : Expr} {ta tb : TE} {pos : Pos}
theorem pe_ix {r : R2} (hr : IxR X r) (ha : PE X a ta) (hb : PE X b tb) (hs : PlainIx b) : PE X (.Subscript a b pos) (tOp r ta tb) := by
  intro pins s σ H Q I h
  exact Subscript_ (binT ha hb I h fun v u s2 x y H2 I2 rx ry q => hr a b pins s2 σ H2 x y v u Q I2 rx ry q (hs _ _))

def rIxL (K : PySem.W.Frag) : R2 := fun x y H Q => ∃ p xs i v, x = .ref p ∧ y = .int i ∧ SqL K H p xs ∧ atI xs i = some v ∧ Q v H
def rIxT (K : PySem.W.Frag) : R2 := fun x y H Q => ∃ p xs i v, x = .ref p ∧ y = .int i ∧ SqT K H p xs ∧ atI xs i = some v ∧ Q v H
def rIxS : R2 := fun x y H Q => ∃ z i c, x = .str z ∧ y = .int i ∧ z.length ≤ sizeLine ∧ atI z.cps.toList i = some c ∧ Q (.str ⟨#[c]⟩) H
theorem ix_list : IxR X (rIxL X.K) := by
  intro value slice pins s σ H x y v u Q I rx ry h hs
  obtain ⟨p, xs, i, z, rfl, rfl, hq, he, q⟩ := h
  cases rx
  obtain ⟨t, rfl⟩ := ry
  obtain ⟨its, r, pl, hz⟩ := I.list hq
  obtain ⟨j, h1, h2, h3, h4, h5⟩ := atI_get he
  obtain ⟨w, ew, rw'⟩ := r.get h2
  have hl := r.length
  have hn := line63
  have fin : EP X pins σ Q w s := ⟨z, H, I, rw', q⟩
  by_cases h0 : 0 ≤ i
  · have hj : i.toNat = j := by
      rw [seqIndex_of h0 h5] at h1
      exact Option.some.inj h1
    exact item_listR pl.isList h0 (by omega) (by rw [hj]; simpa using ew) fin hs
  · have hj : (i + (its.toArray.size : Int)).toNat = j := by
      rw [seqIndex_neg (by omega) h4] at h1
      rw [List.size_toArray, ← hl]
      exact Option.some.inj h1
    exact subscriptTail_builtinR (x := w) pl.isList.typeIs slot_list_getitem.lookup
      (wpAny_getItem_list_neg (Q := fun r s' => r = w ∧ EP X pins σ Q r s') pl.isList (by omega) (by rw [List.size_toArray] <;> omega) (by omega) (by rw [hj]; simpa using ew) ⟨rfl, fin⟩) hs
theorem ix_tup : IxR X (rIxT X.K) := by
  intro value slice pins s σ H x y v u Q I rx ry h hs
  obtain ⟨p, xs, i, z, rfl, rfl, hq, he, q⟩ := h
  cases rx
  obtain ⟨t, rfl⟩ := ry
  obtain ⟨its, r, pl, hz⟩ := I.tuple hq
  obtain ⟨j, h1, h2, h3, h4, h5⟩ := atI_get he
  obtain ⟨w, ew, rw'⟩ := r.get h2
  have hl := r.length
  have hn := line63
  have fin : EP X pins σ Q w s := ⟨z, H, I, rw', q⟩
  exact subscriptTail_builtinR (x := w) pl.typeIs slot_tuple_getitem.lookup
    (getItem_tuple (j := j) (Q := fun r s' => r = w ∧ EP X pins σ Q r s') pl (by omega) (by omega) (by rw [List.size_toArray, ← hl]; exact h1) (by simpa using ew) ⟨rfl, fin⟩) hs
def rIx (K : PySem.W.Frag) : R2 := fun x y H Q => rIxL K x y H Q ∨ rIxT K x y H Q ∨ rIxS x y H Q
def rSetL : V → V → V → Hp → (Hp → Prop) → Prop := fun o i v H Q => ∃ p xs k j, o = .ref p ∧ i = .int k ∧ H p = some (.lst xs) ∧ ixN xs.length k = some j ∧ Q (upd H p (.lst (xs.set j v)))
def rSlL (K : PySem.W.Frag) : V → Option Int → Option Int → Hp → VK → Prop := fun x lo hi H Q => ∃ a xs, x = .ref a ∧ SqL K H a xs ∧ ∀ p, H p = none → Q (.ref p) (upd H p (.lst (cutV xs lo hi)))
def flatV : V → Bool
  | .non => true
  | .bl _ => true
  | .int _ => true
  | .str _ => true
  | _ => false
def eqV : V → V → Bool
  | .non, .non => true
  | .bl a, .bl b => a == b
  | .bl a, .int b => (if a then 1 else 0) == b
  | .int a, .bl b => a == (if b then 1 else 0)
  | .int a, .int b => a == b
  | .str a, .str b => a == b
  | _, _ => false
theorem eqAt_V {A : Around} {s : Shared} {y x : V} {u v : Value} (ry : RelV y u) (rx : RelV x v) (fy : flatV y = true) (fx : flatV x = true) : SeqAt.EqAt A s u v (eqV y x) := by
  cases y with
  | non =>
    cases ry
    cases x with
    | non => cases rx; exact SeqAt.EqAt.same _
    | bl b => cases rx; exact SeqAt.EqAt.none_bool b
    | int b => obtain ⟨t, rfl⟩ := rx; exact SeqAt.EqAt.none_int b t
    | str b => obtain ⟨t, rfl⟩ := rx; exact SeqAt.EqAt.none_str b t
    | _ => exact absurd (show false = true from fx) Bool.false_ne_true
  | bl a =>
    cases ry
    cases x with
    | non => cases rx; exact SeqAt.EqAt.bool_none a
    | bl b => cases rx; exact SeqAt.EqAt.bool_bool a b
    | int b => obtain ⟨t, rfl⟩ := rx; exact SeqAt.EqAt.bool_int a b t
    | str b => obtain ⟨t, rfl⟩ := rx; exact SeqAt.EqAt.bool_str a b t
    | _ => exact absurd (show false = true from fx) Bool.false_ne_true
  | int a =>
    obtain ⟨t', rfl⟩ := ry
    cases x with
    | non => cases rx; exact SeqAt.EqAt.int_none a t'
    | bl b => cases rx; exact SeqAt.EqAt.int_bool a t' b
    | int b => obtain ⟨t, rfl⟩ := rx; exact SeqAt.EqAt.int_int a t' b t
    | str b => obtain ⟨t, rfl⟩ := rx; exact SeqAt.EqAt.int_str a t' b t
    | _ => exact absurd (show false = true from fx) Bool.false_ne_true
  | str a =>
    obtain ⟨t', rfl⟩ := ry
    cases x with
    | non => cases rx; exact SeqAt.EqAt.str_none a t'
    | bl b => cases rx; exact SeqAt.EqAt.str_bool a t' b
    | int b => obtain ⟨t, rfl⟩ := rx; exact SeqAt.EqAt.str_int a t' b t
    | str b => obtain ⟨t, rfl⟩ := rx; exact SeqAt.EqAt.str_str a t' b t
    | _ => exact absurd (show false = true from fx) Bool.false_ne_true
  | _ => exact absurd (show false = true from fy) Bool.false_ne_true
def eqU (x : V) (u : Value) : Bool := match u with
  | .none => eqV .non x
  | .bool b => eqV (.bl b) x
  | .int i _ => eqV (.int i) x
  | .str z _ => eqV (.str z) x
  | _ => false
theorem eqU_of {x y : V} {u : Value} (r : RelV y u) (f : flatV y = true) : eqU x u = eqV y x := by
  cases y with
  | non => cases r; rfl
  | bl b => cases r; rfl
  | int i => obtain ⟨t, rfl⟩ := r; rfl
  | str z => obtain ⟨t, rfl⟩ := r; rfl
  | _ => exact absurd (show false = true from f) Bool.false_ne_true
theorem any_eqU {x : V} : ∀ {xs : List V} {us : List Value}, Vals xs us → xs.all flatV = true → us.any (eqU x) = xs.any fun y => eqV y x
  | _, _, .nil, _ => rfl
  | y :: xs, u :: us, .cons r t, f => by
    rw [List.all_cons, Bool.and_eq_true] at f
    rw [List.any_cons, List.any_cons, eqU_of r f.1, any_eqU t f.2]
theorem mem_eqAt {A : Around} {s : Shared} {x : V} {v : Value} (rx : RelV x v) (fx : flatV x = true) : ∀ {xs : List V} {us : List Value}, Vals xs us → xs.all flatV = true → ∀ u ∈ us, SeqAt.EqAt A s u v (eqU x u)
  | _, _, .nil, _ => fun u hu => by cases hu
  | y :: xs, u :: us, .cons r t, f => fun u' hu => by
    rw [List.all_cons, Bool.and_eq_true] at f
    rcases List.mem_cons.mp hu with rfl | hu
    · rw [eqU_of r f.1]; exact eqAt_V r rx f.1 fx
    · exact mem_eqAt rx fx t f.2 u' hu
def inV (x : V) (xs : List V) : Bool := xs.any fun y => eqV y x
def rIn (K : PySem.W.Frag) (neg : Bool) : R2 := fun x y H Q => ∃ p xs, y = .ref p ∧ (SqL K H p xs ∨ SqT K H p xs) ∧ flatV x = true ∧ xs.all flatV = true ∧ Q (.bl (if neg then !inV x xs else inV x xs)) H
theorem op_in_seq : OpR X (compareOp .In) (rIn X.K false) := by
  intro pins s σ H x y v u Q I rx ry h
  obtain ⟨p, xs, rfl, hq, fx, fs, q⟩ := h
  cases ry
  rcases hq with hq | hq
  · obtain ⟨its, r, pl, hz⟩ := I.list hq
    refine SeqAt.in_listAt (eqU x) pl.isList (fun w hw => mem_eqAt rx fx r fs w (by simpa using hw)) ⟨.bl _, H, I, rfl, ?_⟩
    rw [show its.toArray.any (eqU x) = its.any (eqU x) by simp, any_eqU r fs]
    exact q
  · obtain ⟨its, r, pl, hz⟩ := I.tuple hq
    refine SeqAt.in_tupleAt (eqU x) pl (fun w hw => mem_eqAt rx fx r fs w (by simpa using hw)) ⟨.bl _, H, I, rfl, ?_⟩
    rw [show its.toArray.any (eqU x) = its.any (eqU x) by simp, any_eqU r fs]
    exact q
theorem op_notIn_seq : OpR X (compareOp .NotIn) (rIn X.K true) := by
  intro pins s σ H x y v u Q I rx ry h
  obtain ⟨p, xs, rfl, hq, fx, fs, q⟩ := h
  cases ry
  rcases hq with hq | hq
  · obtain ⟨its, r, pl, hz⟩ := I.list hq
    refine SeqAt.notIn_listAt (eqU x) pl.isList (fun w hw => mem_eqAt rx fx r fs w (by simpa using hw)) ⟨.bl _, H, I, rfl, ?_⟩
    rw [show its.toArray.any (eqU x) = its.any (eqU x) by simp, any_eqU r fs]
    exact q
  · obtain ⟨its, r, pl, hz⟩ := I.tuple hq
    refine SeqAt.notIn_tupleAt (eqU x) pl (fun w hw => mem_eqAt rx fx r fs w (by simpa using hw)) ⟨.bl _, H, I, rfl, ?_⟩
    rw [show its.toArray.any (eqU x) = its.any (eqU x) by simp, any_eqU r fs]
    exact q
theorem call_len_seq : CallR X (.builtin "len") (fun xs H Q => ∃ p ys, xs = [.ref p] ∧ (SqL X.K H p ys ∨ SqT X.K H p ys) ∧ Q (.int ys.length) H) := by
  intro pins s σ H xs us Q I r h
  obtain ⟨p, ys, rfl, hq, q⟩ := h
  obtain ⟨u, rfl, rx⟩ := vals1 r
  cases rx
  have hn := line63
  rcases hq with hq | hq
  · obtain ⟨its, r', pl, hz⟩ := I.list hq
    have hlen := r'.length
    exact Calls.call_len_list pl.isList (by simp only [List.size_toArray] <;> omega) ⟨.int ys.length, H, I.tok _, ⟨s.toks + 1, by rw [List.size_toArray, hlen]⟩, q⟩
  · obtain ⟨its, r', pl, hz⟩ := I.tuple hq
    have hlen := r'.length
    exact len_tuple pl (by simp only [List.size_toArray] <;> omega) ⟨.int ys.length, H, I.tok _, ⟨s.toks + 1, by rw [List.size_toArray, hlen]⟩, q⟩
theorem call_tuple_of : CallR X (.type "tuple") (fun xs H Q => ∃ p ys, xs = [.ref p] ∧ ((SqL X.K H p ys ∧ ∀ l, H l = none → Q (.ref l) (upd H l (.tup ys))) ∨ (SqT X.K H p ys ∧ Q (.ref p) H))) := by
  intro pins s σ H xs us Q I r h
  obtain ⟨p, ys, rfl, h⟩ := h
  obtain ⟨u, rfl, rx⟩ := vals1 r
  cases rx
  rcases h with ⟨hq, q⟩ | ⟨hq, q⟩
  · obtain ⟨its, r', pl, hz⟩ := I.list hq
    have hlen := r'.length
    refine call_tuple_list pl.isList (fun h' kp => ?_) (by simp only [List.size_toArray] <;> omega)
    have I1 : Inv X pins σ H { s with heap := h' } := I.kept (t' := s.toks) kp
    have I2 : Inv X pins σ (upd H h'.objs.size (.tup ys)) { s with heap := h'.push { cls := .type "tuple", data := .seq its.toArray } } :=
      I1.laid (t' := s.toks) (fun b o e => Heap.get?_push_of_some _ e) (Nat.le_refl _) (show ObjOk X.prog X.w _ _ _ (.tup ys) from ⟨hz, its, r', IsTup.new _ _⟩)
    exact ⟨.ref h'.objs.size, _, I2, rfl, q _ (I1.hok.fresh (Nat.le_refl _))⟩
  · obtain ⟨its, r', pl, hz⟩ := I.tuple hq
    exact call_tuple_same pl ⟨.ref p, H, I, rfl, q⟩

def tyV (K : PySem.W.Frag) (T : String) (x : V) (H : Hp) : Prop := match x with
  | .str _ => T = "str"
  | .int _ => T = "int"
  | .ref p => (T = "list" ∧ ∃ xs, SqL K H p xs) ∨ (T = "tuple" ∧ ∃ o, K.lookup p = some o ∧ o.cls = .type "tuple" ∧ o.dict = none) ∨
      (T = "dict" ∧ ((∃ kvs, H p = some (.dK kvs)) ∨ ∃ kvs, H p = some (.dT kvs))) ∨ (T = "set" ∧ ∃ S n, H p = some (.set S n))
  | _ => False
theorem tyV_is {pins : List (Addr × Obj)} {σ : St} {H : Hp} {s : Shared} {T : String} {x : V} {v : Value} (I : Inv X pins σ H s) (r : RelV x v) (ty : tyV X.K T x H) :
    s.TypeIs v T ∧ ∀ a, v = .ref a → ∃ ob, s.heap.get? a = some ob ∧ ob.dict = none := by
  cases x with
  | str z =>
    obtain ⟨t, rfl⟩ := r
    cases (show T = "str" from ty)
    exact ⟨typeIs_str s z t, fun _ e => nomatch e⟩
  | int i =>
    obtain ⟨t, rfl⟩ := r
    cases (show T = "int" from ty)
    exact ⟨typeIs_int s i t, fun _ e => nomatch e⟩
  | ref p =>
    cases r
    rcases ty with ⟨rfl, xs, hq⟩ | ⟨rfl, o, hk, hc, hd⟩ | ⟨rfl, hk⟩ | ⟨rfl, S, n, hk⟩
    · obtain ⟨its, _, pl, _⟩ := I.list hq
      refine ⟨pl.isList.typeIs, fun a e => ?_⟩
      cases e
      obtain ⟨o, n, e, c, hd, _⟩ := pl
      exact ⟨o, e, hd⟩
    · refine ⟨⟨o, I.kIn p o hk, hc⟩, fun a e => ?_⟩
      cases e
      exact ⟨o, I.kIn _ o hk, hd⟩
    · have z : ∃ o, s.heap.get? p = some o ∧ o.ExactDict := by
        rcases hk with ⟨kvs, hk⟩ | ⟨kvs, hk⟩
        · obtain ⟨_, _, _, _, o, _, _, e, ex, _⟩ := I.hok p _ hk
          exact ⟨o, e, ex⟩
        · obtain ⟨_, _, _, _, o, _, _, e, ex, _⟩ := I.hok p _ hk
          exact ⟨o, e, ex⟩
      obtain ⟨o, e, ex⟩ := z
      refine ⟨⟨o, e, ex.1⟩, fun a e2 => ?_⟩
      cases e2
      exact ⟨o, e, ex.2.1⟩
    · obtain ⟨o, _, _, _, e, ex, _⟩ := I.hok p _ hk
      refine ⟨⟨o, e, ex.1⟩, fun a e2 => ?_⟩
      cases e2
      exact ⟨o, e, ex.2.1⟩
  | _ => exact False.elim ty
def tBM0 (K : PySem.W.Frag) (T : String) (r : V → List V → Hp → VK → Prop) (to : TE) : TE := fun σ H Q => to σ H fun x H1 => tyV K T x H1 ∧ r x [] H1 Q
def tBM (K : PySem.W.Frag) (T : String) (r : V → List V → Hp → VK → Prop) (to : TE) (t : TA) : TE := fun σ H Q => to σ H fun x H1 => tyV K T x H1 ∧ t σ H1 fun xs H2 => r x xs H2 Q
variable {o e : Expr} {es : List Expr} {to : TE} {t : TA} {name : Str} {apos cpos : Pos} {T id : String} {r : V → List V → Hp → VK → Prop}
theorem pe_bm (pa : PlainAttrs T) (slot : Slot T name id) (hty : typeOf (.builtin id) = pure (.type "method_descriptor")) (hm : MtR X id r) (ho : PE X o to) (ha : PA X (e :: es) t)
    (hbase : attributeBase o name X.env (eval o X.env) = eval o X.env := by rfl)
    (hfew : ((backTo cpos (starEach (e :: es) X.env)).all (fun x => !x.1) && (backToKw cpos (keywordEach [] X.env)).all (fun x => x.1.isSome)
      && decide ((e :: es).length + ([] : List Keyword).length + (if ([] : List Keyword).isEmpty then 0 else 1) < 30)) = true := by rfl)
    (hline : (apos.endLine == cpos.line) = true := by rfl) (hs : starEach (e :: es) X.env = (false, eval e X.env) :: starEach es X.env := by rfl) (hplain : (backTo cpos (starEach es X.env)).any (·.1) = false := by rfl) :
    PE X (.Call (.Attribute o name apos) (e :: es) [] cpos) (tBM X.K T r to t) := by
  intro pins s σ H Q I h
  refine wpAny_Call_method_late hbase hfew hline rfl (thn (ho pins s σ H _ I h) fun v s1 ⟨x, H1, I1, r1, ty, q1⟩ => ?_)
  obtain ⟨h1, h2⟩ := tyV_is I1 r1 ty
  refine ⟨T, id, pa, slot, hty, h1, h2, ?_⟩
  have hA := ha cpos pins s1 σ H1 _ I1 q1
  rw [hs] at hA ⊢
  refine Calls.callWith_builtin (by show (false || (backTo cpos (starEach es X.env)).any (·.1)) = false; rw [hplain] <;> rfl) (Calls.evalArgs_plain ?_)
  exact thn hA fun us s2 ⟨vs, H2, I2, r2, q2⟩ => hm pins s2 σ H2 x vs v us Q I2 r1 r2 q2
/- xs.append(e), list.index on a module's tuple .. are MtR facts of 06m -/
end
end L2

namespace L2
open PySem PySem.Spec PyProof.Rows

def MtM (X : Cx) (id : String) (r : V → List V → Hp → VK → Prop) : Prop :=
  ∀ (pins : List (Addr × Obj)) (s : Shared) (σ : St) (H : Hp) (x : V) (xs : List V) (v : Value) (us : List Value) (Q : VK), Inv X pins σ H s → RelV x v → Vals xs us → r x xs H Q →
    wpAny (model X.prog X.w) X.A (call (.builtin id) (v :: us)) (EP X pins σ Q) X.xe s

theorem Vals.one : ∀ {x : V} {us : List Value}, Vals [x] us → ∃ u, us = [u] ∧ RelV x u
  | _, _, .cons r .nil => ⟨_, rfl, r⟩
theorem Vals.two : ∀ {x y : V} {us : List Value}, Vals [x, y] us → ∃ u v, us = [u, v] ∧ RelV x u ∧ RelV y v
  | _, _, _, .cons r (.cons q .nil) => ⟨_, _, rfl, r, q⟩
section
variable {X : Cx} {pins : List (Addr × Obj)} {σ : St} {H : Hp} {s : Shared} {l b : Addr} {xs ys zs : List V}

theorem Inv.lset {its its' : List Value} {n : Nat} {f : Array Value → Array Value} {t' : Nat} (I : Inv X pins σ H s) (hH : H l = some (.lst xs))
    (e : s.heap.get? l = some { cls := .type "list", data := .seq its.toArray n }) (hf : f its.toArray = its'.toArray) (hv : Vals ys its') (hz : ys.length ≤ sizeLine) :
    Inv X pins σ (upd H l (.lst ys)) { s with heap := s.heap.update l (Obj.mapSeq f), toks := t' } := by
  have q := PySem.IsL.update e f
  rw [hf] at q
  refine I.write (x := l) (e := l) (by rw [hH]; exact trivial) (.inl rfl) (fun b' u hb hu => (Heap.get?_update_other s.heap (Obj.mapSeq f) (Ne.symm hb)).trans hu) ⟨_, q⟩ ?_
  exact ⟨hz, its', _, hv, q⟩
theorem Inv.lnew {its : List Value} {t' : Nat} (I : Inv X pins σ H s) (hv : Vals ys its) (hz : ys.length ≤ sizeLine) :
    Inv X pins σ (upd H s.heap.objs.size (.lst ys)) { s with heap := s.heap.push { cls := .type "list", data := .seq its.toArray }, toks := t' } :=
  I.laid (fun _ _ q => Heap.get?_push_of_some _ q) (Nat.le_refl _) ⟨hz, its, 0, hv, Heap.get?_push_size _ rfl⟩
theorem Inv.fresh (I : Inv X pins σ H s) : H s.heap.objs.size = none := I.hok.fresh (Nat.le_refl _)
theorem Inv.lstM (I : Inv X pins σ H s) (hH : H l = some (.lst xs)) : xs.length ≤ sizeLine ∧ ∃ (its : List Value) (n : Nat), Vals xs its ∧ xs.length = its.length ∧ s.heap.get? l = some { cls := .type "list", data := .seq its.toArray n } := by
  obtain ⟨z, its, n, r, e⟩ := I.hok l _ hH
  exact ⟨z, its, n, r, r.length, e⟩

theorem notLongL {n : Nat} (h : n ≤ sizeLine) : Builtin.List.listTooLong n = false := by
  unfold Builtin.List.listTooLong
  exact decide_eq_false (by omega)
end

section
variable {X : Cx}

def rAppend : V → List V → Hp → VK → Prop := fun x vs H Q => ∃ l xs y, x = .ref l ∧ vs = [y] ∧ H l = some (.lst xs) ∧ xs.length < sizeLine ∧ Q .non (upd H l (.lst (xs ++ [y])))
theorem mt_append : MtM X "list.append" rAppend := by
  intro pins s σ H x vs v us Q I rx rv h
  obtain ⟨l, xs, y, rfl, rfl, hH, hz, q⟩ := h
  cases rx
  obtain ⟨u, rfl, ru⟩ := rv.one
  obtain ⟨z, its, n, r, hl, e⟩ := I.lstM hH
  refine call_meets F.slot_list_append ⟨_, e, rfl⟩ F.entry_list_append (F.args_list_append_2 _ _) (PySem.list_append l its.toArray n u (by rw [List.size_toArray]; omega)) ⟨e, ?_⟩
  refine ⟨.non, _, I.lset (its' := its ++ [u]) hH e (by simp) (r.append (.cons ru .nil)) ?_, rfl, q⟩
  rw [List.length_append, List.length_singleton]
  omega

def rExtend : V → List V → Hp → VK → Prop := fun x vs H Q => ∃ l b xs zs, x = .ref l ∧ vs = [.ref b] ∧ H l = some (.lst xs) ∧ H b = some (.lst zs) ∧ xs.length + zs.length ≤ sizeLine ∧ Q .non (upd H l (.lst (xs ++ zs)))
theorem mt_extend : MtM X "list.extend" rExtend := by
  intro pins s σ H x vs v us Q I rx rv h
  obtain ⟨l, b, xs, zs, rfl, rfl, hH, hB, hz, q⟩ := h
  cases rx
  obtain ⟨u, rfl, ru⟩ := rv.one
  cases ru
  obtain ⟨z, its, n, r, hl, e⟩ := I.lstM hH
  obtain ⟨z2, its2, n2, r2, hl2, e2⟩ := I.lstM hB
  have hsz : its.toArray.size + its2.toArray.size ≤ sizeLine := by rw [List.size_toArray, List.size_toArray]; omega
  have hlong : ¬ (!its.toArray.isEmpty && Builtin.List.listTooLong (its.toArray.size + its2.toArray.size)) = true := by
    rw [notLongL hsz, Bool.and_false]
    exact Bool.false_ne_true
  refine call_meets F.slot_list_extend ⟨_, e, rfl⟩ F.entry_list_extend (F.args_list_extend_2 _ _)
    (AutoSeq1.list_extend_list_list_0 l its.toArray n b its2.toArray n2 hlong (by rw [List.size_toArray]; omega) (by omega)) ⟨e, e2, ?_⟩
  refine ⟨.non, _, I.lset (its' := its ++ its2) hH e (by simp) (r.append r2) ?_, rfl, q⟩
  rw [List.length_append]
  omega

def rPop : V → List V → Hp → VK → Prop := fun x vs H Q => ∃ l xs y, x = .ref l ∧ vs = [] ∧ H l = some (.lst xs) ∧ xs[xs.length - 1]? = some y ∧ Q y (upd H l (.lst xs.dropLast))
def rPopAt : V → List V → Hp → VK → Prop := fun x vs H Q => ∃ l xs i k y, x = .ref l ∧ vs = [.int i] ∧ H l = some (.lst xs) ∧ -(2 ^ 63) ≤ i ∧ i < 2 ^ 63 ∧ seqIndex? i xs.length = some k ∧ xs[k]? = some y ∧ Q y (upd H l (.lst (xs.eraseIdx k)))
def rReverse : V → List V → Hp → VK → Prop := fun x vs H Q => ∃ l xs, x = .ref l ∧ vs = [] ∧ H l = some (.lst xs) ∧ Q .non (upd H l (.lst xs.reverse))
def rClear : V → List V → Hp → VK → Prop := fun x vs H Q => ∃ l xs, x = .ref l ∧ vs = [] ∧ H l = some (.lst xs) ∧ Q .non (upd H l (.lst []))
def rCat : R2 := fun x y H Q => ∃ l b xs zs, x = .ref l ∧ y = .ref b ∧ H l = some (.lst xs) ∧ H b = some (.lst zs) ∧ xs.length + zs.length ≤ sizeLine ∧ ∀ p, H p = none → Q (.ref p) (upd H p (.lst (xs ++ zs)))
theorem op_cat : OpR X (binaryOp .Add) rCat := by
  intro pins s σ H x y v u Q I rx ry h
  obtain ⟨l, b, xs, zs, rfl, rfl, hH, hB, hz, q⟩ := h
  cases rx
  cases ry
  obtain ⟨z, its, n, r, hl, e⟩ := I.lstM hH
  obtain ⟨z2, its2, n2, r2, hl2, e2⟩ := I.lstM hB
  refine PySem.P.add_list e e2 ?_ (by rw [List.size_toArray, List.size_toArray]; omega)
  have ea : its.toArray ++ its2.toArray = (its ++ its2).toArray := by simp
  rw [ea]
  exact ⟨.ref _, _, I.lnew (t' := s.toks) (r.append r2) (by rw [List.length_append]; omega), rfl, q _ I.fresh⟩
def rRep : R2 := fun x y H Q => ∃ l k xs, x = .ref l ∧ y = .int k ∧ H l = some (.lst xs) ∧ -(2 ^ 63) ≤ k ∧ k < 2 ^ 63 ∧ xs.length * k.toNat ≤ sizeLine ∧
  ∀ p, H p = none → Q (.ref p) (upd H p (.lst (List.replicate k.toNat xs).flatten))
end

section
variable {prog : Program} {w : World} {A : Around} {E : Value → Shared → Prop} {s : Shared}
end

section
variable {X : Cx}
end
end L2

namespace Att
open PySem PySem.W PySem.Calls PyProof.Rows

theorem ints_of_wellAll {P : Params} {h : Heap} : ∀ (ns : List Int) (vs : List Value), WellAll P h vs (ns.map WData.int) → IntsAre vs ns := by
  intro ns
  induction ns with
  | nil =>
    intro vs w
    rw [List.map_nil] at w
    cases w
    exact .nil
  | cons n ns ih =>
    intro vs w
    rw [List.map_cons] at w
    cases w with
    | cons a b =>
      cases a
      exact .cons _ _ (ih _ b)

theorem script_of {l : OpenLaw} {n : Nat} (hn : l.most = some n) {P : Params} {h : Heap} {args : List WData} {vals : List Value}
    (hpre : l.row.toRowW.claim.pre args = true) (hwl : WellAll P h vals args) :
    ∃ a vs ns, vals = [Value.ref a] ∧ args = [WData.list (ns.map WData.int)] ∧ h.get? a = some { cls := .type "list", data := .seq vs.toArray } ∧ IntsAre vs ns ∧ ns.length ≤ n := by
  have hsh : WShape.hasAll [] args [.list .int] = true := (pre_splitW hpre).1
  have hc : l.pre.holds [] { args := args } = true := (pre_splitW hpre).2
  obtain ⟨d, r, rfl, h1, h2⟩ := hasAllW_cons hsh
  obtain rfl := hasAllW_nil h2
  obtain ⟨xs, rfl, h3⟩ := hasW_list h1
  obtain ⟨ns, rfl⟩ := items_int h3
  have hlen : ns.length ≤ n := by
    unfold OpenLaw.pre at hc
    have h4 : (WTm.not (.lt (.lit (.int (n : Int))) (.len (.arg 0)))).holds [] { args := [.list (ns.map .int)] } = true := by
      have h4 := (holds_andW hc).1
      rw [hn] at h4
      exact h4
    have h5 := condW_of h4 (w_not (w_lt w_lit (w_len_list (w_arg rfl))))
    rw [List.length_map] at h5
    refine Nat.le_of_not_lt fun q => ?_
    have q' : (n : Int) < ((ns.length : Nat) : Int) := by omega
    first
      | (rw [decide_eq_true q'] at h5; exact absurd h5 (by decide))
      | (simp at h5; omega)
  cases hwl with
  | cons w1 w2 =>
    cases w2
    cases w1 with
    | list ho hall => exact ⟨_, _, ns, rfl, rfl, ho, ints_of_wellAll ns _ hall, hlen⟩

theorem post_true (l : OpenLaw) (args : List WData) : l.row.toRowW.claim.post args (.bool true) args = true :=
  postW_of (r := l.row.toRowW) (X := (true == true))
    (show WShape.has [] (.bool true) .bool = true by first | rfl | decide | simp [WShape.has, WShape.arms, WShape.armsAll])
    (show (WTm.eq .res (.lit (.bool true))).value [] { args := args, res := some (.bool true), after := args } = some (.bool (true == true)) from w_eq_bool (w_res rfl) w_lit) rfl

section
variable {prog : Program} {w : World} {A : Around} {E : Value → Shared → Prop} {s : Shared} {K : Frag}

def noObjs (h : Heap) : Heap := { h with objs := #[] }
def ledger (h : Heap) (L d : Addr) : List (Addr × Obj) := (List.range h.objs.size).filterMap fun a => if a = L ∨ a = d then none else (h.get? a).map fun o => (a, o)
end
end Att

namespace L2
open PySem PySem.Spec PyProof.Rows

theorem vals_ints : ∀ {vs : List Value} {ns : List Int}, IntsAre vs ns → Vals (ns.map V.int) vs
  | _, _, .nil => .nil
  | _, _, .cons n t h => .cons ⟨t, rfl⟩ (vals_ints h)

def Only (H : Hp) : Prop := ∀ b, H b = none ∨ ∃ o xs, H b = some (.frz o (.lst xs))

theorem law_call {P : Program} {w : World} {K : PySem.W.Frag} {mg mb : Str → Option Value} {CX : CXT} {k : Nat} {fa a : Addr} {fd : FuncData} {x : Str} {sp : Sp} {s₁ : Shared} {vs : List Value} {ns : List Int}
    (KX : K.In s₁.heap) (hns : s₁.heap.Ns mainGlobals mg) (hb : s₁.heap.Ns builtinsNs mb) (hbb : ∀ x : Str, x ≠ "__name__" → mb x = bootBuiltins x) (hlim : s₁.heap.NoLimit) (hg : s₁.gens = #[])
    (ha : s₁.heap.get? a = some { cls := .type "list", data := .seq vs.toArray }) (hi : IntsAre vs ns) (hl : ns.length ≤ sizeLine) (hr : Room k callerA)
    (F : ∀ base : Heap, K.In base → base.Ns mainGlobals mg → FnOk P w K mg base CX k fa fd [x] sp) (hbind : ∀ (s : Shared) (u : Value), BindsTo s fd ⟨[u], []⟩ [(x, u)])
    (hsp : ∀ H : Hp, Only H → SqL K H a (ns.map V.int) → sp [.ref a] H (fun v _ => v = .bl true) fun _ _ _ => False)
    (hCX : ∀ H e s', CX [] H s₁ (fun _ _ _ => False) e s' → False) :
    codeAny (model P w) callerA (.call (.ref fa) ⟨[.ref a], []⟩) (fun r s' => r = .ok (.ret (.bool true)) ∧ OldK s₁.heap s'.heap ∧ s'.os = s₁.os ∧ AllBare s'.gens) s₁ := by
  have rv := vals_ints hi
  have lenV := hi.length
  -- from an abstract heap in which nothing but the script may be tracked
  have core : ∀ H : Hp, Only H → SqL K H a (ns.map V.int) → HOk P w H s₁.heap → (∀ b, H b ≠ none → b = a) → (H a ≠ none → K.lookup a = none) →
      codeAny (model P w) callerA (.call (.ref fa) ⟨[.ref a], []⟩) (fun r s' => r = .ok (.ret (.bool true)) ∧ OldK s₁.heap s'.heap ∧ s'.os = s₁.os ∧ AllBare s'.gens) s₁ := by
    intro H hO hS hok hA hK
    have base_of : ∀ {b : Addr} {o : Obj}, s₁.heap.get? b = some o → H b = none → (hidT s₁.heap H).get? b = some o := fun e n => hidT_get e n
    have noA : ∀ {b : Addr} {o : Obj} {es : Array DictEntry} {ep : Nat}, s₁.heap.get? b = some o → o.data = .dict es ep → H b = none := fun {b o es ep} e d => by
      cases q : H b with
      | none => rfl
      | some u =>
        have e' : b = a := hA b (by rw [q]; simp)
        subst e'
        rw [ha] at e; cases e
        have d' : Data.seq vs.toArray _ = Data.dict es ep := d
        cases d'
    have nsK : ∀ {b : Addr} {m : Str → Option Value}, s₁.heap.Ns b m → (hidT s₁.heap H).Ns b m := fun {b m} ⟨o, es, ep, e, d, r⟩ => ⟨o, es, ep, base_of e (noA e d), d, r⟩
    have hKb : K.In (hidT s₁.heap H) := fun b o e => base_of (KX b o e) (by
      cases q : H b with
      | none => rfl
      | some u =>
        have e' : b = a := hA b (by rw [q]; simp)
        subst e'
        rw [hK (by rw [q]; simp)] at e; cases e)
    have hM : Mod K mg (hidT s₁.heap H) := ⟨hKb, nsK hns, ⟨mb, nsK hb, hbb⟩, let ⟨mc, h1, h2⟩ := hlim; ⟨mc, nsK h1, h2⟩⟩
    have e0 : Env0 P w K mg (hidT s₁.heap H) callerA [] s₁ H := ⟨rfl, hM, fun b o e => of_hidT e, Nat.le_of_eq (hidT_size _ _), trivial, fun b hb => absurd (show b ∈ ([] : List Addr) from hb) (by simp), hok, .of_eq hg⟩
    refine codeAny_mono ((F _ hKb (nsK hns)).run callerA [] s₁ H ⟨[.ref a], []⟩ [.ref a] [.ref a] _ _ hr e0 (hbind s₁ (.ref a)) (.cons rfl .nil) (hsp H hO hS)) fun r s' h => ?_
    cases r with
    | error e => exact (hCX H e s' h).elim
    | ok fl =>
      cases fl with
      | next => exact False.elim h
      | brk => exact False.elim h
      | cont => exact False.elim h
      | ret u =>
        obtain ⟨v, H', os, bare, un, hok', r', q⟩ := h
        have q' : v = .bl true := q
        subst q'
        obtain rfl : u = Value.bool true := r'
        refine ⟨rfl, OldK.of_keep fun b o e => ?_, os, bare⟩
        cases q : H b with
        | none => exact un.keep b o e q (by intro z; exact absurd (show b ∈ ([] : List Addr) from z) (by simp)) (by simp)
        | some u =>
          rcases hO b with z | ⟨ob, xs, z⟩
          · rw [q] at z; cases z
          · have z2 := un.frzs b ob _ z
            obtain ⟨e1, _⟩ := hok b _ z
            obtain ⟨e2, _⟩ := hok' b _ z2
            rw [e] at e1; cases e1
            exact e2
  cases hk : K.lookup a with
  | some o =>
    -- the script is one of the module's own objects
    have e := KX a o hk
    rw [ha] at e
    cases e
    refine core (fun _ => none) (fun _ => .inl rfl) (.inr ⟨_, vs.toArray, _, hk, rfl, rfl, rfl, by rw [List.size_toArray, lenV]; exact hl, by simpa using rv⟩) (fun b u z => by have z' : (none : Option HO) = some u := z; cases z') (fun b z => absurd rfl z) fun z => absurd rfl z
  | none =>
    refine core (fun b => if b = a then some (.frz { cls := .type "list", data := .seq vs.toArray } (.lst (ns.map V.int))) else none) (fun b => ?_) (.inl (.inr ⟨{ cls := .type "list", data := .seq vs.toArray }, if_pos rfl⟩)) (fun b u z => ?_) (fun b z => ?_) fun _ => hk
    · by_cases hb : b = a
      · exact .inr ⟨_, _, if_pos hb⟩
      · exact .inl (if_neg hb)
    · by_cases hb : b = a
      · have z' := (if_pos hb).symm.trans z
        cases z'
        subst hb
        exact ⟨ha, by rw [List.length_map]; exact hl, vs, _, rv, ha⟩
      · have z' := (if_neg hb).symm.trans z
        cases z'
    · by_cases hb : b = a
      · exact hb
      · exact absurd (if_neg hb) z
end L2

namespace L2
open PySem PySem.Spec PyProof.Rows

abbrev KOf {K : PySem.W.Frag} {h : Heap} (_ : K.In h) : PySem.W.Frag := K

end L2

namespace L2
open PySem PySem.Spec PyProof.Rows

def inClass (s : Stmt) (j : Nat) : Stmt := match s with
  | .ClassDef _ _ _ body _ _ _ _ _ _ _ => body.getD j (.Pass ⟨0, 0, 0, 0⟩)
  | _ => .Pass ⟨0, 0, 0, 0⟩
def defArgs (s : Stmt) : Arguments := match s with
  | .FunctionDef _ a _ _ _ _ _ _ _ _ => a
  | _ => { posonlyargs := [], args := [], vararg := none, kwonlyargs := [], kw_defaults := [], kwarg := none, defaults := [] }
def defBody (s : Stmt) : List Stmt := match s with
  | .FunctionDef _ _ b _ _ _ _ _ _ _ => b
  | _ => []
def defScope (s : Stmt) : Scope := match s with
  | .FunctionDef _ _ _ _ _ _ sc _ _ _ => sc
  | _ => { kind := .function, names := [], isGenerator := false, isCoroutine := false }

abbrev CX0 : CXT := fun _ _ _ _ _ _ => False
abbrev E0 : XK := fun _ _ _ => False
theorem pass0 {X : Cx} : Passes CX0 X E0 := fun _ _ _ _ _ _ _ h => h.elim

structure Fun (K : PySem.W.Frag) (x qual : Str) (st : Stmt) (f : Addr) (fd : FuncData) : Prop where
  ex : ∃ (oc : Value) (od : Option Addr) (kV doc pm : Value) (an : Option Addr) (cdv ct : Value) (osl : Array (Option Value)),
    fd = PySem.W.fnOf x qual (defArgs st) (defBody st) (defScope st) .none kV doc pm an cdv ct ∧ K.lookup f = some ⟨oc, od, .func fd, osl⟩ ∧ PySem.W.codeIn K cdv qual = true
  kp : PySem.W.keepIn K (.ref f) = true
section
variable {P : Program} {w : World} {K : PySem.W.Frag} {mg : Str → Option Value} {base : Heap}
theorem Fun.ok {x qual : Str} {st : Stmt} {f : Addr} {fd : FuncData} {N ps : List Str} {k : Nat} {sp : Sp} (F : Fun K x qual st f fd) (S : FnScope N ps (defScope st)) (len : ∀ vs H Q E, sp vs H Q E → vs.length = ps.length)
    (hbody : ∀ (cdv : Value) (A : Around) (outer : List Env) (s : Shared) (H : Hp) (vs : List V) (Q : VK) (E : XK), Room k (A.deeper (envOfC qual (defScope st) s.heap.objs.size f cdv)) → sp vs H Q E →
      ∃ t, PSs (cxOf CX0 P w K mg base N qual (defScope st) f cdv A outer s H E).nox (defBody st) t ∧ t { nx := fun _ H' => Q .non H', rt := Q } (start N vs) H) : FnOk P w K mg base CX0 (k + 1) f fd ps sp := by
  obtain ⟨oc, od, kV, doc, pm, an, cdv, ct, osl, rfl, lk, hcd⟩ := F.ex
  refine fn_of lk hcd S len fun A outer s H vs Q E hr hsp => ?_
  obtain ⟨t, h, q⟩ := hbody cdv A outer s H vs Q E hr hsp
  exact ⟨t, h.nox, q⟩
theorem Fun.binds {x qual : Str} {st : Stmt} {f : Addr} {fd : FuncData} {ps : List Str} (F : Fun K x qual st f fd)
    (h : ∀ (kV doc pm : Value) (an : Option Addr) (cdv ct : Value) (us : List Value), us.length = ps.length → bindArgs (PySem.W.fnOf x qual (defArgs st) (defBody st) (defScope st) .none kV doc pm an cdv ct) ⟨us, []⟩ = pure (ps.zip us)) : Binds K fd ps [] := by
  obtain ⟨oc, od, kV, doc, pm, an, cdv, ct, osl, rfl, lk, hcd⟩ := F.ex
  exact .all (h kV doc pm an cdv ct)
theorem fun_mk {x qual : Str} {st : Stmt} {f : Addr} {oc : Value} {od an : Option Addr} {osl : Array (Option Value)} {kV doc pm cdv ct : Value} (l : K.lookup f = some ⟨oc, od, .func (PySem.W.fnOf x qual (defArgs st) (defBody st) (defScope st) .none kV doc pm an cdv ct), osl⟩)
    (c : PySem.W.codeIn K cdv qual = true) (k : PySem.W.keepIn K (.ref f) = true) : Fun K x qual st f (PySem.W.fnOf x qual (defArgs st) (defBody st) (defScope st) .none kV doc pm an cdv ct) := ⟨⟨oc, od, kV, doc, pm, an, cdv, ct, osl, rfl, l, c⟩, k⟩
end
section
variable {X : Cx}
theorem pv (i : Nat) {x : Str} {pos : Pos} (hN : X.N[i]? = some x := by rfl) (hv : Vis X.env.scope x := by first | exact Or.inl rfl | exact Or.inr (Or.inl rfl) | exact Or.inr (Or.inr rfl)) (hd : (x == ("__debug__" : Str)) = false := by decide)
    (hcd : (x == ("__classdict__" : Str)) = false := by decide) : PE X (.Name x pos) (tVar i) := pe_var hN hv hd hcd
end

theorem iteF {A B : Prop} (h : B) : if false = true then A else B := by
  rw [if_neg Bool.false_ne_true]
  exact h
theorem iteT {A B : Prop} (h : A) : if true = true then A else B := by
  rw [if_pos rfl]
  exact h
theorem ite2 {c A B : Prop} [Decidable c] (h1 : c → A) (h2 : ¬ c → B) : if c then A else B := by
  by_cases h : c
  · rw [if_pos h]
    exact h1 h
  · rw [if_neg h]
    exact h2 h
theorem iteNS {c A B : Prop} [Decidable c] (hc : c) (h : B) : if (!decide c) = true then A else B := by
  rw [decide_eq_true hc]
  exact iteF h

def Same (H H' : Hp) : Prop := ∀ b o, H b = some o → H' b = some o
theorem Same.refl (H : Hp) : Same H H := fun _ _ h => h
theorem Same.trans {H H1 H2 : Hp} (a : Same H H1) (b : Same H1 H2) : Same H H2 := fun c o h => b c o (a c o h)
theorem Same.free {H H' : Hp} (e : Same H H') {l : Addr} (h : H' l = Option.none) : H l = Option.none := by
  cases q : H l with
  | none => rfl
  | some o =>
    rw [e l o q] at h
    cases h
theorem Same.seq {K : PySem.W.Frag} {H H' : Hp} {a : Addr} {xs : List V} (e : Same H H') (h : SqL K H a xs) : SqL K H' a xs := by
  rcases h with (h | ⟨o, h⟩) | h
  · exact .inl (.inl (e _ _ h))
  · exact .inl (.inr ⟨o, e _ _ h⟩)
  · exact .inr h

end L2

namespace L2
open PySem PySem.Spec PyProof.Rows

section
variable {X : Cx}
theorem op_mulG : OpR X (binaryOp .Mult) (rI IntMulOk fun i j => .int (i * j)) := opI fun _ _ _ _ _ _ _ hc q => mul_int q hc
def CDivL (_ j : Int) : Prop := j ≠ 0 ∧ j.natAbs.log2 < 9000
theorem op_fdivL : OpR X (binaryOp .FloorDiv) (rI CDivL fun i j => .int (i.fdiv j)) :=
  opI fun _ _ _ _ _ _ _ hc q => floordiv_int hc.1 q (.inl (PyProof.noPylong_of_log2 hc.2))
end

section
variable {P : Program} {w : World} {H H1 H2 : Hp} {h h1 h2 : Heap} {a : Addr} {o : HO}
theorem ObjOk.there (x : ObjOk P w H h a o) : ∃ ob, h.get? a = some ob := by
  cases o with
  | lst xs => obtain ⟨_, _, _, _, e⟩ := x; exact ⟨_, e⟩
  | tup xs => obtain ⟨_, _, _, ob, e, _⟩ := x; exact ⟨_, e⟩
  | dK kvs => obtain ⟨_, _, _, _, ob, _, _, e, _⟩ := x; exact ⟨_, e⟩
  | dT kvs => obtain ⟨_, _, _, _, ob, _, _, e, _⟩ := x; exact ⟨_, e⟩
  | set S n => obtain ⟨ob, _, _, _, e, _⟩ := x; exact ⟨_, e⟩
  | ins C dx fs => obtain ⟨_, _, _, e, _⟩ := x; exact ⟨_, e⟩
  | own y => exact x
  | xd fs => obtain ⟨_, ⟨ob, _, _, e, _⟩, _⟩ := x; exact ⟨_, e⟩
  | rng lo hi => obtain ⟨_, _, _, e⟩ := x; exact ⟨_, e⟩
  | frz ob u => obtain ⟨e, _⟩ := x; exact ⟨_, e⟩
  | tbl ps => exact ⟨_, (show h.get? a = some _ from x)⟩
  | met f y => exact ⟨_, (show h.get? a = some _ from x)⟩
  | ext φ => obtain ⟨_, ⟨ob, e⟩, _⟩ := x; exact ⟨_, e⟩
theorem HOk.onward (x : HOk P w H h1) (k : ∀ b ob, H b ≠ none → h1.get? b = some ob → h2.get? b = some ob) : HOk P w H h2 := fun c u e =>
  (x c u e).stay (fun b v hb q => k b v (by rcases hb with rfl | hb
                                            · rw [e]; simp
                                            · rw [hb]; simp) q) (fun _ q => q) fun _ _ q => q
theorem Un.onward {fs : List Addr} (u : Un fs [] H H1 h h1) (keep : ∀ b ob, h1.get? b = some ob → b ∉ fs → (∃ o', h.get? b = some o') → h2.get? b = some ob)
    (slot : ∀ b ob, h1.get? b = some ob → b ∈ fs → (∃ o', h.get? b = some o') → ∃ sl, h2.get? b = some { ob with slots := sl }) : Un fs [] H H1 h h2 where
  keep := fun b ob e n hb hx => keep b ob (u.keep b ob e n hb hx) hb ⟨ob, e⟩
  slot := fun b ob e n hb hx => by
    obtain ⟨sl, e1⟩ := u.slot b ob e n hb hx
    obtain ⟨sl2, e2⟩ := slot b _ e1 hb ⟨ob, e⟩
    exact ⟨sl2, e2⟩
  free := u.free
  there := fun b ob e hx => by
    obtain ⟨o1, e1⟩ := u.there b ob e hx
    by_cases hb : b ∈ fs
    · obtain ⟨sl, e2⟩ := slot b o1 e1 hb ⟨ob, e⟩
      exact ⟨_, e2⟩
    · exact ⟨_, keep b o1 e1 hb ⟨ob, e⟩⟩
  tups := u.tups
  frzs := u.frzs
  tbls := u.tbls
end

structure Fly (P : Program) (w : World) (outer : List Env) (H : Hp) (s : Shared) (cls a0 : Value) (ea : Addr) (B : Heap) (H' : Hp) (s' : Shared) : Prop where
  os : s'.os = s.os
  bare : AllBare s'.gens
  un : Un (frs outer) [] H H' s.heap s'.heap
  hok : HOk P w H' s'.heap
  fly : Heap.FlyingW B outer ea cls a0 s'.heap
  frf : ∀ b ∈ frs outer, H' b = none
  cov : ∀ b o, s'.heap.get? b = some o → b ∉ frs outer → (H' b ≠ none ∨ ∃ o', s.heap.get? b = some o') → B.get? b = some o
def XF (P : Program) (w : World) : CXT := fun outer H s E e s' => ∃ (ea : Addr) (cls a0 : Value) (B : Heap) (H' : Hp), e = .ref ea ∧ Fly P w outer H s cls a0 ea B H' s' ∧ E cls none H'

section
variable {P : Program} {w : World} {K : PySem.W.Frag} {mg : Str → Option Value} {base : Heap} {N : List Str} {qual : Str} {scope : Scope} {f : Addr} {cd : Value} {A : Around} {outer : List Env} {s0 s1 : Shared} {H0 H1 : Hp} {E : XK}
  {pins : List (Addr × Obj)} {σ : St}
theorem frs_tail {env : Env} {l : List Env} {b : Addr} (h : b ∈ frs l) : b ∈ frs (env :: l) := by
  unfold frs at h ⊢
  rw [List.filterMap_cons]
  split
  · exact h
  · exact List.mem_cons_of_mem _ h
theorem raise_xe {h' : Heap} {e : Addr} {cls : Value} {args : List Value} (I : Inv (cxOf (XF P w) P w K mg base N qual scope f cd A outer s0 H0 E) pins σ H1 s1) (hx : Heap.MadeExcOf s1.heap h' e cls args) (hE : E cls none H1) :
    (cxOf (XF P w) P w K mg base N qual scope f cd A outer s0 H0 E).xe (.ref e) { s1 with heap := h' } := by
  have st : s1.heap.FunFrames base (envOfC qual scope s0.heap.objs.size f cd :: outer) := I.stack
  have fz : ∀ b ∈ frs (envOfC qual scope s0.heap.objs.size f cd :: outer), H1 b = none := I.stkFree
  have sub : ∀ b ∈ frs (envOfC qual scope s0.heap.objs.size f cd :: outer), b = (envOfC qual scope s0.heap.objs.size f cd).locals ∨ b ∈ frs outer := fun b hb => List.mem_cons.mp (I.stkSub b hb)
  have above : s0.heap.objs.size ≤ (envOfC qual scope s0.heap.objs.size f cd).locals := I.ok.above
  have old : ∀ b o, s0.heap.get? b = some o → b ∉ frs outer → b ∉ frs (envOfC qual scope s0.heap.objs.size f cd :: outer) := fun b o q nb z => by
    rcases sub b z with z | z
    · subst z
      exact absurd (Nat.lt_of_lt_of_le (Heap.lt_size q) above) (Nat.lt_irrefl _)
    · exact nb z
  show wpAny (model P w) (A.deeper (envOfC qual scope s0.heap.objs.size f cd)) (leaving (envOfC qual scope s0.heap.objs.size f cd) (.ref e)) _ _ _
  refine wpAny_leaves_madeW (base := PySem.W.hideAll s1.heap (frs (envOfC qual scope s0.heap.objs.size f cd :: outer))) (h := s1.heap) I.ok.frames rfl (fun b o q => PySem.W.of_hideAll _ q)
    (PySem.W.funFrames_hide st fun env' he a ha => List.mem_filterMap.mpr ⟨env', he, ha⟩) hx fun h'' t fl tup bt ups => ?_
  have kept : ∀ b o, s1.heap.get? b = some o → b ∉ frs (envOfC qual scope s0.heap.objs.size f cd :: outer) → h''.get? b = some o := fun b o q nb => fl.1 b o (PySem.W.hideAll_get _ q nb)
  have u : Un (frs outer) [] H0 H1 s0.heap s1.heap := I.base
  refine ⟨e, cls, .ref t, _, H1, rfl, ⟨I.os, I.bare, u.onward (fun b o q nb old' => ?_) (fun b o q hb old' => ?_), I.hok.onward fun b o hb q => kept b o q fun z => hb (fz b z), fl, fun b hb => fz b (frs_tail hb), fun b o q nb hc => ?_⟩, hE⟩
  · obtain ⟨o', q'⟩ := old'
    exact kept b o q (old b o' q' nb)
  · obtain ⟨_, o', ho', nf⟩ := st.mem (frs_tail hb)
    rw [q] at ho'; cases ho'
    exact ups b o (hx.keeps b o q) nf
  · have key : ∃ o1, s1.heap.get? b = some o1 ∧ b ∉ frs (envOfC qual scope s0.heap.objs.size f cd :: outer) := by
      rcases hc with hc | ⟨o', q'⟩
      · cases e1 : H1 b with
        | none => exact absurd e1 hc
        | some u1 =>
          obtain ⟨o1, q1⟩ := (I.hok b u1 e1).there
          exact ⟨o1, q1, fun z => hc (fz b z)⟩
      · obtain ⟨o1, q1⟩ := u.there b o' q' (by simp)
        exact ⟨o1, q1, old b o' q' nb⟩
    obtain ⟨o1, q1, n1⟩ := key
    have z := kept b o1 q1 n1
    have q2 : h''.get? b = some o := q
    rw [q2] at z; cases z
    exact PySem.W.hideAll_get _ q1 n1

end
end L2

namespace L2
open PySem PySem.Spec PyProof.Rows PySem.W PySem.Calls Builtin Builtin.ObjectAttr Builtin.Getset_descriptor

def ExcAt (C e : Addr) (h : Heap) : Prop := ∃ o, h.get? e = some o ∧ o.cls = .ref C ∧ notCls o = true
theorem ExcAt.stays {C e : Addr} {h1 h2 : Heap} (x : ExcAt C e h1) (k : ∀ o, h1.get? e = some o → h2.get? e = some o) : ExcAt C e h2 :=
  let ⟨o, a, b⟩ := x
  ⟨o, k o a, b⟩
theorem ExcAt.type {C e : Addr} {h : Heap} {M : Model} (x : ExcAt C e h) : Looks M h (typeOf (.ref e)) (.ref C) := by
  obtain ⟨o, a, b, _⟩ := x
  exact b ▸ (Looks.ld a).andThen .now
structure ExcCls (K : Frag) (C : Addr) : Prop where
  cls : (clsIn K C).isSome = true
  ga : findIn K (.ref C) "__getattribute__" = some (some (.builtin "BaseException.__getattribute__"))
  gt : findIn K (.ref C) "__getattr__" = some none
  cl : findIn K (.ref C) "__class__" = some (some (.builtin "object.__class__"))
  get : specialIn K (.builtin "object.__class__") "__get__" = some (some (.builtin "getset_descriptor.__get__"))
  tk : takesIn K (.builtin "object.__class__") = some true
  ob : mroIn K C (.type "object") = some true
  be : mroIn K C (.type "BaseException") = some true
section
variable {prog : Program} {w : World} {A : Around} {E : Value → Shared → Prop} {s : Shared} {K : Frag} {e C : Addr}
theorem exc_find {M : Model} {h : Heap} (X : K.In h) (T : ExcCls K C) : Looks M h (Builtin.ObjectAttr.find (.ref e) (.ref C) "__class__") (.bind (.builtin "getset_descriptor.__get__") (.builtin "object.__class__")) := by
  have d : Looks M h (Builtin.ObjectAttr.dataDescriptor? (some (.builtin "object.__class__")) (some (.builtin "getset_descriptor.__get__"))) (some (.builtin "getset_descriptor.__get__", .builtin "object.__class__")) := (looks_takesIn X T.tk).andThen .now
  exact (looks_findIn X T.cl).andThen ((looks_specialIn X T.get).andThen (d.andThen (Looks.tag .now)))
theorem exc_class_get {R : Result → Shared → Prop} {tp : Value} (X : K.In s.heap) (I : ExcAt C e s.heap) (hm : mroIn K C (.type "object") = some true)
    (h : R (.ok (.ret (.ref C))) s) : codeAny (model prog w) A (.call (.builtin "getset_descriptor.__get__") ⟨[.builtin "object.__class__", .ref e, tp], []⟩) R s := by
  obtain ⟨hp, gs, dr, tk, os⟩ := s
  have l0 := I.type (M := model prog w)
  have l1 := looks_mroIn (M := model prog w) X hm
  refine codeAny_call_builtin KF.slot_gs.plain KF.entry_gs ?_
  refine KF.slot_gs.check _ _ _ _ _ _ _ _ KF.type_class (KF.args_gs _ _ _) ?_
  unfold Builtin.«getset_descriptor.__get__» descrGet
  rw [dga_obj]
  refine wpAny_bind (wpAny_pure ?_)
  unfold descrGetter descrCheckInstance descrNameAndClass isInstance
  simp only [KF.owner_class]
  repeat lk
  refine ⟨Code.quiet_builtin _ (by decide +kernel), codeAny_builtin KF.entry_class ?_⟩
  unfold Builtin.«object.__class__» shownTypeOf
  repeat lk
  exact h

theorem exc_entry {tk : Tok} {Q : PySem.Fin → Shared → Prop} (X : K.In s.heap) (T : ExcCls K C) (I : ExcAt C e s.heap) (h : Q (.done (.ret (.ref C))) s) :
    wpAny (model prog w) A (Builtin.«object.__getattribute__» ⟨[.ref e, .str "__class__" tk], []⟩) Q E s := by
  obtain ⟨hp, gs, dr, t, os⟩ := s
  have l0 := I.type (M := model prog w)
  have l1 := exc_find (e := e) (M := model prog w) X T
  unfold Builtin.«object.__getattribute__»
  repeat (first | with_reducible refine wpAny_call ?_ | lk)
  refine exc_class_get X I T.ob ?_
  repeat lk
  exact h
theorem exc_class {Q : Option Value → Shared → Prop} (X : K.In s.heap) (T : ExcCls K C) (I : ExcAt C e s.heap) (h : Q (some (.ref C)) { s with toks := s.toks + 1 }) : wpAny (model prog w) A (getAttr? (.ref e) "__class__") Q E s := by
  obtain ⟨hp, gs, dr, t, os⟩ := s
  have l0 := I.type (M := model prog w)
  have l1 := looks_findIn (M := model prog w) X T.ga
  have l2 := looks_findIn (M := model prog w) X T.gt
  have l3 := looks_mroIn (M := model prog w) X T.be
  unfold getAttr? getAttrBy? getAttrBy
  refine wpAny_bind (wpAny_mkText (wpAny_bind (wpAny_attempt (wpAny_holding (wpAny_bind (l0.at (wpAny_bind (l1.at ?_))))))))
  dsimp only
  have ne : (Value.builtin "BaseException.__getattribute__" == Value.builtin "object.__getattribute__") = false := by decide +kernel
  rw [if_neg (by rw [ne, Bool.and_false]; exact Bool.false_ne_true)]
  unfold getAttrByItsOwn hookBefore
  repeat (first | with_reducible refine wpAny_call ?_ | with_reducible refine wpAny_attempt ?_ | lk)
  have hk : builtinKind "BaseException.__getattribute__" = some .slot := by decide +kernel
  have hsplit : splitId "BaseException.__getattribute__" = some ("BaseException", "__getattribute__") := by decide +kernel
  refine codeAny_call_builtin (by decide +kernel) F.entry_bexc_ga ?_
  have ha := F.args_bexc_ga (.ref e) (.str (Str.ofString "__class__") t)
  show wpAny _ _ (checkBuiltinCall "BaseException.__getattribute__" ⟨[.ref e, .str (Str.ofString "__class__") t], []⟩) _ _ _
  simp only [checkBuiltinCall, hk, hsplit]
  unfold isInstance
  refine wpAny_bind (wpAny_bind (l0.at (l3.at ?_)))
  simp only [Bool.not_true, Bool.false_eq_true, if_false]
  refine wpAny_of_eq (show _ = pure () from ha) ?_
  refine wpAny_mono (exc_entry (E := fun _ _ => False) (Q := fun fin s' => fin = .done (.ret (.ref C)) ∧ s' = ⟨hp, gs, dr, t + 1, os⟩) X T I ⟨rfl, rfl⟩) (fun fin s' z => ?_) fun _ _ z => z.elim
  obtain ⟨rfl, rfl⟩ := z
  exact wpAny_pure (wpAny_pure h)
end
theorem kitx_exc {K : Frag} {e C : Addr} (T : ExcCls K C) : KitX K (.ref e) (.ref C) (ExcAt C e) where
  ty := fun _ _ _ I => I.type
  it := fun M h X _ => by
    obtain ⟨cd, hc⟩ := Option.isSome_iff_exists.mp T.cls
    unfold clsIn at hc
    split at hc
    · rename_i c' d' cd' sl' ho
      intro A' Q' E' s' k q
      unfold isType loadHead
      exact wpAny_bind (wpAny_loadPart (k _ _ (X _ _ ho)) (wpAny_pure q))
    · cases hc
  ne := fun h tp dd its n sl X htp => by
    obtain ⟨cd, hc⟩ := Option.isSome_iff_exists.mp T.cls
    refine Bool.eq_false_iff.mpr fun q => ?_
    have ee : C = tp := Value.ref.inj (beq_iff_eq.mp q)
    subst ee
    unfold clsIn at hc
    split at hc
    · rename_i c' d' cd' sl' ho
      have z := (X _ _ ho).symm.trans htp
      cases z
    · cases hc
  ca := fun X I k => exc_class X T I k
end L2

namespace L2
open PySem PySem.Spec PyProof.Rows

structure RoomQ (k : Nat) (A : Around) : Prop where
  dp : A.depth + 3 * k + 5 < recursionLimit
  un : A.units + 16 * k + 200 < cLine
structure FnOkQ (P : Program) (w : World) (K : PySem.W.Frag) (mg : Str → Option Value) (base : Heap) (k : Nat) (f : Addr) (fd : FuncData) (ps : List Str) (sp : Sp) : Prop where
  len : ∀ vs H Q E, sp vs H Q E → vs.length = ps.length
  run : ∀ (A : Around) (outer : List Env) (s : Shared) (H : Hp) (args : Args) (us : List Value) (vs : List V) (Q : VK) (E : XK), RoomQ k A → Env0 P w K mg base A outer s H → BindsTo s fd args (ps.zip us) → Vals vs us → sp vs H Q E →
    codeAny (model P w) A (.call (.ref f) args) (CR CX0 outer P w H s Q E) s
def cxQ (P : Program) (w : World) (K : PySem.W.Frag) (mg : Str → Option Value) (base : Heap) (N : List Str) (qual : Str) (scope : Scope) (f : Addr) (cd : Value) (A : Around) (outer : List Env) (s : Shared) (H : Hp) : Cx :=
  { cxOf CX0 P w K mg base N qual scope f cd A outer s H E0 with calm := false, xe := fun _ _ => False }
section
variable {P : Program} {w : World} {K : PySem.W.Frag} {mg : Str → Option Value} {base : Heap}
theorem Fun.okX {x qual : Str} {st : Stmt} {f : Addr} {fd : FuncData} {N ps : List Str} {k : Nat} {sp : Sp} (F : Fun K x qual st f fd) (S : FnScope N ps (defScope st)) (len : ∀ vs H Q E, sp vs H Q E → vs.length = ps.length)
    (hbody : ∀ (cdv : Value) (A : Around) (outer : List Env) (s : Shared) (H : Hp) (vs : List V) (Q : VK) (E : XK), Room k (A.deeper (envOfC qual (defScope st) s.heap.objs.size f cdv)) → sp vs H Q E →
      ∃ t, PSs (cxOf (XF P w) P w K mg base N qual (defScope st) f cdv A outer s H E) (defBody st) t ∧ t { nx := fun _ H' => Q .non H', rt := Q } (start N vs) H) : FnOk P w K mg base (XF P w) (k + 1) f fd ps sp := by
  obtain ⟨oc, od, kV, doc, pm, an, cdv, ct, osl, rfl, lk, hcd⟩ := F.ex
  exact fn_of lk hcd S len fun A outer s H vs Q E hr hsp => hbody cdv A outer s H vs Q E hr hsp
end
section
variable {X : Cx} {k : Nat} {f : Addr} {fd : FuncData} {ps : List Str} {sp : Sp} {dvs : List V} {ds : List Value} {x : Str} {p pos : Pos} {e : Expr} {es : List Expr} {t : TA}
end
theorem PS.nox {X : Cx} {st : Stmt} {t : TS} (h : PS X.nox st t) : PS X st t := fun pins s σ H D I hw =>
  wpAny_mono (h pins s σ H D (I.wish _) hw) (fun _ _ q => q.unwish) fun _ _ z => z.elim

theorem exc_obj {K : PySem.W.Frag} {h : Heap} {C : Addr} {bmB : List Value} {newId : String} (X : K.In h) (q : PySem.W.excIn K C bmB newId = true) :
    ∃ bm N nm qn bs hdct sn sub ab col dd k0 k1 k2 k3 k5 mN, h.get? C = some (excClassObj nm qn C N bs bm hdct sn sub ab col dd k0 k1 k2 k3 k5 newId) ∧ h.Ns N mN ∧ mN "__init__" = none ∧ OwnTail h bmB bm := by
  unfold PySem.W.excIn at q
  split at q
  · rename_i dd cd sl ho
    split at q
    · rename_i C' bm k0 k1 k2 k3 n k5 hm hs
      simp only [Bool.and_eq_true, beq_iff_eq, Bool.not_eq_true'] at q
      obtain ⟨⟨⟨⟨⟨c1, c2⟩, c3⟩, c4⟩, c5⟩, c6⟩ := q
      subst c1 c2
      obtain ⟨nm, bs, mro, ns, qn, hd, sn, sub, ab, col, del⟩ := cd
      dsimp only at hm c3 c5 c6
      subst hm c3
      obtain ⟨l⟩ := sl
      have hs' : l = [k0, k1, k2, k3, some (.builtin n), k5] := hs
      subst hs'
      exact ⟨bm, ns, nm, qn, bs, hd, sn, sub, ab, col, dd, k0, k1, k2, k3, k5, _, X _ _ ho, .of_isNs (PySem.W.isNs_of_in X c5), PySem.W.nsMap_none_of_in X c5 c6, PySem.W.tail_of_in X c4⟩
    · cases q
  · cases q
abbrev bmVE : List Value := [.type "ValueError", .type "Exception", .type "BaseException", .type "object"]
def tRaise (C : Addr) (E : XK) (ta : TA) : TS := fun _ σ H => ta σ H fun vs H1 => vs.length ≤ sizeLine ∧ E (.ref C) none H1
section
variable {P : Program} {w : World} {K : PySem.W.Frag} {mg : Str → Option Value} {base : Heap} {N : List Str} {qual : Str} {scope : Scope} {f : Addr} {cd : Value} {A : Around} {outer : List Env} {s0 : Shared} {H0 : Hp} {E : XK}
  {x : Str} {C : Addr} {np cpos pos : Pos} {e : Expr} {es : List Expr} {t : TA}
theorem ps_raise (hm : mg x = some (.ref C)) (hq : PySem.W.excIn K C bmVE "ValueError.__new__" = true) (hg : Gl (cxOf (XF P w) P w K mg base N qual scope f cd A outer s0 H0 E) x)
    (ha : PA (cxOf (XF P w) P w K mg base N qual scope f cd A outer s0 H0 E) (e :: es) t) (hdb : (x == ("__debug__" : Str)) = false := by decide)
    (he : starEach (e :: es) (cxOf (XF P w) P w K mg base N qual scope f cd A outer s0 H0 E).env = (false, eval e (cxOf (XF P w) P w K mg base N qual scope f cd A outer s0 H0 E).env) :: starEach es (cxOf (XF P w) P w K mg base N qual scope f cd A outer s0 H0 E).env := by rfl)
    (hpl : (backTo cpos (starEach es (cxOf (XF P w) P w K mg base N qual scope f cd A outer s0 H0 E).env)).any (·.1) = false := by rfl) :
    PS (cxOf (XF P w) P w K mg base N qual scope f cd A outer s0 H0 E) (.Raise (some (.Call (.Name x np) (e :: es) [] cpos)) none pos) (tRaise C E t) := by
  intro pins s σ H D I h
  obtain ⟨bm, Nn, nm, qn, bs, hdct, sn, sub, ab, col, dd, k0, k1, k2, k3, k5, mN, hC, hN, hni, TL⟩ := exc_obj I.mod.kin hq
  have hpl' : (backTo cpos (starEach (e :: es) (cxOf (XF P w) P w K mg base N qual scope f cd A outer s0 H0 E).env)).any (·.1) = false := by
    rw [he]
    show (false || (backTo cpos (starEach es _)).any (·.1)) = false
    rw [hpl]
    rfl
  refine wpAny_Raise_call_subT (C := C) (nm := nm) (q := qn) (N := Nn) (bs := bs) (bm := bm) (hdct := hdct) (sn := sn) (sub := sub) (ab := ab) (col := col) (dd := dd) (k0 := k0) (k1 := k1) (k2 := k2) (k3 := k3) (k5 := k5)
    PySem.F.excBase_ValueError (mN := mN) (TL.hasType PySem.F.excBase_ValueError.hasBase) (I.ok.hd rfl) hpl' hni (ld_glob I hg hm ⟨rfl, ?_⟩ hdb)
  have h2 := ha cpos pins s σ H _ I h
  rw [he] at h2 ⊢
  exact Calls.evalArgs_plain (wpAny_mono h2 (fun us s1 ⟨vs, H1, I1, r, z, q⟩ => ⟨rfl, by show us.length ≤ _; rw [← r.length]; exact z, I1.bk _ _ hC, hN.keeps I1.bk, TL.keeps I1.bk, fun h' ea hm' => raise_xe I1 hm' q⟩) fun _ _ y => y)
end
end L2

namespace L2
open PySem PySem.Spec PyProof.Rows

abbrev Cx.marked (X : Cx) (e : Addr) : Cx := { X with A := X.A.mark (some (.ref e)), calm := false, xe := fun _ _ => False }
theorem Cx.Ok.marked {X : Cx} (ok : X.Ok) (e : Addr) : (X.marked e).Ok :=
  ⟨ok.mod, ok.kind, ok.glob, ok.blt, ok.above, ok.inj, ok.has, ok.cab, (fun h => by cases h), ok.frames, ok.stk, ok.exf, ok.bs, ok.bsz, ok.noex, ok.exfs, ok.funs, ok.frf⟩
section
variable {X : Cx} {pins : List (Addr × Obj)} {σ : St} {H H' : Hp} {s s' : Shared} {e : Addr}
theorem Inv.marked (I : Inv X pins σ H s) (e : Addr) : Inv (X.marked e) pins σ H s := ⟨I.ok.marked e, I.os, I.bare, I.base, I.loc, I.cell, I.free, I.freeC, I.pin, I.hok, I.len⟩
theorem Inv.unmarked (ok : X.Ok) (I : Inv (X.marked e) pins σ H s) : Inv X pins σ H s := ⟨ok, I.os, I.bare, I.base, I.loc, I.cell, I.free, I.freeC, I.pin, I.hok, I.len⟩
theorem Un.more {fs : List Addr} {H H1 : Hp} {h h1 : Heap} {a : Addr} {o : HO} (u : Un fs [] H H1 h h1) (n : h.get? a = none) (n1 : H1 a = none) : Un fs [] H (upd H1 a o) h h1 where
  keep := u.keep
  slot := u.slot
  free := fun b ob q m hx => by
    have ne : b ≠ a := fun z => by subst z; rw [n] at q; cases q
    rw [upd_ne ne]
    exact u.free b ob q m hx
  there := u.there
  tups := fun b xs q => by
    have z := u.tups b xs q
    rw [upd_ne (ne_of_none z n1)]
    exact z
  frzs := fun b ob v q => by
    have z := u.frzs b ob v q
    rw [upd_ne (ne_of_none z n1)]
    exact z
  tbls := fun b ps q => by
    obtain ⟨m, z⟩ := u.tbls b ps q
    exact ⟨m, by rw [upd_ne (ne_of_none z n1)]; exact z⟩
theorem HOk.more {P : Program} {w : World} {H1 : Hp} {h1 : Heap} {a : Addr} {o : HO} (x : HOk P w H1 h1) (n1 : H1 a = none) (new : ObjOk P w (upd H1 a o) h1 a o) : HOk P w (upd H1 a o) h1 := fun b u e => by
  by_cases hb : b = a
  · subst hb; rw [upd_same] at e; cases e; exact new
  · rw [upd_ne hb] at e
    exact (x b u e).stay (fun _ _ _ q => q) (fun c q => by rw [upd_ne (ne_of_none q n1)]; exact q) fun c xs q => by rw [upd_ne (ne_of_none q n1)]; exact q
variable {cls a0 : Value} {ea C : Addr} {B h' : Heap} {t' : Nat}
theorem Fly.unF (x : Fly X.prog X.w X.stack H s cls a0 ea B H' s') (k : B.StaysIn h') (ups : s'.heap.UpToSlots h') : Un (frs X.stack) [] H H' s.heap h' :=
  x.un.onward (fun b o q nb old => k b o (x.cov b o q nb (.inr old))) fun b o q hb old => by
    obtain ⟨_, o', ho', nf⟩ := x.fly.2.2.1.mem hb
    rw [q] at ho'; cases ho'
    exact ups b o q nf
theorem Fly.hokF (x : Fly X.prog X.w X.stack H s cls a0 ea B H' s') (k : B.StaysIn h') : HOk X.prog X.w H' h' :=
  x.hok.onward fun b o hb q => k b o (x.cov b o q (fun z => hb (x.frf b z)) (.inl hb))
theorem Fly.notFrame (x : Fly X.prog X.w X.stack H s cls a0 ea B H' s') : ea ∉ frs X.stack := fun z => by
  obtain ⟨_, o', ho', nf⟩ := x.fly.2.2.1.mem z
  obtain ⟨oe, vs, he, _, hd, _⟩ := x.fly.first
  rw [he] at ho'; cases ho'
  exact nf vs hd
theorem Fly.new (x : Fly X.prog X.w X.stack H s cls a0 ea B H' s') : s.heap.get? ea = none ∧ H' ea = none := by
  obtain ⟨oe, vs, he, _, hd, _⟩ := x.fly.first
  constructor
  · cases q : s.heap.get? ea with
    | none => rfl
    | some o' =>
      have z := x.cov ea oe he x.notFrame (.inr ⟨o', q⟩)
      rw [x.fly.2.1] at z; cases z
  · cases q : H' ea with
    | none => rfl
    | some u =>
      have z := x.cov ea oe he x.notFrame (.inl (by rw [q]; simp))
      rw [x.fly.2.1] at z; cases z
theorem Inv.landed (I : Inv X pins σ H s) (x : Fly X.prog X.w X.stack H s cls a0 ea B H' s') (k : B.StaysIn h') (ups : s'.heap.UpToSlots h') : Inv X pins σ H' { s' with heap := h', toks := t' } :=
  I.call' (s' := { s' with heap := h', toks := t' }) (ch := []) x.os (x.unF k ups) (x.hokF k) x.bare fun b z => absurd z (by simp)
theorem Inv.landedE (I : Inv X pins σ H s) (x : Fly X.prog X.w X.stack H s (.ref C) a0 ea B H' s') {l : List Env} (fl : Heap.FlyingW B l ea (.ref C) a0 h') (ups : s'.heap.UpToSlots h') :
    Inv X pins σ (upd H' ea (.ext (ExcAt C ea))) { s' with heap := h', toks := t' } := by
  obtain ⟨oe, vs, he, hc, hd, _⟩ := fl.first
  have at_ : ExcAt C ea h' := ⟨oe, he, hc, by unfold PySem.W.notCls; rw [hd]⟩
  exact I.call' (s' := { s' with heap := h', toks := t' }) (ch := []) x.os ((x.unF fl.1 ups).more x.new.1 x.new.2) ((x.hokF fl.1).more x.new.2 ⟨at_, ⟨oe, he⟩, fun h1 h2 p q => p.stays q⟩) x.bare fun b z => absurd z (by simp)
theorem unbind_ok {M : Model} {A : Around} {E : Value → Shared → Prop} {i : Nat} {n : Str} {pos : Pos} {Q : Unit → Shared → Prop} (I : Inv X pins σ H s) (hN : X.N.Nodup) (hi : X.N[i]? = some n) (hk : X.env.scope.names.lookup n = some .local)
    (h : ∀ s', Inv X pins (σ.set i none) H s' → Q () s') : wpAny M A (do bindName X.env n .none; unbindBehindTheSuite X.env n pos) Q E s := by
  obtain ⟨m, hn, hl⟩ := id I.loc
  have hcls : (X.env.scope.kind == .class || (X.env.scope.kind == .module && X.env.locals != X.env.globals)) = false := by rw [I.ok.kind]; rfl
  have cne := I.cne
  obtain ⟨oL, _, _, hoL, _⟩ := id hn
  refine wpAny_nameGoes_keeps hk hn hcls fun h' v hn' hs => ?_
  have old : ∀ b o, X.s₀.heap.get? b = some o → h'.get? b = s.heap.get? b := fun b o e => hs.2 b (Nat.ne_of_lt (Nat.lt_of_lt_of_le (Heap.lt_size e) I.ok.above))
  refine h _ ⟨I.ok, I.os, I.bare, ⟨fun b o e k hb hx => (old b o e).trans (I.base.keep b o e k hb hx), fun b o e k hb hx => ?_, I.base.free, fun b o e hx => ?_, I.base.tups, I.base.frzs, I.base.tbls⟩, ⟨_, hn', fun j y v' e1 e2 e3 => ?_⟩, fun y c e => ?_, I.free, I.freeC, fun p hp => ?_, fun b ob e => ?_, by simpa using I.len⟩
  · obtain ⟨sl, e1⟩ := I.base.slot b o e k hb hx
    exact ⟨sl, (old b o e).trans e1⟩
  · obtain ⟨o', e1⟩ := I.base.there b o e hx
    exact ⟨o', (old b o e).trans e1⟩
  · by_cases hj : j = i
    · subst hj
      exfalso
      have hlt : j < σ.length := by rw [I.len]; exact (List.getElem?_eq_some_iff.mp hi).1
      rw [List.getElem?_set_self hlt] at e2
      cases e2
    · rw [List.getElem?_set_ne (Ne.symm hj)] at e2
      obtain ⟨u', r', q⟩ := hl j y v' e1 e2 e3
      refine ⟨u', r', ?_⟩
      rcases q with ⟨k, e⟩ | ⟨k, c, e, z⟩
      · refine .inl ⟨k, ?_⟩
        have ne : y ≠ n := fun z => hj (nodup_ix hN e1 (z ▸ hi))
        show (if y = n then v else m y) = some u'
        rw [if_neg ne]
        exact e
      · exact .inr ⟨k, c, e, z.sameBut hs (cne y c e)⟩
  · obtain ⟨w', z⟩ := I.cell y c e
    exact ⟨w', z.sameBut hs (cne y c e)⟩
  · obtain ⟨e, k, ne, nf, d⟩ := I.pin p hp
    exact ⟨(hs.2 p.1 ne).trans e, k, ne, nf, d⟩
  · refine (I.hok b ob e).stay (fun c w' hc q => (hs.2 c ?_).trans q) (fun _ q => q) fun _ _ q => q
    rintro rfl
    rcases hc with rfl | hc
    · rw [I.free] at e; cases e
    · rw [I.free] at hc; cases hc
def asEnds (D : Ends) (i : Nat) : Ends := { nx := fun σ H => D.nx (σ.set i none) H, rt := D.rt, bk := fun σ H => D.bk (σ.set i none) H, ct := fun σ H => D.ct (σ.set i none) H }
end
def tTryAs (sp : Sp) (C : Addr) (i : Nat) (ta : TA) (ts : TS) : TS := fun D σ H => ta σ H fun vs H1 => sp vs H1 (fun _ H2 => D.nx σ H2) fun cls _ H2 => cls = .ref C ∧ ∀ e, H2 e = none → ts (asEnds D i) (σ.set i (some (.ref e))) (upd H2 e (.ext (ExcAt C e)))
section
variable {X : Cx} {k : Nat} {f C : Addr} {fd : FuncData} {ps : List Str} {sp : Sp} {g x n : Str} {p pos pos2 pos3 np hpos : Pos} {e : Expr} {es : List Expr} {t : TA} {ts : TS} {b₀ : Stmt} {suite : List Stmt} {i : Nat}
end
end L2

namespace L2
open PySem PySem.Spec PyProof.Rows

theorem reads_bools (h : Heap) : ∀ {bs : List Bool} {us : List Value}, Vals (bs.map V.bl) us → ReadsAll h us (bs.map PyData.bool) []
  | [], _, .nil => .nil
  | b :: r, _, .cons q t => by
    have q' : _ = Value.bool b := q
    subst q'
    exact ReadsAll.cons (as := []) (bs := []) (.bool b) (reads_bools h t)
def rCount : V → List V → Hp → VK → Prop := fun x vs H Q => ∃ (l : Addr) (bs : List Bool) (k : Bool), x = .ref l ∧ vs = [.bl k] ∧ H l = some (.lst (bs.map V.bl)) ∧ Q (.int (countIn (.bool k) (bs.map PyData.bool))) H
inductive TyX (K : PySem.W.Frag) (H : Hp) : V → Value → Prop where
  | of {x : V} {t : Value} (h : TyOf K H x t) : TyX K H x t
  | exc {e C : Addr} (T : ExcCls K C) (h : H e = some (.ext (ExcAt C e))) : TyX K H (.ref e) (.ref C)
def valOf : V → Value
  | .ref a => .ref a
  | .ty n => .type n
  | _ => .none
def rIsi (K : PySem.W.Frag) : List V → Hp → VK → Prop := fun xs H Q => ∃ x c t b, xs = [x, c] ∧ ((∃ a, c = .ref a) ∨ ∃ n, c = .ty n) ∧ TyX K H x t ∧ PySem.W.kitOne K t (valOf c) = some b ∧ Q (.bl b) H
theorem call_isi {X : Cx} : CallR X (.builtin "isinstance") (rIsi X.K) := by
  intro pins s σ H xs us Q I rv h
  obtain ⟨x, c, t, b, rfl, hc, ty, e, q⟩ := h
  obtain ⟨u, uc, rfl, ru, rc⟩ := rv.two
  have huc : uc = valOf c := by
    rcases hc with ⟨a, rfl⟩ | ⟨n, rfl⟩
    · exact rc
    · exact rc
  subst huc
  have fin : ∀ tk, EP X pins σ Q (.bool b) { s with toks := tk } := fun tk => ⟨.bl b, H, I.tok tk, rfl, q⟩
  cases ty with
  | of ty => exact isinst_ok I ru ty e fin
  | @exc ea C T he =>
    have ru' : u = Value.ref ea := ru
    subst ru'
    obtain ⟨p, _, _⟩ := (show ObjOk X.prog X.w H s.heap ea (.ext (ExcAt C ea)) from I.hok ea _ he)
    exact PySem.W.kia_one (kitx_exc T) I.kIn p e (fun z => nomatch z) fin

theorem bits_of_lay {ns : List Int} (h : PySem.W.WData.layableAll [PySem.W.WData.list (ns.map PySem.W.WData.int)] = true) : ∀ n ∈ ns, Builtin.Int.intBits n ≤ 1048576 := fun n hn => by
  have h1 := (PySem.W.layW_cons h).1
  have h2 := PySem.W.layableW_item h1 (.int n) (List.mem_map.mpr ⟨n, hn, rfl⟩)
  have h3 : PyData.layable0 (.int n) = true := h2
  exact PyData.bits_of_layable h3
theorem walk_b {l : PySem.W.OpenLaw} {n k : Nat} {q : Program} {loose : List Str} {XP : (Str → Option Value) → Heap → Prop} {YP : World → Heap → Prop} {d : DefRec} {K : Params → PySem.W.Frag} {CX : World → CXT} {sp : World → Sp} {x : Str}
    (hn : l.most = some n) (hn2 : n ≤ sizeLine) (hdf : d.params.defaults = []) (hr : Room k callerA)
    (hY : ∀ (w : World) (h : Heap), YP w h → (K w.params).In h)
    (F : ∀ (w : World) (mg : Str → Option Value) (fa : Addr) (h : Heap), (K w.params).In h → h.Ns mainGlobals mg → mg d.name = some (.ref fa) →
      ∃ fd : FuncData, (∀ (s : Shared) (u : Value), BindsTo s fd ⟨[u], []⟩ [(x, u)]) ∧
        ∀ base : Heap, (K w.params).In base → base.Ns mainGlobals mg → FnOk l.prog w (K w.params) mg base (CX w) k fa fd [x] (sp w))
    (hsp : ∀ (w : World) (H : Hp) (a : Addr) (ns : List Int), ns.length ≤ n → (∀ m ∈ ns, Builtin.Int.intBits m ≤ 1048576) → SqL (K w.params) H a (ns.map V.int) → sp w [.ref a] H (fun v _ => v = .bl true) fun _ _ _ => False)
    (hCX : ∀ (w : World) (H : Hp) (s : Shared) (e : Value) (s' : Shared), CX w [] H s (fun _ _ _ => False) e s' → False) :
    PySem.W.WalkO q loose XP YP l.row.toRowW d [] (fun f vs => PySem.call f vs) := by
  intro w s₀ s₁ mg mb G Y fa o pm cd doc dV kV ho hd hcd hD hmg hg args vals as hpre hlay hrd hwl hlo
  obtain ⟨a, vs, ns, rfl, rfl, hobj, hints, hlen⟩ := Att.script_of hn hpre hwl
  have KX := hY w _ Y
  obtain ⟨fd, hb, hF⟩ := F w mg fa _ KX G.T.g hmg
  have call := law_call KX G.T.g G.T.b G.T.builtins G.T.nolimit hg hobj hints (Nat.le_trans hlen hn2) hr hF hb (fun H hO hS => hsp w H a ns hlen (bits_of_lay hlay) hS) fun H e s' => hCX w H s₁ e s'
  refine PySem.W.enter_call (codeAny_mono call fun r s' hq => ?_)
  obtain ⟨rfl, h2, h3, h4⟩ := hq
  exact ⟨.inl ⟨.bool true, .bool true, [], rfl, fun _ => rfl, .bool true, Att.post_true l _, fun _ => ⟨List.Pairwise.nil, fun _ hm => (nomatch hm)⟩⟩, h2, h3, h4⟩
theorem passF {X : Cx} {P : Program} {w : World} : Passes (XF P w) X E0 := by
  rintro pins σ H s e s' I ⟨_, _, _, _, _, _, _, h⟩
  exact h.elim
def spLaw (K : PySem.W.Frag) : Sp := fun vs H Q _ => ∃ (a : Addr) (ns : List Int), vs = [.ref a] ∧ SqL K H a (ns.map V.int) ∧ ns.length ≤ 63 ∧ (∀ m ∈ ns, Builtin.Int.intBits m ≤ 1048576) ∧ ∀ H', Q (.bl true) H'
end L2

namespace L2
open PySem PySem.Spec PyProof.Rows

def tCut (t u : TS) : TS := fun D σ H => ∃ R : St → Hp → Prop, t { D with nx := R } σ H ∧ ∀ σ' H', R σ' H' → u D σ' H'
theorem pss_cut {X : Cx} {st : Stmt} {rest : List Stmt} {t u : TS} (h1 : PS X st t) (h2 : PSs X rest u) : PSs X (st :: rest) (tCut t u) := by
  intro pins s σ H D I h
  obtain ⟨R, h, k⟩ := h
  refine wpAny_execs_cons (thn (h1 pins s σ H { D with nx := R } I h) fun f s1 q => ?_)
  cases f with
  | next =>
    obtain ⟨σ', H', I', q⟩ := q
    exact h2 pins s1 σ' H' D I' (k _ _ q)
  | ret v => exact q
  | brk => exact q
  | cont => exact q

theorem bits_lit {i : Int} {k : Nat} (h : i.natAbs < 2 ^ k) (hk : k ≤ 1048576) : Builtin.Int.intBits i ≤ 1048576 := Nat.le_trans (intBits_le h) hk
theorem mulOk {a b : Int} (ha : Builtin.Int.intBits a ≤ 1048576) (hb : Builtin.Int.intBits b ≤ 1048576) : IntMulOk a b := IntMulOk.of_bits ha hb
theorem log2_lt_of {i : Int} {k : Nat} (h : i.natAbs < 2 ^ k) (hk : 0 < k) : i.natAbs.log2 < k := by
  by_cases h0 : i.natAbs = 0
  · rw [h0]; exact hk
  · exact (Nat.log2_lt h0).mpr h

def spCell (K : PySem.W.Frag) : Sp := fun vs H Q _ => ∃ (a : Addr) (ns : List Int) (k : Int), vs = [.ref a, .int k] ∧ SqL K H a (ns.map V.int) ∧ 0 ≤ k ∧ Q (.int (ns.getD k.toNat 0)) H
theorem cell_in {ns : List Int} {k : Int} (h0 : 0 ≤ k) (h : k < ((ns.map V.int).length : Nat)) : atI (ns.map V.int) k = some (.int (ns.getD k.toNat 0)) := by
  rw [List.length_map] at h
  have hk : k.toNat < ns.length := by omega
  have ek : k = ((k.toNat : Nat) : Int) := by omega
  have q : atI (ns.map V.int) ((k.toNat : Nat) : Int) = some (.int (ns.getD k.toNat 0)) := atI_nat (by
    rw [List.getElem?_map, List.getElem?_eq_getElem hk, List.getD_eq_getElem?_getD, List.getElem?_eq_getElem hk]
    rfl)
  rw [← ek] at q
  exact q
theorem cell_out {ns : List Int} {k : Int} (h : ¬ k < ((ns.map V.int).length : Nat)) (h0 : 0 ≤ k) : ns.getD k.toNat 0 = 0 := by
  rw [List.length_map] at h
  rw [List.getD_eq_getElem?_getD, List.getElem?_eq_none (by omega)]
  rfl
def spWhole : Sp := fun vs H Q _ => ∃ n, vs = [.int n] ∧ Q (.bl true) H
def spAlone (C : Addr) : Sp := fun vs H Q _ => ∃ e, vs = [.ref e] ∧ H e = some (.ext (ExcAt C e)) ∧ ∀ H', Same H H' → Q (.bl true) H'
theorem same_new {H : Hp} {p : Addr} (h : H p = none) (o : HO) : Same H (upd H p o) := fun b u q => by rw [upd_ne (ne_of_none q h)]; exact q
end L2
namespace L2
open PySem PySem.Spec PyProof.Rows
def Has (P : Program) (w : World) (K : PySem.W.Frag) (mg : Str → Option Value) (base : Heap) (CX : CXT) (k : Nat) (x : Str) (ps : List Str) (sp : Sp) : Prop :=
  ∃ (f : Addr) (fd : FuncData), FnOk P w K mg base CX k f fd ps sp ∧ Binds K fd ps [] ∧ PySem.W.keepIn K (.ref f) = true ∧ mg x = some (.ref f)
def HasQ (P : Program) (w : World) (K : PySem.W.Frag) (mg : Str → Option Value) (base : Heap) (k : Nat) (x : Str) (ps : List Str) (sp : Sp) : Prop :=
  ∃ (f : Addr) (fd : FuncData), FnOkQ P w K mg base k f fd ps sp ∧ Binds K fd ps [] ∧ PySem.W.keepIn K (.ref f) = true ∧ mg x = some (.ref f)
theorem decT {p : Prop} [Decidable p] (h : decide p = true) : p := of_decide_eq_true h
theorem decF {p : Prop} [Decidable p] (h : ¬ decide p = true) : ¬ p := of_decide_eq_false (Bool.eq_false_iff.mpr h)
theorem int_inj {a b : Int} (h : V.int a = V.int b) : a = b := V.int.inj h
end L2
namespace L2
open PySem PySem.Spec PyProof.Rows
inductive IntsE : List Expr → List Int → Prop where
  | nil : IntsE [] []
  | cons {i : Int} {j : Nat} {pos : Pos} {es : List Expr} {ns : List Int} (h : IntsE es ns) : IntsE (.Constant (.int i) j pos :: es) (i :: ns)
theorem pa_ints {X : Cx} {es : List Expr} {ns : List Int} (h : IntsE es ns) : PA X es (fun _ H Q => Q (ns.map V.int) H) := by
  induction h with
  | nil => exact pa_nil
  | cons h ih => exact pa_cons pe_int ih
end L2
namespace L2
open PySem PySem.Spec PyProof.Rows
end L2

namespace Pr
theorem quot (x y : Int) : x = y * Int.fdiv x y + Int.fmod x y := by rw [Int.fmod_def]; omega
theorem mul_ge {a b c : Int} (h : 1 ≤ b) (ha : c ≤ a) (hc : 0 ≤ c) : c ≤ a * b := by
  have := Int.mul_le_mul ha h (by omega) (by omega)
  omega
theorem pow_pos' {p : Int} (hp : 1 ≤ p) : ∀ n : Nat, 1 ≤ p ^ n
  | 0 => by simp
  | n + 1 => by
    rw [Int.pow_succ]
    exact mul_ge hp (pow_pos' hp n) (by omega)
def NoDiv (x d : Int) : Prop := ∀ k, 2 ≤ k → k < d → ¬ k ∣ x
structure Prm (p : Int) : Prop where
  two : 2 ≤ p
  no : ∀ k, 2 ≤ k → k * k ≤ p → ¬ k ∣ p
theorem sq_lt_of {k d : Int} (hk : 0 ≤ k) (hd : 0 ≤ d) (h : k * k < d * d) : k < d := by
  rcases Int.lt_or_le k d with h1 | h1
  · exact h1
  · have := Int.mul_le_mul h1 h1 hd hk
    omega
theorem prm_of {d x : Int} (h2 : 2 ≤ d) (h : NoDiv x d) (hd : d ∣ x) : Prm d := by
  refine ⟨h2, fun k k2 kk hk => h k k2 ?_ (Int.dvd_trans hk hd)⟩
  have := Int.mul_le_mul_of_nonneg_right k2 (show 0 ≤ k by omega)
  omega
theorem prm_left {d x : Int} (h2 : 2 ≤ d) (h : NoDiv x d) (hx : x < d * d) (x1 : 1 < x) : Prm x := by
  refine ⟨by omega, fun k k2 kk hk => h k k2 ?_ hk⟩
  exact sq_lt_of (by omega) (by omega) (by omega)
theorem left_ge {d x : Int} (h : NoDiv x d) (x1 : 1 < x) : d ≤ x := by
  rcases Int.lt_or_le x d with h1 | h1
  · exact absurd (Int.dvd_refl x) (h x (by omega) h1)
  · exact h1
def prodP : List (Int × Int) → Int
  | [] => 1
  | x :: r => x.1 ^ x.2.toNat * prodP r
theorem prodP_app (xs ys : List (Int × Int)) : prodP (xs ++ ys) = prodP xs * prodP ys := by
  induction xs with
  | nil => simp [prodP]
  | cons x r ih => simp only [List.cons_append, prodP, ih, Int.mul_assoc]
theorem prodP_one (p e : Int) : prodP [(p, e)] = p ^ e.toNat := by simp [prodP]
structure Part (x : Int × Int) : Prop where
  prime : Prm x.1
  often : 1 ≤ x.2
structure Told (n : Int) (xs : List (Int × Int)) : Prop where
  all : ∀ x ∈ xs, Part x
  rise : xs.Pairwise fun x y => x.1 < y.1
  prod : prodP xs = n
theorem prodP_pos {xs : List (Int × Int)} (h : ∀ x ∈ xs, Part x) : 1 ≤ prodP xs := by
  induction xs with
  | nil => simp [prodP]
  | cons x r ih =>
    simp only [prodP]
    have h1 := ih fun y hy => h y (.tail _ hy)
    exact mul_ge h1 (pow_pos' (by have := (h x (.head _)).prime.two; omega) _) (by omega)
theorem pow_le_prodP {xs : List (Int × Int)} (h : ∀ x ∈ xs, Part x) {x : Int × Int} (hx : x ∈ xs) : x.1 ^ x.2.toNat ≤ prodP xs := by
  induction xs with
  | nil => exact nomatch hx
  | cons y r ih =>
    simp only [prodP]
    have h1 := prodP_pos fun z hz => h z (.tail _ hz)
    have hy : 1 ≤ y.1 ^ y.2.toNat := pow_pos' (by have := (h y (.head _)).prime.two; omega) _
    rcases List.mem_cons.mp hx with rfl | hx
    · exact mul_ge h1 (Int.le_refl _) (by omega)
    · have h2 := ih (fun z hz => h z (.tail _ hz)) hx
      rw [Int.mul_comm]
      exact mul_ge hy h2 (by have := pow_pos' (show 1 ≤ x.1 by have := (h x (.tail _ hx)).prime.two; omega) x.2.toNat; omega)
theorem two_pow_le {p : Int} (hp : 2 ≤ p) : ∀ n : Nat, (2 : Int) ^ n ≤ p ^ n
  | 0 => by simp
  | n + 1 => by
    rw [Int.pow_succ, Int.pow_succ]
    exact Int.mul_le_mul (two_pow_le hp n) hp (by omega) (by have := pow_pos' (show 1 ≤ p by omega) n; omega)
theorem pow_mono {a b : Nat} (h : a ≤ b) : (2 : Int) ^ a ≤ (2 : Int) ^ b := by
  obtain ⟨c, rfl⟩ := Nat.exists_eq_add_of_le h
  rw [Int.pow_add]
  exact mul_ge (pow_pos' (by omega) c) (Int.le_refl _) (by have := pow_pos' (show (1 : Int) ≤ 2 by omega) a; omega)
theorem often_le {n : Int} {xs : List (Int × Int)} (h : Told n xs) (hn : n ≤ 10 ^ 10) {x : Int × Int} (hx : x ∈ xs) : x.2 ≤ 40 := by
  rcases Int.lt_or_le 40 x.2 with h1 | h1
  · exfalso
    have h2 := pow_le_prodP h.all hx
    have h3 := two_pow_le (h.all x hx).prime.two x.2.toNat
    have h4 := pow_mono (show 40 ≤ x.2.toNat by omega)
    rw [h.prod] at h2
    have : (2 : Int) ^ 40 = 1099511627776 := by decide
    omega
  · exact h1
theorem part_le {n : Int} {xs : List (Int × Int)} (h : Told n xs) {x : Int × Int} (hx : x ∈ xs) : x.1 ≤ n := by
  have h2 := pow_le_prodP h.all hx
  rw [h.prod] at h2
  have h1 := (h.all x hx).often
  obtain ⟨k, hk⟩ : ∃ k, x.2.toNat = k + 1 := ⟨x.2.toNat - 1, by omega⟩
  rw [hk, Int.pow_succ] at h2
  have := mul_ge (pow_pos' (show 1 ≤ x.1 by have := (h.all x hx).prime.two; omega) k) (Int.le_refl x.1) (by have := (h.all x hx).prime.two; omega)
  rw [Int.mul_comm] at this
  omega
structure Out (n left d : Int) (xs : List (Int × Int)) : Prop where
  all : ∀ x ∈ xs, Part x
  rise : xs.Pairwise fun x y => x.1 < y.1
  below : ∀ x ∈ xs, x.1 < d
  prod : prodP xs * left = n
  no : NoDiv left d
  odd : d = 2 ∨ d % 2 = 1
theorem out_start (n : Int) : Out n n 2 [] := ⟨fun _ h => (nomatch h), .nil, fun _ h => (nomatch h), by simp [prodP], fun k h1 h2 => by omega, .inl rfl⟩
theorem out_left {n left d : Int} {xs : List (Int × Int)} (h : Out n left d xs) (l1 : 1 ≤ left) : left ≤ n := by
  have := h.prod
  have := mul_ge (prodP_pos h.all) (Int.le_refl left) (by omega)
  rw [Int.mul_comm] at this
  omega
structure Inn (left₀ d left often : Int) : Prop where
  eq : left₀ = d ^ often.toNat * left
theorem inn_start (left d : Int) : Inn left d left 0 := ⟨by simp⟩
theorem inn_turn {left₀ d left often : Int} (h : Inn left₀ d left often) (o : 0 ≤ often) (hz : Int.fmod left d = 0) : Inn left₀ d (Int.fdiv left d) (often + 1) := by
  have q := quot left d
  rw [hz] at q
  refine ⟨?_⟩
  have e : (often + 1).toNat = often.toNat + 1 := by omega
  rw [e, Int.pow_succ, h.eq, Int.mul_assoc]
  congr 1
  omega
theorem fmod_ne {x d : Int} (h : Int.fmod x d ≠ 0) : ¬ d ∣ x := fun hd => h (Int.fmod_eq_zero_of_dvd hd)
theorem nodiv_next {left₀ d left often : Int} (hi : Inn left₀ d left often) (h2 : 2 ≤ d) (ho : d = 2 ∨ d % 2 = 1) (hn : NoDiv left₀ d) (hz : Int.fmod left d ≠ 0) (d' : Int) (hd : d' = if d = 2 then 3 else d + 2) : NoDiv left d' ∧ (d' = 2 ∨ d' % 2 = 1) ∧ d < d' := by
  have hl : left ∣ left₀ := ⟨d ^ often.toNat, by rw [hi.eq, Int.mul_comm]⟩
  have up : NoDiv left (d + 1) := by
    intro k k2 kd hk
    rcases (show k < d ∨ k = d by omega) with h | h
    · exact hn k k2 h (Int.dvd_trans hk hl)
    · subst h; exact fmod_ne hz hk
  by_cases e : d = 2
  · rw [if_pos e] at hd
    subst hd
    subst e
    exact ⟨up, by omega, by omega⟩
  · rw [if_neg e] at hd
    subst hd
    refine ⟨?_, by omega, by omega⟩
    intro k k2 kd hk
    rcases (show k < d + 1 ∨ k = d + 1 by omega) with h | h
    · exact up k k2 h hk
    · subst h
      refine up 2 (by omega) (by omega) (Int.dvd_trans ?_ hk)
      omega
theorem out_none {n left₀ left d often : Int} {xs : List (Int × Int)} (h : Out n left₀ d xs) (hi : Inn left₀ d left often) (h2 : 2 ≤ d) (o : often = 0) (hz : Int.fmod left d ≠ 0) {d' : Int} (hd : d' = if d = 2 then 3 else d + 2) : Out n left d' xs := by
  obtain ⟨a, b, c⟩ := nodiv_next hi h2 h.odd h.no hz d' hd
  refine ⟨h.all, h.rise, fun x hx => by have := h.below x hx; omega, ?_, a, b⟩
  have e := hi.eq
  subst o
  simp at e
  rw [← e]
  exact h.prod
theorem out_some {n left₀ left d often : Int} {xs : List (Int × Int)} (h : Out n left₀ d xs) (hi : Inn left₀ d left often) (h2 : 2 ≤ d) (o : 0 < often) (hz : Int.fmod left d ≠ 0) {d' : Int} (hd : d' = if d = 2 then 3 else d + 2) : Out n left d' (xs ++ [(d, often)]) := by
  obtain ⟨a, b, c⟩ := nodiv_next hi h2 h.odd h.no hz d' hd
  have dv : d ∣ left₀ := by
    obtain ⟨k, hk⟩ : ∃ k, often.toNat = k + 1 := ⟨often.toNat - 1, by omega⟩
    refine ⟨d ^ k * left, ?_⟩
    rw [hi.eq, hk, Int.pow_succ, Int.mul_comm (d ^ k) d, Int.mul_assoc]
  refine ⟨?_, ?_, ?_, ?_, a, b⟩
  · intro x hx
    rcases List.mem_append.mp hx with hx | hx
    · exact h.all x hx
    · rw [List.mem_singleton.mp hx]
      exact ⟨prm_of h2 h.no dv, by omega⟩
  · refine List.pairwise_append.mpr ⟨h.rise, List.pairwise_singleton _ _, ?_⟩
    intro x hx y hy
    rw [List.mem_singleton.mp hy]
    exact h.below x hx
  · intro x hx
    rcases List.mem_append.mp hx with hx | hx
    · have := h.below x hx; omega
    · rw [List.mem_singleton.mp hx]; exact c
  · rw [prodP_app, prodP_one, Int.mul_assoc, ← hi.eq]
    exact h.prod
theorem told_last {n left d : Int} {xs : List (Int × Int)} (h : Out n left d xs) (h2 : 2 ≤ d) (hx : left < d * d) (l1 : 1 < left) : Told n (xs ++ [(left, 1)]) := by
  refine ⟨?_, ?_, ?_⟩
  · intro x hx'
    rcases List.mem_append.mp hx' with hx' | hx'
    · exact h.all x hx'
    · rw [List.mem_singleton.mp hx']
      exact ⟨prm_left h2 h.no hx l1, by omega⟩
  · refine List.pairwise_append.mpr ⟨h.rise, List.pairwise_singleton _ _, ?_⟩
    intro x hx' y hy
    rw [List.mem_singleton.mp hy]
    have := h.below x hx'
    have := left_ge h.no l1
    show x.1 < left
    omega
  · rw [prodP_app, prodP_one, show (1 : Int).toNat = 1 from rfl, Int.pow_one]
    exact h.prod
theorem told_none {n left d : Int} {xs : List (Int × Int)} (h : Out n left d xs) (l1 : left = 1) : Told n xs := by
  refine ⟨h.all, h.rise, ?_⟩
  have := h.prod
  subst l1
  omega
theorem len_le {xs : List (Int × Int)} (h : ∀ x ∈ xs, Part x) : (2 : Int) ^ xs.length ≤ prodP xs := by
  induction xs with
  | nil => simp [prodP]
  | cons x r ih =>
    have h1 := ih fun y hy => h y (.tail _ hy)
    have hp := (h x (.head _)).prime.two
    have ho := (h x (.head _)).often
    simp only [prodP, List.length_cons]
    rw [Int.pow_succ, Int.mul_comm]
    obtain ⟨k, hk⟩ : ∃ k, x.2.toNat = k + 1 := ⟨x.2.toNat - 1, by omega⟩
    have : 2 ≤ x.1 ^ x.2.toNat := by
      rw [hk, Int.pow_succ, Int.mul_comm]
      exact mul_ge (pow_pos' (by omega) k) hp (by omega)
    exact Int.mul_le_mul this h1 (by have := pow_pos' (show (1 : Int) ≤ 2 by omega) r.length; omega) (by omega)
theorem prm_one_or {p k : Int} (h : Prm p) (k1 : 1 ≤ k) (hk : k ∣ p) : k = 1 ∨ k = p := by
  have p2 := h.two
  obtain ⟨m, hm⟩ := hk
  rcases (show k = 1 ∨ 2 ≤ k by omega) with e | k2
  · exact .inl e
  · have m1 : 1 ≤ m := by
      rcases Int.lt_or_le m 1 with h1 | h1
      · have := Int.mul_le_mul_of_nonneg_left (show m ≤ 0 by omega) (show 0 ≤ k by omega)
        omega
      · exact h1
    rcases (show m = 1 ∨ 2 ≤ m by omega) with e | m2
    · subst e; exact .inr (by omega)
    · exfalso
      rcases Int.le_total k m with hle | hle
      · have := Int.mul_le_mul_of_nonneg_left hle (show 0 ≤ k by omega)
        exact h.no k k2 (by omega) ⟨m, hm⟩
      · have := Int.mul_le_mul_of_nonneg_right hle (show 0 ≤ m by omega)
        exact h.no m m2 (by omega) ⟨k, by rw [hm, Int.mul_comm]⟩
theorem prm_coprime {p x : Int} (h : Prm p) (hx : ¬ p ∣ x) : Nat.Coprime p.natAbs x.natAbs := by
  have p2 := h.two
  have g1 : (Nat.gcd p.natAbs x.natAbs) ∣ p.natAbs := Nat.gcd_dvd_left _ _
  have g2 : (Nat.gcd p.natAbs x.natAbs) ∣ x.natAbs := Nat.gcd_dvd_right _ _
  have g0 : 0 < Nat.gcd p.natAbs x.natAbs := Nat.gcd_pos_of_pos_left _ (by omega)
  show Nat.gcd p.natAbs x.natAbs = 1
  generalize Nat.gcd p.natAbs x.natAbs = g at g0 g1 g2
  have d1 : (g : Int) ∣ p := Int.ofNat_dvd_left.mpr g1
  rcases prm_one_or h (by omega) d1 with e | e
  · omega
  · exfalso
    apply hx
    rw [← e]
    exact Int.ofNat_dvd_left.mpr g2
theorem euclid {p x y : Int} (h : Prm p) (hd : p ∣ x * y) : p ∣ x ∨ p ∣ y := by
  by_cases hx : p ∣ x
  · exact .inl hx
  · right
    have c := prm_coprime h hx
    have d : p.natAbs ∣ x.natAbs * y.natAbs := by
      rw [← Int.natAbs_mul]
      exact Int.natAbs_dvd_natAbs.mpr hd
    exact Int.natAbs_dvd_natAbs.mp (c.dvd_of_dvd_mul_left d)
theorem prm_dvd_prm {p q : Int} (h : Prm p) (k : Prm q) (hd : p ∣ q) : p = q := by
  rcases prm_one_or k (by have := h.two; omega) hd with e | e
  · have := h.two; omega
  · exact e
theorem prm_not_one {p : Int} (h : Prm p) : ¬ p ∣ 1 := fun hd => by
  have := Int.le_of_dvd (by omega) hd
  have := h.two
  omega
theorem prm_dvd_pow {p q : Int} (h : Prm p) : ∀ n : Nat, p ∣ q ^ n → p ∣ q
  | 0, hd => absurd (by simpa using hd) (prm_not_one h)
  | n + 1, hd => by
    rw [Int.pow_succ] at hd
    rcases euclid h hd with e | e
    · exact prm_dvd_pow h n e
    · exact e
theorem prm_in {p : Int} (h : Prm p) {xs : List (Int × Int)} (hx : ∀ x ∈ xs, Part x) (hd : p ∣ prodP xs) : ∃ x ∈ xs, x.1 = p := by
  induction xs with
  | nil => exact absurd hd (prm_not_one h)
  | cons x r ih =>
    simp only [prodP] at hd
    rcases euclid h hd with e | e
    · exact ⟨x, .head _, (prm_dvd_prm h (hx x (.head _)).prime (prm_dvd_pow h _ e)).symm⟩
    · obtain ⟨y, hy, e⟩ := ih (fun y hy => hx y (.tail _ hy)) e
      exact ⟨y, .tail _ hy, e⟩
theorem prm_some : ∀ (n : Nat) (k : Int), 2 ≤ k → k.toNat ≤ n → ∃ q, Prm q ∧ q ∣ k := by
  intro n
  induction n with
  | zero => intro k h1 h2; omega
  | succ n ih =>
    intro k h1 h2
    by_cases h : ∃ j, 2 ≤ j ∧ j * j ≤ k ∧ j ∣ k
    · obtain ⟨j, j2, jj, hj⟩ := h
      have := Int.mul_le_mul_of_nonneg_right j2 (show 0 ≤ j by omega)
      obtain ⟨q, hq, hd⟩ := ih j j2 (by omega)
      exact ⟨q, hq, Int.dvd_trans hd hj⟩
    · exact ⟨k, ⟨h1, fun j j2 jj hj => h ⟨j, j2, jj, hj⟩⟩, Int.dvd_refl k⟩
def coreP : List (Int × Int) → Int
  | [] => 1
  | x :: r => (if x.2 % 2 = 1 then x.1 else 1) * coreP r
def rootP : List (Int × Int) → Int
  | [] => 1
  | x :: r => x.1 ^ (x.2 / 2).toNat * rootP r
theorem coreP_app (xs ys : List (Int × Int)) : coreP (xs ++ ys) = coreP xs * coreP ys := by
  induction xs with
  | nil => simp [coreP]
  | cons x r ih => simp only [List.cons_append, coreP, ih, Int.mul_assoc]
theorem rootP_app (xs ys : List (Int × Int)) : rootP (xs ++ ys) = rootP xs * rootP ys := by
  induction xs with
  | nil => simp [rootP]
  | cons x r ih => simp only [List.cons_append, rootP, ih, Int.mul_assoc]
theorem half_pow {p e : Int} (he : 0 ≤ e) : (if e % 2 = 1 then p else 1) * (p ^ (e / 2).toNat * p ^ (e / 2).toNat) = p ^ e.toNat := by
  rw [← Int.pow_add]
  split
  · rw [Int.mul_comm, ← Int.pow_succ]
    congr 1
    omega
  · rw [Int.one_mul]
    congr 1
    omega
theorem core_root {xs : List (Int × Int)} (h : ∀ x ∈ xs, Part x) : coreP xs * rootP xs * rootP xs = prodP xs := by
  induction xs with
  | nil => simp [coreP, rootP, prodP]
  | cons x r ih =>
    have h1 := ih fun y hy => h y (.tail _ hy)
    simp only [coreP, rootP, prodP]
    rw [← h1, ← half_pow (p := x.1) (show 0 ≤ x.2 by have := (h x (.head _)).often; omega)]
    grind
theorem rootP_pos {xs : List (Int × Int)} (h : ∀ x ∈ xs, Part x) : 1 ≤ rootP xs := by
  induction xs with
  | nil => simp [rootP]
  | cons x r ih =>
    simp only [rootP]
    exact mul_ge (ih fun y hy => h y (.tail _ hy)) (pow_pos' (by have := (h x (.head _)).prime.two; omega) _) (by omega)
theorem core_in {q : Int} (h : Prm q) {xs : List (Int × Int)} (hx : ∀ x ∈ xs, Part x) (hd : q ∣ coreP xs) : ∃ x ∈ xs, x.1 = q := by
  induction xs with
  | nil => exact absurd hd (prm_not_one h)
  | cons x r ih =>
    simp only [coreP] at hd
    rcases euclid h hd with e | e
    · split at e
      · exact ⟨x, .head _, (prm_dvd_prm h (hx x (.head _)).prime e).symm⟩
      · exact absurd e (prm_not_one h)
    · obtain ⟨y, hy, e⟩ := ih (fun y hy => hx y (.tail _ hy)) e
      exact ⟨y, .tail _ hy, e⟩
theorem core_no_sq {q : Int} (h : Prm q) {xs : List (Int × Int)} (hx : ∀ x ∈ xs, Part x) (hr : xs.Pairwise fun x y => x.1 < y.1) : ¬ q * q ∣ coreP xs := by
  induction xs with
  | nil =>
    intro hd
    exact prm_not_one h (Int.dvd_trans ⟨q, rfl⟩ hd)
  | cons x r ih =>
    intro hd
    have hr' := List.pairwise_cons.mp hr
    have hx' := fun y hy => hx y (List.Mem.tail _ hy)
    simp only [coreP] at hd
    have hp := (hx x (.head _)).prime
    split at hd
    · by_cases e : q = x.1
      · subst e
        have h1 : x.1 ∣ coreP r := by
          obtain ⟨m, hm⟩ := hd
          rw [Int.mul_assoc] at hm
          have := Int.eq_of_mul_eq_mul_left (by have := hp.two; omega) hm
          exact ⟨m, this⟩
        obtain ⟨y, hy, e⟩ := core_in h hx' h1
        have := hr'.1 y hy
        omega
      · have c : Nat.Coprime q.natAbs x.1.natAbs := prm_coprime h fun hd' => e (prm_dvd_prm h hp hd')
        have c2 : Nat.Coprime (q * q).natAbs x.1.natAbs := by rw [Int.natAbs_mul]; exact c.mul_left c
        have d : (q * q).natAbs ∣ x.1.natAbs * (coreP r).natAbs := by
          rw [← Int.natAbs_mul]
          exact Int.natAbs_dvd_natAbs.mpr hd
        exact ih hx' hr'.2 (Int.natAbs_dvd_natAbs.mp (c2.dvd_of_dvd_mul_left d))
    · rw [Int.one_mul] at hd
      exact ih hx' hr'.2 hd
theorem told_cons_dvd {x : Int × Int} {r : List (Int × Int)} (hx : Part x) : x.1 ∣ prodP (x :: r) := by
  obtain ⟨k, hk⟩ : ∃ k, x.2.toNat = k + 1 := ⟨x.2.toNat - 1, by have := hx.often; omega⟩
  refine ⟨x.1 ^ k * prodP r, ?_⟩
  simp only [prodP]
  rw [hk, Int.pow_succ, Int.mul_comm (x.1 ^ k), Int.mul_assoc]
end Pr

namespace Jc
def S (f : Nat → Nat) : Nat → Nat
  | 0 => 0
  | m + 1 => S f m + f (m + 1)
theorem S_add (f g : Nat → Nat) : ∀ m, S (fun k => f k + g k) m = S f m + S g m
  | 0 => rfl
  | m + 1 => by simp only [S]; rw [S_add f g m]; omega
theorem S_congr {f g : Nat → Nat} : ∀ {m}, (∀ k, 1 ≤ k → k ≤ m → f k = g k) → S f m = S g m
  | 0, _ => rfl
  | m + 1, h => by
    simp only [S]
    rw [S_congr (m := m) fun k h1 h2 => h k h1 (by omega), h (m + 1) (by omega) (Nat.le_refl _)]
theorem S_const (c : Nat) : ∀ m, S (fun _ => c) m = m * c
  | 0 => by simp [S]
  | m + 1 => by simp only [S]; rw [S_const c m, Nat.succ_mul]
theorem S_mul (c : Nat) (f : Nat → Nat) : ∀ m, S (fun k => c * f k) m = c * S f m
  | 0 => by simp [S]
  | m + 1 => by simp only [S]; rw [S_mul c f m, Nat.mul_add]
theorem S_swap (f : Nat → Nat → Nat) (p : Nat) : ∀ m, S (fun k => S (fun j => f k j) p) m = S (fun j => S (fun k => f k j) m) p
  | 0 => by
    simp only [S]
    rw [S_const 0 p, Nat.mul_zero]
  | m + 1 => by
    simp only [S]
    rw [S_swap f p m, ← S_add]
theorem S_mod {f g : Nat → Nat} : ∀ {m}, (∀ k, 1 ≤ k → k ≤ m → f k % 2 = g k % 2) → S f m % 2 = S g m % 2
  | 0, _ => rfl
  | m + 1, h => by
    simp only [S]
    have h1 := S_mod (m := m) fun k h1 h2 => h k h1 (by omega)
    have h2 := h (m + 1) (by omega) (Nat.le_refl _)
    omega
theorem S_list (f : Nat → Nat) : ∀ m, S f m = ((List.range' 1 m).map f).sum
  | 0 => rfl
  | m + 1 => by
    simp only [S]
    rw [S_list f m, List.range'_concat, List.map_append, List.sum_append_nat]
    simp [Nat.add_comm]
theorem perm_of {l1 : List Nat} : ∀ {l2 : List Nat}, l1.Nodup → (∀ x ∈ l1, x ∈ l2) → l2.length ≤ l1.length → l1.Perm l2 := by
  induction l1 with
  | nil =>
    intro l2 _ _ h
    have : l2 = [] := List.eq_nil_of_length_eq_zero (by simpa using h)
    subst this
    exact .nil
  | cons x t ih =>
    intro l2 nd sub len
    have hx := sub x (List.mem_cons_self)
    have p := List.perm_cons_erase hx
    have nd' := List.nodup_cons.mp nd
    have q : t.Perm (l2.erase x) := ih nd'.2 (fun y hy => by
      have h1 := sub y (List.mem_cons_of_mem _ hy)
      have ne : y ≠ x := fun e => nd'.1 (e ▸ hy)
      exact (List.mem_erase_of_ne ne).mpr h1) (by
      have h1 := List.length_erase_of_mem hx
      have h2 : (x :: t).length = t.length + 1 := rfl
      omega)
    exact (List.Perm.cons x q).trans p.symm
theorem S_perm (f p : Nat → Nat) {m : Nat} (hin : ∀ k, 1 ≤ k → k ≤ m → 1 ≤ p k ∧ p k ≤ m) (inj : ∀ k l, 1 ≤ k → k ≤ m → 1 ≤ l → l ≤ m → p k = p l → k = l) : S (fun k => f (p k)) m = S f m := by
  rw [S_list, S_list]
  have e : (List.range' 1 m).map (fun k => f (p k)) = ((List.range' 1 m).map p).map f := by rw [List.map_map]; rfl
  rw [e]
  refine List.Perm.sum_nat (List.Perm.map f (perm_of ?_ ?_ ?_))
  · refine List.pairwise_map.mpr ?_
    have h0 : (List.range' 1 m).Nodup := List.nodup_range'
    refine List.Pairwise.imp_of_mem ?_ h0
    intro a b ha hb ne he
    have ha' := List.mem_range'_1.mp ha
    have hb' := List.mem_range'_1.mp hb
    exact ne (inj a b ha'.1 (by omega) hb'.1 (by omega) he)
  · intro x hx
    obtain ⟨k, hk, rfl⟩ := List.mem_map.mp hx
    have hk' := List.mem_range'_1.mp hk
    have := hin k hk'.1 (by omega)
    exact List.mem_range'_1.mpr ⟨this.1, by omega⟩
  · rw [List.length_map]
    exact Nat.le_refl _

def e (a n k : Nat) : Nat := if n < 2 * (a * k % n) then 1 else 0
def pi (a n k : Nat) : Nat := if n < 2 * (a * k % n) then n - a * k % n else a * k % n
def mu (a n : Nat) : Nat := S (e a n) (n / 2)
theorem e_mod (a n k : Nat) : e (a % n) n k = e a n k := by
  unfold e
  rw [← Nat.mod_mul_mod, Nat.mod_mod] <;> simp [Nat.mul_mod]
theorem mu_mod (a n : Nat) : mu (a % n) n = mu a n := by
  unfold mu
  exact S_congr fun k _ _ => e_mod a n k
structure Ok (a n : Nat) : Prop where
  odd : n % 2 = 1
  cop : Nat.gcd a n = 1
theorem dvd_of_mul {a n k : Nat} (c : Nat.gcd a n = 1) (h : n ∣ a * k) : n ∣ k := by
  have c' : Nat.Coprime n a := by rw [Nat.coprime_iff_gcd_eq_one, Nat.gcd_comm]; exact c
  exact c'.dvd_of_dvd_mul_left h
theorem rest_pos {a n k : Nat} (o : Ok a n) (k1 : 1 ≤ k) (k2 : k ≤ n / 2) : 0 < a * k % n := by
  rcases Nat.eq_zero_or_pos (a * k % n) with h | h
  · have := dvd_of_mul o.cop (Nat.dvd_of_mod_eq_zero h)
    have := Nat.le_of_dvd (by omega) this
    have := o.odd
    omega
  · exact h
theorem pi_in {a n k : Nat} (o : Ok a n) (k1 : 1 ≤ k) (k2 : k ≤ n / 2) : 1 ≤ pi a n k ∧ pi a n k ≤ n / 2 := by
  have h := rest_pos o k1 k2
  have h2 : a * k % n < n := Nat.mod_lt _ (by have := o.odd; omega)
  have := o.odd
  unfold pi
  split <;> omega
theorem mod_eq_sub {x y n : Nat} (h : x % n = y % n) : n ∣ x - y := by
  rcases Nat.le_total y x with l | l
  · exact (Nat.dvd_iff_mod_eq_zero).mpr (Nat.sub_mod_eq_zero_of_mod_eq h)
  · rw [Nat.sub_eq_zero_of_le l]; exact Nat.dvd_zero n
theorem pi_inj {a n k l : Nat} (o : Ok a n) (k1 : 1 ≤ k) (k2 : k ≤ n / 2) (l1 : 1 ≤ l) (l2 : l ≤ n / 2) (h : pi a n k = pi a n l) : k = l := by
  have n0 : 0 < n := by have := o.odd; omega
  have a1 : a * k % n < n := Nat.mod_lt _ n0
  have a2 : a * l % n < n := Nat.mod_lt _ n0
  have no := o.odd
  have same : a * k % n = a * l % n → k = l := fun q => by
    rcases Nat.le_total l k with z | z
    · have d := mod_eq_sub q
      rw [← Nat.mul_sub] at d
      have d2 := dvd_of_mul o.cop d
      rcases Nat.eq_zero_or_pos (k - l) with w | w
      · omega
      · have := Nat.le_of_dvd w d2
        omega
    · have d := mod_eq_sub q.symm
      rw [← Nat.mul_sub] at d
      have d2 := dvd_of_mul o.cop d
      rcases Nat.eq_zero_or_pos (l - k) with w | w
      · omega
      · have := Nat.le_of_dvd w d2
        omega
  have other : a * k % n + a * l % n = n → False := fun q => by
    have d : n ∣ a * (k + l) := by
      rw [Nat.mul_add]
      refine Nat.dvd_of_mod_eq_zero ?_
      rw [Nat.add_mod, q, Nat.mod_self]
    have := Nat.le_of_dvd (by omega) (dvd_of_mul o.cop d)
    omega
  unfold pi at h
  split at h <;> split at h
  · exact same (by omega)
  · exact (other (by omega)).elim
  · exact (other (by omega)).elim
  · exact same h
theorem e_le (a n k : Nat) : e a n k ≤ 1 := by unfold e; split <;> omega
theorem e_neg {a n k : Nat} (no : n % 2 = 1) (hr : 0 < a * k % n) (r : Nat) (hr2 : (r + a * k) % n = 0) : (if n < 2 * (r % n) then 1 else 0) = 1 - e a n k := by
  have n0 : 0 < n := by omega
  have h1 : a * k % n < n := Nat.mod_lt _ n0
  have h2 : r % n < n := Nat.mod_lt _ n0
  rw [Nat.add_mod] at hr2
  have h3 : r % n + a * k % n = n := by
    have d := Nat.dvd_of_mod_eq_zero hr2
    obtain ⟨q, hq⟩ := d
    have : q = 1 := by
      rcases q with _ | _ | q
      · omega
      · rfl
      · have : n * (q + 1 + 1) = n * q + 2 * n := by rw [Nat.mul_add, Nat.mul_add]; omega
        have := Nat.zero_le (n * q)
        omega
    subst this
    omega
  unfold e
  split <;> split <;> omega
theorem e_mul {a b n k : Nat} (o : Ok a n) (ob : Ok b n) (k1 : 1 ≤ k) (k2 : k ≤ n / 2) : e (a * b) n k % 2 = (e b n k + e a n (pi b n k)) % 2 := by
  have no := o.odd
  have n0 : 0 < n := by omega
  have pin := pi_in ob k1 k2
  have hb : b * k % n < n := Nat.mod_lt _ n0
  have key : a * b * k % n = a * (b * k % n) % n := by rw [Nat.mul_assoc, Nat.mul_mod, Nat.mul_mod a (b * k % n), Nat.mod_mod]
  by_cases c : n < 2 * (b * k % n)
  · have e1 : e b n k = 1 := by unfold e; rw [if_pos c]
    have e2 : pi b n k = n - b * k % n := by unfold pi; rw [if_pos c]
    have r := rest_pos o pin.1 pin.2
    have z : (a * (b * k % n) + a * pi b n k) % n = 0 := by
      rw [← Nat.mul_add, e2, Nat.add_sub_cancel' (Nat.le_of_lt hb), Nat.mul_mod_left]
    have := e_neg no r (a * (b * k % n)) z
    have e3 : e (a * b) n k = 1 - e a n (pi b n k) := by
      rw [← this]
      unfold e
      rw [key]
    have := e_le a n (pi b n k)
    omega
  · have e1 : e b n k = 0 := by unfold e; rw [if_neg c]
    have e2 : pi b n k = b * k % n := by unfold pi; rw [if_neg c]
    have e3 : e (a * b) n k = e a n (pi b n k) := by
      unfold e
      rw [key, e2]
    omega
theorem mu_mul {a b n : Nat} (o : Ok a n) (ob : Ok b n) : mu (a * b) n % 2 = (mu a n + mu b n) % 2 := by
  unfold mu
  rw [S_mod (g := fun k => e b n k + e a n (pi b n k)) fun k h1 h2 => e_mul o ob h1 h2, S_add, S_perm (e a n) (pi b n) (fun k h1 h2 => pi_in ob h1 h2) fun k l h1 h2 h3 h4 h => pi_inj ob h1 h2 h3 h4 h, Nat.add_comm]
theorem mu_one {n : Nat} (no : n % 2 = 1) : mu 1 n = 0 := by
  unfold mu
  rw [S_congr (g := fun _ => 0), S_const, Nat.mul_zero]
  intro k k1 k2
  unfold e
  rw [Nat.one_mul, Nat.mod_eq_of_lt (by omega), if_neg (by omega)]
theorem mu_neg {n : Nat} (no : n % 2 = 1) : mu (n - 1) n = n / 2 := by
  unfold mu
  rw [S_congr (g := fun _ => 1), S_const, Nat.mul_one]
  intro k k1 k2
  unfold e
  have h : (n - 1) * k % n = n - k := by
    have h1 : (n - 1) * k = n - k + n * (k - 1) := by
      rw [Nat.sub_mul, Nat.one_mul, Nat.mul_sub, Nat.mul_one]
      have : n ≤ n * k := Nat.le_mul_of_pos_right n (by omega)
      omega
    rw [h1, Nat.add_mul_mod_self_left, Nat.mod_eq_of_lt (by omega)]
  rw [h, if_pos (by omega)]
theorem S_count (n x : Nat) (n0 : 0 < n) : ∀ m, S (fun j => if j * n ≤ x then 1 else 0) m = min m (x / n)
  | 0 => by simp [S]
  | m + 1 => by
    simp only [S]
    rw [S_count n x n0 m]
    have h : (m + 1) * n ≤ x ↔ m + 1 ≤ x / n := (Nat.le_div_iff_mul_le n0).symm
    split
    · next c =>
      have := h.mp c
      omega
    · next c =>
      have : ¬ m + 1 ≤ x / n := fun z => c (h.mpr z)
      omega
theorem mu_two {n : Nat} (no : n % 2 = 1) : mu 2 n = n / 2 - n / 4 := by
  unfold mu
  have h : S (fun k => (if k * 4 ≤ n then 1 else 0) + e 2 n k) (n / 2) = S (fun _ => 1) (n / 2) := S_congr fun k k1 k2 => by
    unfold e
    rw [Nat.mod_eq_of_lt (by omega)]
    split <;> split <;> omega
  rw [S_add, S_count 4 n (by decide), S_const] at h
  omega
theorem mu_floor {a n : Nat} (o : Ok a n) (ao : a % 2 = 1) : mu a n % 2 = S (fun k => a * k / n) (n / 2) % 2 := by
  have no := o.odd
  have n0 : 0 < n := by omega
  have h1 : S (fun k => a * k) (n / 2) = S (fun k => n * (a * k / n) + a * k % n) (n / 2) := S_congr fun k _ _ => (Nat.div_add_mod _ _).symm
  rw [S_add, S_mul, S_mul] at h1
  have h2 : S (fun k => a * k % n) (n / 2) % 2 = S (fun k => pi a n k + e a n k) (n / 2) % 2 := S_mod fun k k1 k2 => by
    have : a * k % n < n := Nat.mod_lt _ n0
    unfold pi e
    split <;> omega
  rw [S_add, S_perm (fun k => k) (pi a n) (fun k h1 h2 => pi_in o h1 h2) fun k l h1 h2 h3 h4 h => pi_inj o h1 h2 h3 h4 h] at h2
  have h3 : S (e a n) (n / 2) = mu a n := rfl
  rw [h3] at h2
  have m1 : a * S (fun k => k) (n / 2) % 2 = S (fun k => k) (n / 2) % 2 := by rw [Nat.mul_mod, ao, Nat.one_mul, Nat.mod_mod]
  have m2 : n * S (fun k => a * k / n) (n / 2) % 2 = S (fun k => a * k / n) (n / 2) % 2 := by rw [Nat.mul_mod, no, Nat.one_mul, Nat.mod_mod]
  omega
theorem lattice {a n : Nat} (ao : a % 2 = 1) (no : n % 2 = 1) (c : Nat.gcd a n = 1) : S (fun k => a * k / n) (n / 2) + S (fun j => n * j / a) (a / 2) = (n / 2) * (a / 2) := by
  have n0 : 0 < n := by omega
  have a0 : 0 < a := by omega
  have half : ∀ {a n k : Nat}, a % 2 = 1 → n % 2 = 1 → k ≤ n / 2 → a * k / n ≤ a / 2 := fun {a n k} ao no h => by
    have n0 : 0 < n := by omega
    have h1 : a * k ≤ a * (n / 2) := Nat.mul_le_mul_left a h
    have h2 : 2 * (a * (n / 2)) = a * (n - 1) := by
      rw [← Nat.mul_assoc, Nat.mul_comm 2 a, Nat.mul_assoc]
      congr 1
      omega
    have h3 : a * (n - 1) < a * n := Nat.mul_lt_mul_of_pos_left (by omega) (by omega)
    have h4 : a * k / n * n ≤ a * k := Nat.div_mul_le_self _ _
    rcases Nat.lt_or_ge (a / 2) (a * k / n) with z | z
    · have h5 : (a / 2 + 1) * n ≤ a * k / n * n := Nat.mul_le_mul_right n z
      have h6 : 2 * ((a / 2 + 1) * n) = (a + 1) * n := by
        rw [← Nat.mul_assoc]
        congr 1
        omega
      have h7 : (a + 1) * n = a * n + n := by rw [Nat.add_mul, Nat.one_mul]
      omega
    · exact z
  have e1 : S (fun k => a * k / n) (n / 2) = S (fun k => S (fun j => if j * n ≤ a * k then 1 else 0) (a / 2)) (n / 2) := S_congr fun k k1 k2 => by
    rw [S_count n (a * k) n0]
    have := half ao no k2
    omega
  have e2 : S (fun j => n * j / a) (a / 2) = S (fun j => S (fun k => if k * a ≤ n * j then 1 else 0) (n / 2)) (a / 2) := S_congr fun j j1 j2 => by
    rw [S_count a (n * j) a0]
    have := half no ao j2
    omega
  rw [e1, e2, S_swap (fun j k => if k * a ≤ n * j then 1 else 0), ← S_add]
  rw [S_congr (g := fun _ => a / 2), S_const]
  intro k k1 k2
  rw [← S_add, S_congr (g := fun _ => 1), S_const, Nat.mul_one]
  intro j j1 j2
  have ne : j * n ≠ a * k := fun z => by
    have d : n ∣ a * k := ⟨j, by rw [← z, Nat.mul_comm]⟩
    have := Nat.le_of_dvd (by omega) (dvd_of_mul c d)
    omega
  have c1 : k * a = a * k := Nat.mul_comm _ _
  have c2 : n * j = j * n := Nat.mul_comm _ _
  rw [c1, c2]
  split <;> split <;> omega
theorem mu_turn {a n : Nat} (ao : a % 2 = 1) (no : n % 2 = 1) (c : Nat.gcd a n = 1) : (mu a n + mu n a) % 2 = (n / 2) * (a / 2) % 2 := by
  have h1 := mu_floor ⟨no, c⟩ ao
  have h2 := mu_floor (a := n) (n := a) ⟨ao, by rw [Nat.gcd_comm]; exact c⟩ no
  have h3 := lattice ao no c
  omega

def sg (k : Nat) : Int := if k % 2 = 0 then 1 else -1
theorem sg_add (k l : Nat) : sg (k + l) = sg k * sg l := by
  unfold sg
  split <;> split <;> split <;> omega
theorem sg_mod {k l : Nat} (h : k % 2 = l % 2) : sg k = sg l := by unfold sg; rw [h]
theorem sg_sq (k : Nat) : sg k * sg k = 1 := by unfold sg; split <;> rfl
theorem sg_or (k : Nat) : sg k = 1 ∨ sg k = -1 := by unfold sg; split <;> simp
def jac (a n : Nat) : Int := if Nat.gcd a n = 1 then sg (mu a n) else 0
theorem jac_cop {a n : Nat} (h : Nat.gcd a n = 1) : jac a n = sg (mu a n) := if_pos h
theorem jac_not {a n : Nat} (h : Nat.gcd a n ≠ 1) : jac a n = 0 := if_neg h
theorem gcd_mod (a n : Nat) : Nat.gcd (a % n) n = Nat.gcd a n := by rw [← Nat.gcd_rec, Nat.gcd_comm]
theorem jac_mod (a n : Nat) : jac (a % n) n = jac a n := by
  by_cases c : Nat.gcd a n = 1
  · rw [jac_cop c, jac_cop ((gcd_mod a n).trans c), mu_mod]
  · rw [jac_not c, jac_not fun z => c ((gcd_mod a n).symm.trans z)]
theorem jac_mul {n : Nat} (no : n % 2 = 1) (a b : Nat) : jac (a * b) n = jac a n * jac b n := by
  by_cases c : Nat.gcd (a * b) n = 1
  · obtain ⟨c1, c2⟩ := Nat.coprime_mul_iff_left.mp (Nat.coprime_iff_gcd_eq_one.mpr c)
    have d1 := Nat.coprime_iff_gcd_eq_one.mp c1
    have d2 := Nat.coprime_iff_gcd_eq_one.mp c2
    rw [jac_cop c, jac_cop d1, jac_cop d2, ← sg_add]
    exact sg_mod (mu_mul ⟨no, d1⟩ ⟨no, d2⟩)
  · rw [jac_not c]
    by_cases d1 : Nat.gcd a n = 1
    · by_cases d2 : Nat.gcd b n = 1
      · exact absurd (Nat.coprime_iff_gcd_eq_one.mp (Nat.Coprime.mul_left (Nat.coprime_iff_gcd_eq_one.mpr d1) (Nat.coprime_iff_gcd_eq_one.mpr d2))) c
      · rw [jac_not d2, Int.mul_zero]
    · rw [jac_not d1, Int.zero_mul]
theorem jac_one {n : Nat} (no : n % 2 = 1) : jac 1 n = 1 := by
  rw [jac_cop (Nat.gcd_one_left n), mu_one no]
  rfl
theorem jac_by1 (a : Nat) : jac a 1 = 1 := by
  rw [jac_cop (Nat.gcd_one_right a)]
  rfl
theorem jac_zero {n : Nat} (h : n ≠ 1) : jac 0 n = 0 := jac_not (by rw [Nat.gcd_zero_left]; exact h)
theorem jac_or (a n : Nat) : jac a n = 1 ∨ jac a n = 0 ∨ jac a n = -1 := by
  by_cases c : Nat.gcd a n = 1
  · rw [jac_cop c]
    rcases sg_or (mu a n) with h | h <;> rw [h] <;> simp
  · rw [jac_not c]
    simp
theorem jac_neg {n : Nat} (no : n % 2 = 1) : jac (n - 1) n = if n % 4 = 1 then 1 else -1 := by
  have c : Nat.gcd (n - 1) n = 1 := by
    have h := Nat.gcd_self_add_right (n - 1) 1
    rw [show n - 1 + 1 = n by omega, Nat.gcd_one_right] at h
    exact h
  rw [jac_cop c, mu_neg no]
  unfold sg
  split <;> split <;> omega
def two (n : Nat) : Int := if n % 8 = 3 ∨ n % 8 = 5 then -1 else 1
theorem jac_two {n : Nat} (no : n % 2 = 1) : jac 2 n = two n := by
  have c : Nat.gcd 2 n = 1 := by
    rw [Nat.gcd_rec, no]; rfl
  rw [jac_cop c, mu_two no]
  unfold sg two
  split <;> split <;> omega
def turn (a n : Nat) : Int := if a % 4 = 3 ∧ n % 4 = 3 then -1 else 1
theorem half_mul (a n : Nat) (ao : a % 2 = 1) (no : n % 2 = 1) : sg ((n / 2) * (a / 2)) = turn a n := by
  have h : (n / 2) * (a / 2) % 2 = (n / 2 % 2) * (a / 2 % 2) % 2 := by rw [Nat.mul_mod]
  unfold sg turn
  rw [h]
  have h1 : n / 2 % 2 = 0 ∨ n / 2 % 2 = 1 := by omega
  have h2 : a / 2 % 2 = 0 ∨ a / 2 % 2 = 1 := by omega
  rcases h1 with h1 | h1 <;> rcases h2 with h2 | h2 <;> rw [h1, h2] <;> simp <;> omega
theorem jac_turn {a n : Nat} (ao : a % 2 = 1) (no : n % 2 = 1) : jac a n = turn a n * jac n a := by
  by_cases c : Nat.gcd a n = 1
  · have c' : Nat.gcd n a = 1 := by rw [Nat.gcd_comm]; exact c
    rw [jac_cop c, jac_cop c', ← half_mul a n ao no]
    have h := sg_mod (mu_turn ao no c)
    rw [sg_add] at h
    rw [← h, Int.mul_assoc, sg_sq, Int.mul_one]
  · rw [jac_not c, jac_not (by rw [Nat.gcd_comm]; exact c), Int.mul_zero]
theorem jac_step {b o k : Nat} (bo : b % 2 = 1) (oo : o % 2 = 1) : jac (2 ^ k * o) b = (if k % 2 = 1 then two b else 1) * turn o b * jac (b % o) o := by
  have pw : ∀ k, jac (2 ^ k) b = if k % 2 = 1 then two b else 1 := by
    intro k
    induction k with
    | zero => rw [Nat.pow_zero, jac_one bo]; rfl
    | succ k ih =>
      rw [Nat.pow_succ, jac_mul bo, ih, jac_two bo]
      have t : two b * two b = 1 := by unfold two; split <;> rfl
      by_cases h : k % 2 = 1
      · rw [if_pos h, if_neg (by omega), t]
      · rw [if_neg h, if_pos (by omega), Int.one_mul]
  rw [jac_mul bo, pw, jac_mod, Int.mul_assoc, ← jac_turn oo bo]
end Jc

namespace Jc
@[irreducible] def J (x n : Int) : Int := jac (x % n).toNat n.toNat
theorem J_eq (x n : Int) : J x n = jac (x % n).toNat n.toNat := by unfold J; rfl
theorem J_mod {x y n : Int} (h : x % n = y % n) : J x n = J y n := by rw [J_eq, J_eq, h]
theorem J_nat {n : Int} (n0 : 0 < n) {x : Int} (x0 : 0 ≤ x) : J x n = jac x.toNat n.toNat := by
  rw [J_eq, Int.toNat_emod x0 (Int.le_of_lt n0), jac_mod]
theorem J_mul {n : Int} (n0 : 0 < n) (no : n % 2 = 1) (x y : Int) : J (x * y) n = J x n * J y n := by
  have hx := Int.emod_nonneg x (show n ≠ 0 by omega)
  have hy := Int.emod_nonneg y (show n ≠ 0 by omega)
  have e : J (x * y) n = J ((x % n) * (y % n)) n := J_mod (by rw [Int.mul_emod])
  rw [e, J_nat n0 (Int.mul_nonneg hx hy), Int.toNat_mul hx hy, jac_mul (by omega), J_eq, J_eq]
theorem J_one {n : Int} (n0 : 0 < n) (no : n % 2 = 1) : J 1 n = 1 := by
  rw [J_nat n0 (by decide)]
  exact jac_one (by omega)
theorem J_by1 (x : Int) : J x 1 = 1 := by
  rw [J_eq]
  exact jac_by1 _
theorem J_zero {n : Int} (n0 : 0 < n) (h : n ≠ 1) : J 0 n = 0 := by
  rw [J_nat n0 (by decide)]
  exact jac_zero (by omega)
theorem J_or (x n : Int) : J x n = 1 ∨ J x n = 0 ∨ J x n = -1 := by
  rw [J_eq]
  exact jac_or _ _
theorem J_neg {n : Int} (n0 : 0 < n) (no : n % 2 = 1) : J (-1) n = if n % 4 = 1 then 1 else -1 := by
  have e : J (-1) n = J (n - 1) n := J_mod (by
    have : n - 1 = -1 + n := by omega
    rw [this, Int.add_emod_right])
  rw [e, J_nat n0 (by omega), show (n - 1).toNat = n.toNat - 1 by omega, jac_neg (by omega)]
  split <;> split <;> omega
def twoI (n : Int) : Int := if n % 8 = 3 ∨ n % 8 = 5 then -1 else 1
theorem J_two {n : Int} (n0 : 0 < n) (no : n % 2 = 1) : J 2 n = twoI n := by
  rw [J_nat n0 (by decide), show (2 : Int).toNat = 2 from rfl, jac_two (by omega)]
  unfold two twoI
  split <;> split <;> omega
def turnI (a n : Int) : Int := if a % 4 = 3 ∧ n % 4 = 3 then -1 else 1
theorem turn_eq {a n : Int} (a0 : 0 < a) (n0 : 0 < n) : turn a.toNat n.toNat = turnI a n := by
  unfold turn turnI
  split <;> split <;> omega
theorem two_eq {n : Int} (n0 : 0 < n) : two n.toNat = twoI n := by
  unfold two twoI
  split <;> split <;> omega
theorem J_turn {a n : Int} (a0 : 0 < a) (ao : a % 2 = 1) (n0 : 0 < n) (no : n % 2 = 1) : J a n = turnI a n * J n a := by
  rw [J_nat n0 (Int.le_of_lt a0), J_nat a0 (Int.le_of_lt n0), jac_turn (by omega) (by omega), turn_eq a0 n0]
def GG (a b : Int) : Nat := Nat.gcd (a % b).toNat b.toNat
theorem J_cop {x n : Int} (h : GG x n = 1) : J x n * J x n = 1 := by
  have h' : Nat.gcd (x % n).toNat n.toNat = 1 := h
  rw [J_eq, jac_cop h', sg_sq]
theorem J_step {b l o : Int} (b0 : 0 < b) (bo : b % 2 = 1) (l0 : 0 < l) (lo : l % 2 = 1) (o0 : 0 ≤ o) : J (2 ^ o.toNat * l) b = (if o % 2 = 1 then twoI b else 1) * turnI l b * J (b % l) l := by
  have p : 0 < (2 : Int) ^ o.toNat * l := Int.mul_pos (Int.pow_pos (by decide)) l0
  have e : ((2 : Int) ^ o.toNat * l).toNat = 2 ^ o.toNat * l.toNat := by
    rw [Int.toNat_mul (Int.le_of_lt (Int.pow_pos (by decide))) (Int.le_of_lt l0)]
    congr 1
  rw [J_nat b0 (Int.le_of_lt p), e, jac_step (by omega) (by omega), J_nat l0 (Int.emod_nonneg _ (by omega)), Int.toNat_emod (Int.le_of_lt b0) (Int.le_of_lt l0), turn_eq l0 b0, two_eq b0]
  have : (o.toNat % 2 = 1) = (o % 2 = 1) := by
    apply propext
    omega
  simp only [this]
end Jc

namespace Jc
structure Dec (x p l o : Int) : Prop where
  eq : x = p ^ o.toNat * l
  o0 : 0 ≤ o
  nd : ¬ p ∣ l
theorem dec_aux {p l l' : Int} (p0 : p ≠ 0) (h : ¬ p ∣ l) (h' : ¬ p ∣ l') : ∀ k m : Nat, p ^ k * l = p ^ m * l' → k = m ∧ l = l'
  | 0, 0, e => by
    rw [Int.pow_zero, Int.one_mul, Int.one_mul] at e
    exact ⟨rfl, e⟩
  | 0, m + 1, e => by
    rw [Int.pow_zero, Int.one_mul, Int.pow_succ, Int.mul_comm (p ^ m) p, Int.mul_assoc] at e
    exact absurd ⟨_, e⟩ h
  | k + 1, 0, e => by
    rw [Int.pow_zero, Int.one_mul, Int.pow_succ, Int.mul_comm (p ^ k) p, Int.mul_assoc] at e
    exact absurd ⟨_, e.symm⟩ h'
  | k + 1, m + 1, e => by
    rw [Int.pow_succ, Int.pow_succ, Int.mul_comm (p ^ k) p, Int.mul_comm (p ^ m) p, Int.mul_assoc, Int.mul_assoc] at e
    obtain ⟨a, b⟩ := dec_aux p0 h h' k m (Int.eq_of_mul_eq_mul_left p0 e)
    exact ⟨by omega, b⟩
theorem Dec.unique {x p l o l' o' : Int} (p0 : p ≠ 0) (h : Dec x p l o) (h' : Dec x p l' o') : o = o' ∧ l = l' := by
  have e := h.eq.symm.trans h'.eq
  obtain ⟨a, b⟩ := dec_aux p0 h.nd h'.nd _ _ e
  have := h.o0
  have := h'.o0
  exact ⟨by omega, b⟩
theorem Dec.of_inn {x p l o : Int} (h : Pr.Inn x p l o) (o0 : 0 ≤ o) (z : l.fmod p ≠ 0) : Dec x p l o := ⟨h.eq, o0, fun d => z (Int.fmod_eq_zero_of_dvd d)⟩
def odd4 (p o1 l1 o2 l2 : Int) : Int := if o1 % 2 = 1 then (if o2 % 2 = 1 then J (-l1 * l2) p else J l2 p) else (if o2 % 2 = 1 then J l1 p else 1)
def two4 (o1 l1 o2 l2 : Int) : Int := turnI l1 l2 * (if o1 % 2 = 1 then twoI l2 else 1) * (if o2 % 2 = 1 then twoI l1 else 1)
def hs (p o1 l1 o2 l2 : Int) : Int := if p = 2 then two4 o1 l1 o2 l2 else odd4 p o1 l1 o2 l2
end Jc

namespace Jc
open Pr (Prm)
theorem dec_ex {p : Int} (p2 : 2 ≤ p) : ∀ (m : Nat) (x : Int), x ≠ 0 → x.natAbs ≤ m → ∃ l o, Dec x p l o
  | 0, x, x0, h => absurd (Int.natAbs_eq_zero.mp (by omega)) x0
  | m + 1, x, x0, h => by
    by_cases d : p ∣ x
    · obtain ⟨k, hk⟩ := d
      have k0 : k ≠ 0 := fun z => x0 (by rw [hk, z, Int.mul_zero])
      have e : x.natAbs = p.natAbs * k.natAbs := by rw [hk, Int.natAbs_mul]
      have : 2 * k.natAbs ≤ p.natAbs * k.natAbs := Nat.mul_le_mul_right _ (by omega)
      obtain ⟨l, o, D⟩ := dec_ex p2 m k k0 (by omega)
      refine ⟨l, o + 1, ⟨?_, by have := D.o0; omega, D.nd⟩⟩
      rw [show (o + 1).toNat = o.toNat + 1 by have := D.o0; omega, Int.pow_succ, hk, D.eq]
      grind
    · exact ⟨x, 0, ⟨by rw [show (0 : Int).toNat = 0 from rfl, Int.pow_zero, Int.one_mul], by decide, d⟩⟩
theorem Dec.mul {p x y l o l' o' : Int} (hp : Prm p) (h : Dec x p l o) (h' : Dec y p l' o') : Dec (x * y) p (l * l') (o + o') := by
  refine ⟨?_, by have := h.o0; have := h'.o0; omega, fun d => ?_⟩
  · rw [show (o + o').toNat = o.toNat + o'.toNat by have := h.o0; have := h'.o0; omega, Int.pow_add]
    have e1 := h.eq
    have e2 := h'.eq
    generalize p ^ o.toNat = A at e1 ⊢
    generalize p ^ o'.toNat = B at e2 ⊢
    subst e1
    subst e2
    grind
  · rcases Pr.euclid hp d with z | z
    · exact h.nd z
    · exact h'.nd z
theorem J_unit {p l : Int} (hp : Prm p) (h : ¬ p ∣ l) : J l p * J l p = 1 := by
  refine J_cop ?_
  have p2 := hp.two
  have c := Pr.prm_coprime hp (x := l % p) (fun d => h (by have e := Int.emod_add_mul_ediv l p; rw [← e]; exact Int.dvd_add d (Int.dvd_mul_right _ _)))
  have r0 := Int.emod_nonneg l (show p ≠ 0 by omega)
  unfold GG
  have c' := Nat.coprime_iff_gcd_eq_one.mp c
  rw [Nat.gcd_comm]
  rw [show p.toNat = p.natAbs by omega, show (l % p).toNat = (l % p).natAbs by omega]
  exact c'
theorem odd4_or {p o1 l1 o2 l2 : Int} (hp : Prm p) (po : p % 2 = 1) (n1 : ¬ p ∣ l1) (n2 : ¬ p ∣ l2) : odd4 p o1 l1 o2 l2 = 1 ∨ odd4 p o1 l1 o2 l2 = -1 := by
  have sq : ∀ l, ¬ p ∣ l → J l p = 1 ∨ J l p = -1 := fun l h => by
    have := J_unit hp h
    rcases J_or l p with z | z | z
    · exact .inl z
    · rw [z] at this; cases this
    · exact .inr z
  unfold odd4
  split <;> split
  · refine sq _ fun d => ?_
    rcases Pr.euclid hp d with z | z
    · exact n1 (Int.dvd_neg.mp z)
    · exact n2 z
  · exact sq _ n2
  · exact sq _ n1
  · exact .inl rfl
theorem odd4_sym (p o1 l1 o2 l2 : Int) : odd4 p o1 l1 o2 l2 = odd4 p o2 l2 o1 l1 := by
  unfold odd4
  have e : -l1 * l2 = -l2 * l1 := by grind
  split <;> split <;> simp_all
theorem odd4_mul {p o1 l1 o2 l2 o3 l3 : Int} (hp : Prm p) (po : p % 2 = 1) (n1 : ¬ p ∣ l1) : odd4 p o1 l1 (o2 + o3) (l2 * l3) = odd4 p o1 l1 o2 l2 * odd4 p o1 l1 o3 l3 := by
  have p0 : 0 < p := by have := hp.two; omega
  have u1 := J_unit hp n1
  have u2 := J_unit hp (l := -l1) (fun d => n1 (Int.dvd_neg.mp d))
  have m1 : ∀ x, J (-l1 * x) p = J (-l1) p * J x p := fun x => J_mul p0 po _ _
  have m2 := J_mul p0 po l2 l3
  unfold odd4
  rcases (show o2 % 2 = 0 ∨ o2 % 2 = 1 by omega) with h2 | h2 <;> rcases (show o3 % 2 = 0 ∨ o3 % 2 = 1 by omega) with h3 | h3
  · rw [if_neg (show ¬ (o2 + o3) % 2 = 1 by omega), if_neg (show ¬ (o2 + o3) % 2 = 1 by omega), if_neg (show ¬ o2 % 2 = 1 by omega), if_neg (show ¬ o2 % 2 = 1 by omega), if_neg (show ¬ o3 % 2 = 1 by omega), if_neg (show ¬ o3 % 2 = 1 by omega)]
    split
    · exact m2
    · rfl
  · rw [if_pos (show (o2 + o3) % 2 = 1 by omega), if_pos (show (o2 + o3) % 2 = 1 by omega), if_neg (show ¬ o2 % 2 = 1 by omega), if_neg (show ¬ o2 % 2 = 1 by omega), if_pos h3, if_pos h3]
    split
    · rw [m1, m1, m2]
      grind
    · rw [Int.one_mul]
  · rw [if_pos (show (o2 + o3) % 2 = 1 by omega), if_pos (show (o2 + o3) % 2 = 1 by omega), if_pos h2, if_pos h2, if_neg (show ¬ o3 % 2 = 1 by omega), if_neg (show ¬ o3 % 2 = 1 by omega)]
    split
    · rw [m1, m1, m2]
      grind
    · rw [Int.mul_one]
  · rw [if_neg (show ¬ (o2 + o3) % 2 = 1 by omega), if_neg (show ¬ (o2 + o3) % 2 = 1 by omega), if_pos h2, if_pos h2, if_pos h3, if_pos h3]
    split
    · rw [m1, m1, m2]
      grind
    · exact u1.symm
theorem tw (l : Int) : twoI l = 1 ∨ twoI l = -1 := by unfold twoI; split <;> simp
theorem tn (a b : Int) : turnI a b = 1 ∨ turnI a b = -1 := by unfold turnI; split <;> simp
theorem tw_sq (l : Int) : twoI l * twoI l = 1 := by rcases tw l with h | h <;> rw [h] <;> rfl
theorem tw_mul {a b : Int} (ha : a % 2 = 1) (hb : b % 2 = 1) : twoI (a * b) = twoI a * twoI b := by
  have e : a * b % 8 = (a % 8) * (b % 8) % 8 := Int.mul_emod a b 8
  unfold twoI
  rw [e]
  rcases (show a % 8 = 1 ∨ a % 8 = 3 ∨ a % 8 = 5 ∨ a % 8 = 7 by omega) with h | h | h | h <;> rcases (show b % 8 = 1 ∨ b % 8 = 3 ∨ b % 8 = 5 ∨ b % 8 = 7 by omega) with k | k | k | k <;> rw [h, k] <;> rfl
theorem tn_mul {c a b : Int} (hc : c % 2 = 1) (ha : a % 2 = 1) (hb : b % 2 = 1) : turnI c (a * b) = turnI c a * turnI c b := by
  have e : a * b % 4 = (a % 4) * (b % 4) % 4 := Int.mul_emod a b 4
  unfold turnI
  rw [e]
  rcases (show a % 4 = 1 ∨ a % 4 = 3 by omega) with h | h <;> rcases (show b % 4 = 1 ∨ b % 4 = 3 by omega) with k | k <;> rcases (show c % 4 = 1 ∨ c % 4 = 3 by omega) with j | j <;> rw [h, k, j] <;> rfl
theorem tn_sym (a b : Int) : turnI a b = turnI b a := by
  unfold turnI
  by_cases h : a % 4 = 3 <;> by_cases k : b % 4 = 3 <;> simp [h, k]
theorem two4_or (o1 l1 o2 l2 : Int) : two4 o1 l1 o2 l2 = 1 ∨ two4 o1 l1 o2 l2 = -1 := by
  unfold two4
  rcases tn l1 l2 with h | h <;> rcases tw l1 with h2 | h2 <;> rcases tw l2 with h3 | h3 <;> rw [h, h2, h3] <;> split <;> split <;> decide
theorem two4_sym (o1 l1 o2 l2 : Int) : two4 o1 l1 o2 l2 = two4 o2 l2 o1 l1 := by
  unfold two4
  rw [tn_sym l1 l2]
  grind
theorem two4_mul {o1 l1 o2 l2 o3 l3 : Int} (h1 : l1 % 2 = 1) (h2 : l2 % 2 = 1) (h3 : l3 % 2 = 1) : two4 o1 l1 (o2 + o3) (l2 * l3) = two4 o1 l1 o2 l2 * two4 o1 l1 o3 l3 := by
  have s1 := tw_sq l1
  unfold two4
  rw [tn_mul h1 h2 h3, tw_mul h2 h3]
  have e : (if (o2 + o3) % 2 = 1 then twoI l1 else 1) = (if o2 % 2 = 1 then twoI l1 else 1) * (if o3 % 2 = 1 then twoI l1 else 1) := by
    rcases (show o2 % 2 = 0 ∨ o2 % 2 = 1 by omega) with k | k <;> rcases (show o3 % 2 = 0 ∨ o3 % 2 = 1 by omega) with j | j
    · rw [if_neg (show ¬ (o2 + o3) % 2 = 1 by omega), if_neg (show ¬ o2 % 2 = 1 by omega), if_neg (show ¬ o3 % 2 = 1 by omega)]; rfl
    · rw [if_pos (show (o2 + o3) % 2 = 1 by omega), if_neg (show ¬ o2 % 2 = 1 by omega), if_pos j, Int.one_mul]
    · rw [if_pos (show (o2 + o3) % 2 = 1 by omega), if_pos k, if_neg (show ¬ o3 % 2 = 1 by omega), Int.mul_one]
    · rw [if_neg (show ¬ (o2 + o3) % 2 = 1 by omega), if_pos k, if_pos j, s1]
  rw [e]
  by_cases c : o1 % 2 = 1
  · rw [if_pos c, if_pos c, if_pos c]
    grind
  · rw [if_neg c, if_neg c, if_neg c]
    grind
theorem prm_odd {p : Int} (h : Prm p) (n2 : p ≠ 2) : p % 2 = 1 := by
  rcases (show p % 2 = 0 ∨ p % 2 = 1 by omega) with z | z
  · have := h.two
    exact absurd (Int.dvd_of_emod_eq_zero z) (h.no 2 (by omega) (by omega))
  · exact z
theorem odd_of {l : Int} (h : ¬ (2 : Int) ∣ l) : l % 2 = 1 := by omega
theorem hs_or {p a b l1 o1 l2 o2 : Int} (hp : Prm p) (d1 : Dec a p l1 o1) (d2 : Dec b p l2 o2) : hs p o1 l1 o2 l2 = 1 ∨ hs p o1 l1 o2 l2 = -1 := by
  unfold hs
  split
  · exact two4_or _ _ _ _
  · next c => exact odd4_or hp (prm_odd hp c) d1.nd d2.nd
theorem hs_sym (p o1 l1 o2 l2 : Int) : hs p o1 l1 o2 l2 = hs p o2 l2 o1 l1 := by
  unfold hs
  rw [two4_sym, odd4_sym]
theorem hs_mul {p a b c l1 o1 l2 o2 l3 o3 : Int} (hp : Prm p) (d1 : Dec a p l1 o1) (d2 : Dec b p l2 o2) (d3 : Dec c p l3 o3) : hs p o1 l1 (o2 + o3) (l2 * l3) = hs p o1 l1 o2 l2 * hs p o1 l1 o3 l3 := by
  unfold hs
  split
  · next c =>
    subst c
    exact two4_mul (odd_of d1.nd) (odd_of d2.nd) (odd_of d3.nd)
  · next c => exact odd4_mul hp (prm_odd hp c) d1.nd
end Jc

namespace Jc
open Pr (Prm)
theorem Dec.neg {a p l o : Int} (h : Dec a p l o) : Dec (-a) p (-l) o := ⟨by rw [Int.mul_neg, ← h.eq], h.o0, fun d => h.nd (Int.dvd_neg.mp d)⟩
theorem hs_neg {p a l o : Int} (hp : Prm p) (d : Dec a p l o) : hs p o l o (-l) = 1 := by
  unfold hs
  split
  · next c =>
    subst c
    have ho := odd_of d.nd
    unfold two4
    have t1 : turnI l (-l) = 1 := by unfold turnI; rw [if_neg (by omega)]
    have t2 : twoI (-l) = twoI l := by
      unfold twoI
      rcases (show l % 8 = 1 ∨ l % 8 = 3 ∨ l % 8 = 5 ∨ l % 8 = 7 by omega) with h | h | h | h
      · rw [show (-l) % 8 = 7 by omega, h]; rfl
      · rw [show (-l) % 8 = 5 by omega, h]; rfl
      · rw [show (-l) % 8 = 3 by omega, h]; rfl
      · rw [show (-l) % 8 = 1 by omega, h]; rfl
    rw [t1, t2, Int.one_mul]
    split
    · exact tw_sq l
    · rfl
  · next c =>
    have po := prm_odd hp c
    unfold odd4
    split
    · rw [Int.neg_mul_neg, J_mul (by have := hp.two; omega) po]
      exact J_unit hp d.nd
    · rfl
def noDivs (p : Nat) (m : Nat) : Bool := (List.range m).all fun k => Nat.ble k 1 || !(p % k == 0)
theorem prm_by {p m : Nat} (p2 : 2 ≤ p) (hm : p < m * m) (h : noDivs p m = true) : Prm (p : Int) := by
  refine ⟨by omega, fun k k2 kk hd => ?_⟩
  obtain ⟨j, rfl⟩ : ∃ j : Nat, k = (j : Int) := ⟨k.toNat, by omega⟩
  have jj : j * j ≤ p := by
    have : ((j * j : Nat) : Int) ≤ (p : Int) := by rw [Int.natCast_mul]; exact kk
    omega
  have jm : j < m := by
    rcases Nat.lt_or_ge j m with z | z
    · exact z
    · have := Nat.mul_le_mul z z
      omega
  have c := List.all_eq_true.mp h j (List.mem_range.mpr jm)
  have d : p % j = 0 := Nat.mod_eq_zero_of_dvd (Int.natCast_dvd_natCast.mp hd)
  rw [d] at c
  have c' : Nat.ble j 1 = true := by simpa using c
  have := Nat.le_of_ble_eq_true c'
  omega
end Jc

namespace Jc
open Pr (Prm)
def HS (p a b v : Int) : Prop := ∃ l1 o1 l2 o2, Dec a p l1 o1 ∧ Dec b p l2 o2 ∧ v = hs p o1 l1 o2 l2
open Classical in
noncomputable def H (p a b : Int) : Int := if h : ∃ v, HS p a b v then choose h else 1
theorem H_eq {p a b l1 o1 l2 o2 : Int} (hp : Prm p) (d1 : Dec a p l1 o1) (d2 : Dec b p l2 o2) : H p a b = hs p o1 l1 o2 l2 := by
  have h : ∃ v, HS p a b v := ⟨_, l1, o1, l2, o2, d1, d2, rfl⟩
  unfold H
  rw [dif_pos h]
  obtain ⟨m1, q1, m2, q2, e1, e2, e3⟩ := Classical.choose_spec h
  have p0 : p ≠ 0 := by have := hp.two; omega
  obtain ⟨rfl, rfl⟩ := e1.unique p0 d1
  obtain ⟨rfl, rfl⟩ := e2.unique p0 d2
  exact e3
theorem decs {p x : Int} (hp : Prm p) (h : x ≠ 0) : ∃ l o, Dec x p l o := dec_ex hp.two _ x h (Nat.le_refl _)
theorem H_sym {p a b : Int} (hp : Prm p) (a0 : a ≠ 0) (b0 : b ≠ 0) : H p a b = H p b a := by
  obtain ⟨l1, o1, d1⟩ := decs hp a0
  obtain ⟨l2, o2, d2⟩ := decs hp b0
  rw [H_eq hp d1 d2, H_eq hp d2 d1, hs_sym]
theorem H_mul {p a b c : Int} (hp : Prm p) (a0 : a ≠ 0) (b0 : b ≠ 0) (c0 : c ≠ 0) : H p a (b * c) = H p a b * H p a c := by
  obtain ⟨l1, o1, d1⟩ := decs hp a0
  obtain ⟨l2, o2, d2⟩ := decs hp b0
  obtain ⟨l3, o3, d3⟩ := decs hp c0
  rw [H_eq hp d1 d2, H_eq hp d1 d3, H_eq hp d1 (d2.mul hp d3), hs_mul hp d1 d2 d3]
theorem H_neg {p a : Int} (hp : Prm p) (a0 : a ≠ 0) : H p a (-a) = 1 := by
  obtain ⟨l1, o1, d1⟩ := decs hp a0
  rw [H_eq hp d1 d1.neg, hs_neg hp d1]
theorem dec_self {p : Int} (hp : Prm p) : Dec p p 1 1 := ⟨by show p = p ^ (1 : Nat) * 1; rw [Int.pow_succ, Int.pow_zero, Int.one_mul, Int.mul_one], by decide, fun d => by
  have := Int.le_of_dvd (by decide) d
  have := hp.two
  omega⟩
theorem dec_out {p x : Int} (h : ¬ p ∣ x) : Dec x p x 0 := ⟨by simp, by decide, h⟩
theorem H_out {p a b : Int} (hp : Prm p) (n2 : p ≠ 2) (ha : ¬ p ∣ a) (hb : ¬ p ∣ b) : H p a b = 1 := by
  rw [H_eq hp (dec_out ha) (dec_out hb)]
  unfold hs odd4
  rw [if_neg n2]
  rfl
def inf (a b : Int) : Int := if a < 0 ∧ b < 0 then -1 else 1
theorem inf_sym (a b : Int) : inf a b = inf b a := by unfold inf; simp only [and_comm]
theorem inf_mul {a b c : Int} (b0 : b ≠ 0) (c0 : c ≠ 0) : inf a (b * c) = inf a b * inf a c := by
  unfold inf
  rcases Int.lt_or_gt_of_ne b0 with hb | hb <;> rcases Int.lt_or_gt_of_ne c0 with hc | hc
  · have := Int.mul_pos_of_neg_of_neg hb hc
    by_cases ha : a < 0
    · rw [if_neg (by omega), if_pos ⟨ha, hb⟩, if_pos ⟨ha, hc⟩]; rfl
    · rw [if_neg (by omega), if_neg (by omega), if_neg (by omega)]; rfl
  · have := Int.mul_neg_of_neg_of_pos hb hc
    by_cases ha : a < 0
    · rw [if_pos ⟨ha, this⟩, if_pos ⟨ha, hb⟩, if_neg (by omega)]; rfl
    · rw [if_neg (by omega), if_neg (by omega), if_neg (by omega)]; rfl
  · have := Int.mul_neg_of_pos_of_neg hb hc
    by_cases ha : a < 0
    · rw [if_pos ⟨ha, this⟩, if_neg (by omega), if_pos ⟨ha, hc⟩]; rfl
    · rw [if_neg (by omega), if_neg (by omega), if_neg (by omega)]; rfl
  · have := Int.mul_pos hb hc
    rw [if_neg (by omega), if_neg (by omega), if_neg (by omega)]; rfl
def PP (f : Int → Int) : List Int → Int
  | [] => 1
  | p :: L => f p * PP f L
theorem PP_mul {f g k : Int → Int} : ∀ {L : List Int}, (∀ p ∈ L, k p = f p * g p) → PP k L = PP f L * PP g L
  | [], _ => rfl
  | p :: L, h => by
    show k p * PP k L = f p * PP f L * (g p * PP g L)
    rw [PP_mul (f := f) (g := g) (L := L) fun q hq => h q (.tail _ hq), h p (.head _)]
    grind
theorem PP_one {f : Int → Int} : ∀ {L : List Int}, (∀ p ∈ L, f p = 1) → PP f L = 1
  | [], _ => rfl
  | p :: L, h => by
    show f p * PP f L = 1
    rw [PP_one fun q hq => h q (.tail _ hq), h p (.head _)]
    rfl
theorem PP_pick {f : Int → Int} : ∀ {L : List Int} {q : Int}, q ∈ L → PP f L = f q * PP f (L.erase q)
  | p :: L, q, h => by
    by_cases e : p = q
    · subst e
      rw [List.erase_cons_head]
      rfl
    · have hq : q ∈ L := (List.mem_cons.mp h).elim (fun z => absurd z.symm e) id
      rw [List.erase_cons_tail (by simpa using e)]
      show f p * PP f L = f q * (f p * PP f (L.erase q))
      rw [PP_pick hq]
      grind
theorem PP_congr {f g : Int → Int} {L : List Int} (h : ∀ p ∈ L, f p = g p) : PP f L = PP g L := by
  induction L with
  | nil => rfl
  | cons p L ih =>
    show f p * PP f L = g p * PP g L
    rw [h p (.head _), ih fun q hq => h q (.tail _ hq)]
noncomputable def W (L : List Int) (a b : Int) : Int := inf a b * PP (fun p => H p a b) L
section
variable {L : List Int}
theorem W_sym (hL : ∀ p ∈ L, Prm p) {a b : Int} (a0 : a ≠ 0) (b0 : b ≠ 0) : W L a b = W L b a := by
  unfold W
  rw [inf_sym, PP_congr fun p hp => H_sym (hL p hp) a0 b0]
theorem W_mul (hL : ∀ p ∈ L, Prm p) {a b c : Int} (a0 : a ≠ 0) (b0 : b ≠ 0) (c0 : c ≠ 0) : W L a (b * c) = W L a b * W L a c := by
  unfold W
  rw [inf_mul b0 c0, PP_mul (f := fun p => H p a b) (g := fun p => H p a c) fun p hp => H_mul (hL p hp) a0 b0 c0]
  grind
theorem W_neg (hL : ∀ p ∈ L, Prm p) {a : Int} (a0 : a ≠ 0) : W L a (-a) = 1 := by
  unfold W
  rw [PP_one fun p hp => H_neg (hL p hp) a0]
  unfold inf
  rw [if_neg (by omega)]
  rfl
theorem not_unit {p : Int} (hp : Prm p) : ¬ p ∣ 1 := fun d => by
  have := Int.le_of_dvd (by decide) d
  have := hp.two
  omega
theorem not_neg {p : Int} (hp : Prm p) : ¬ p ∣ -1 := fun d => not_unit hp (Int.dvd_neg.mp d)
theorem prm_2 : Prm 2 := prm_by (p := 2) (m := 2) (by decide) (by decide) (by decide)
theorem W_nn (hL : ∀ p ∈ L, Prm p) (nd : L.Nodup) (h2 : 2 ∈ L) : W L (-1) (-1) = 1 := by
  unfold W
  rw [PP_pick h2, PP_one (L := L.erase 2) fun p hp => ?_]
  · rw [H_eq prm_2 (dec_out (not_neg prm_2)) (dec_out (not_neg prm_2))]
    decide
  · have := (nd.mem_erase_iff).mp hp
    exact H_out (hL p this.2) this.1 (not_neg (hL p this.2)) (not_neg (hL p this.2))
theorem W_n2 (hL : ∀ p ∈ L, Prm p) (nd : L.Nodup) (h2 : 2 ∈ L) : W L (-1) 2 = 1 := by
  unfold W
  rw [PP_pick h2, PP_one (L := L.erase 2) fun p hp => ?_]
  · rw [H_eq prm_2 (dec_out (not_neg prm_2)) (dec_self prm_2)]
    decide
  · have := (nd.mem_erase_iff).mp hp
    exact H_out (hL p this.2) this.1 (not_neg (hL p this.2)) fun d => this.1 (Pr.prm_dvd_prm (hL p this.2) prm_2 d)
theorem PP_two {f : Int → Int} (nd : L.Nodup) {q r : Int} (hq : q ∈ L) (hr : r ∈ L) (ne : q ≠ r) (h : ∀ p ∈ L, p ≠ q → p ≠ r → f p = 1) : PP f L = f q * f r := by
  have hr' : r ∈ L.erase q := (nd.mem_erase_iff).mpr ⟨Ne.symm ne, hr⟩
  rw [PP_pick hq, PP_pick hr', PP_one (L := (L.erase q).erase r) fun p hp => ?_]
  · grind
  · have h1 := ((nd.erase q).mem_erase_iff).mp hp
    have h2 := (nd.mem_erase_iff).mp h1.2
    exact h p h2.2 h2.1 h1.1
theorem PP_three {f : Int → Int} (nd : L.Nodup) {q r u : Int} (hq : q ∈ L) (hr : r ∈ L) (hu : u ∈ L) (n1 : q ≠ r) (n2 : q ≠ u) (n3 : r ≠ u) (h : ∀ p ∈ L, p ≠ q → p ≠ r → p ≠ u → f p = 1) : PP f L = f q * f r * f u := by
  rw [PP_pick hq, PP_two (nd.erase q) ((nd.mem_erase_iff).mpr ⟨Ne.symm n1, hr⟩) ((nd.mem_erase_iff).mpr ⟨Ne.symm n2, hu⟩) n3 fun p hp a b => ?_]
  · grind
  · have h2 := (nd.mem_erase_iff).mp hp
    exact h p h2.2 h2.1 a b
theorem odd_p {p : Int} (hp : Prm p) (n2 : p ≠ 2) : ¬ (2 : Int) ∣ p := fun d => by have := prm_odd hp n2; omega
theorem W_np (hL : ∀ p ∈ L, Prm p) (nd : L.Nodup) (h2 : 2 ∈ L) {p : Int} (hp : p ∈ L) (n2 : p ≠ 2) : W L (-1) p = 1 := by
  have pp := hL p hp
  have po := prm_odd pp n2
  have p2 := pp.two
  unfold W
  rw [PP_two nd h2 hp (Ne.symm n2) fun q hq a b => H_out (hL q hq) a (not_neg (hL q hq)) fun d => b (Pr.prm_dvd_prm (hL q hq) pp d)]
  rw [H_eq prm_2 (dec_out (not_neg prm_2)) (dec_out (odd_p pp n2)), H_eq pp (dec_out (not_neg pp)) (dec_self pp)]
  have e1 : hs 2 0 (-1) 0 p = turnI (-1) p := by unfold hs two4; rw [if_pos rfl]; simp
  have e2 : hs p 0 (-1) 1 1 = J (-1) p := by unfold hs odd4; rw [if_neg n2]; rfl
  have e3 : inf (-1) p = 1 := by unfold inf; rw [if_neg (by omega)]
  rw [e1, e2, e3, J_neg (by omega) po]
  unfold turnI
  by_cases c : p % 4 = 1
  · rw [if_pos c, if_neg (by omega)]; rfl
  · rw [if_neg c, if_pos (by omega)]; rfl
theorem W_22 (hL : ∀ p ∈ L, Prm p) (nd : L.Nodup) (h2 : 2 ∈ L) : W L 2 2 = 1 := by
  unfold W
  rw [PP_pick h2, PP_one (L := L.erase 2) fun p hp => ?_]
  · rw [H_eq prm_2 (dec_self prm_2) (dec_self prm_2)]
    decide
  · have := (nd.mem_erase_iff).mp hp
    have nd2 : ¬ p ∣ 2 := fun d => this.1 (Pr.prm_dvd_prm (hL p this.2) prm_2 d)
    exact H_out (hL p this.2) this.1 nd2 nd2
theorem W_2p (hL : ∀ p ∈ L, Prm p) (nd : L.Nodup) (h2 : 2 ∈ L) {p : Int} (hp : p ∈ L) (n2 : p ≠ 2) : W L 2 p = 1 := by
  have pp := hL p hp
  have po := prm_odd pp n2
  have p2 := pp.two
  unfold W
  have np : ¬ p ∣ 2 := fun d => n2 (Pr.prm_dvd_prm pp prm_2 d)
  rw [PP_two nd h2 hp (Ne.symm n2) fun q hq a b => H_out (hL q hq) a (fun d => a (Pr.prm_dvd_prm (hL q hq) prm_2 d)) fun d => b (Pr.prm_dvd_prm (hL q hq) pp d)]
  rw [H_eq prm_2 (dec_self prm_2) (dec_out (odd_p pp n2)), H_eq pp (dec_out np) (dec_self pp)]
  have e1 : hs 2 1 1 0 p = turnI 1 p * twoI p := by unfold hs two4; rw [if_pos rfl]; simp
  have e2 : hs p 0 2 1 1 = J 2 p := by unfold hs odd4; rw [if_neg n2]; rfl
  have e3 : inf 2 p = 1 := by unfold inf; rw [if_neg (by omega)]
  have e4 : turnI 1 p = 1 := by unfold turnI; rw [if_neg (by omega)]
  rw [e1, e2, e3, e4, J_two (by omega) po, Int.one_mul, Int.one_mul]
  exact tw_sq p
theorem W_pq (hL : ∀ p ∈ L, Prm p) (nd : L.Nodup) (h2 : 2 ∈ L) {p q : Int} (hp : p ∈ L) (hq : q ∈ L) (p2 : p ≠ 2) (q2 : q ≠ 2) (ne : p ≠ q) : W L p q = 1 := by
  have pp := hL p hp
  have pq := hL q hq
  have po := prm_odd pp p2
  have qo := prm_odd pq q2
  have pt := pp.two
  have qt := pq.two
  have npq : ¬ p ∣ q := fun d => ne (Pr.prm_dvd_prm pp pq d)
  have nqp : ¬ q ∣ p := fun d => ne (Pr.prm_dvd_prm pq pp d).symm
  unfold W
  rw [PP_three nd h2 hp hq (Ne.symm p2) (Ne.symm q2) ne fun r hr a b c => H_out (hL r hr) a (fun d => b (Pr.prm_dvd_prm (hL r hr) pp d)) fun d => c (Pr.prm_dvd_prm (hL r hr) pq d)]
  rw [H_eq prm_2 (dec_out (odd_p pp p2)) (dec_out (odd_p pq q2)), H_eq pp (dec_self pp) (dec_out npq), H_eq pq (dec_out nqp) (dec_self pq)]
  have e1 : hs 2 0 p 0 q = turnI p q := by unfold hs two4; rw [if_pos rfl]; simp
  have e2 : hs p 1 1 0 q = J q p := by unfold hs odd4; rw [if_neg p2]; rfl
  have e3 : hs q 0 p 1 1 = J p q := by unfold hs odd4; rw [if_neg q2]; rfl
  have e4 : inf p q = 1 := by unfold inf; rw [if_neg (by omega)]
  rw [e1, e2, e3, e4, J_turn (by omega) po (by omega) qo (a := p) (n := q)]
  have s1 := J_unit pp npq
  have s2 : turnI p q * turnI p q = 1 := by rcases tn p q with h | h <;> rw [h] <;> rfl
  grind
theorem W_pp (hL : ∀ p ∈ L, Prm p) (nd : L.Nodup) (h2 : 2 ∈ L) {p : Int} (hp : p ∈ L) (n2 : p ≠ 2) : W L p p = 1 := by
  have p0 : p ≠ 0 := by have := (hL p hp).two; omega
  have e : p = -1 * -p := by omega
  have h := W_mul hL p0 (show (-1 : Int) ≠ 0 by decide) (show -p ≠ 0 by omega)
  have s := W_sym hL p0 (show (-1 : Int) ≠ 0 by decide)
  rw [← e, W_neg hL p0, s, W_np hL nd h2 hp n2] at h
  exact h
theorem W_gg (hL : ∀ p ∈ L, Prm p) (nd : L.Nodup) (h2 : 2 ∈ L) {g k : Int} (hg : g = -1 ∨ g ∈ L) (hk : k = -1 ∨ k ∈ L) : W L g k = 1 := by
  have nz : ∀ {x : Int}, x ∈ L → x ≠ 0 := fun h => by have := (hL _ h).two; omega
  rcases hg with rfl | hg <;> rcases hk with rfl | hk
  · exact W_nn hL nd h2
  · by_cases c : k = 2
    · rw [c]; exact W_n2 hL nd h2
    · exact W_np hL nd h2 hk c
  · rw [W_sym hL (nz hg) (by decide)]
    by_cases c : g = 2
    · rw [c]; exact W_n2 hL nd h2
    · exact W_np hL nd h2 hg c
  · by_cases c : g = 2 <;> by_cases d : k = 2
    · rw [c, d]; exact W_22 hL nd h2
    · rw [c]; exact W_2p hL nd h2 hk d
    · rw [W_sym hL (nz hg) (nz hk), d]; exact W_2p hL nd h2 hg c
    · by_cases e : g = k
      · rw [← e]; exact W_pp hL nd h2 hg c
      · exact W_pq hL nd h2 hg hk c d e
theorem gen_ind {F : Int → Int} (hm : ∀ x y : Int, x ≠ 0 → y ≠ 0 → F (x * y) = F x * F y) (hn : F (-1) = 1) (hp : ∀ p ∈ L, F p = 1) : ∀ (n : Nat) (a : Int), a.natAbs ≤ n → a ≠ 0 → (∀ p, Prm p → p ∣ a → p ∈ L) → F a = 1
  | 0, a, h, a0, _ => by omega
  | n + 1, a, h, a0, hd => by
    by_cases c : a.natAbs = 1
    · rcases Int.natAbs_eq_iff.mp c with e | e
      · have := hm (-1) (-1) (by decide) (by decide)
        rw [hn] at this
        rw [e]
        exact this
      · rw [e]; exact hn
    · obtain ⟨q, pq, hq⟩ := Pr.prm_some a.natAbs (a.natAbs : Int) (by omega) (by omega)
      have hqa : q ∣ a := Int.dvd_natAbs.mp hq
      obtain ⟨b, rfl⟩ := hqa
      have q2 := pq.two
      have b0 : b ≠ 0 := fun z => a0 (by rw [z, Int.mul_zero])
      have hb : b.natAbs ≤ n := by
        rw [Int.natAbs_mul] at h
        have h1 : 2 ≤ q.natAbs := by omega
        have h2 : 1 ≤ b.natAbs := by omega
        have := Nat.mul_le_mul_right b.natAbs h1
        omega
      rw [hm q b (by omega) b0, hp q (hd q pq ⟨b, rfl⟩), gen_ind hm hn hp n b hb b0 fun p pp d => hd p pp (Int.dvd_trans d (Int.dvd_mul_left q b))]
      rfl
theorem W_all (hL : ∀ p ∈ L, Prm p) (nd : L.Nodup) (h2 : 2 ∈ L) {a b : Int} (a0 : a ≠ 0) (b0 : b ≠ 0) (ha : ∀ p, Prm p → p ∣ a → p ∈ L) (hb : ∀ p, Prm p → p ∣ b → p ∈ L) : W L a b = 1 := by
  have nz : ∀ {x : Int}, x ∈ L → x ≠ 0 := fun h => by have := (hL _ h).two; omega
  have one : ∀ g : Int, g ≠ 0 → (g = -1 ∨ g ∈ L) → W L g b = 1 := fun g g0 hg =>
    gen_ind (F := fun y => W L g y) (fun x y x0 y0 => W_mul hL g0 x0 y0) (W_gg hL nd h2 hg (.inl rfl)) (fun p hp => W_gg hL nd h2 hg (.inr hp)) _ b (Nat.le_refl _) b0 hb
  refine gen_ind (F := fun x => W L x b) (fun x y x0 y0 => ?_) (one (-1) (by decide) (.inl rfl)) (fun p hp => one p (nz hp) (.inr hp)) _ a (Nat.le_refl _) a0 ha
  show W L (x * y) b = W L x b * W L y b
  have xy : x * y ≠ 0 := fun z => (Int.mul_eq_zero.mp z).elim x0 y0
  rw [W_sym hL xy b0, W_mul hL b0 x0 y0, W_sym hL b0 x0, W_sym hL b0 y0]
end
end Jc

namespace Jc
def anyZ (p n M c b yp : Nat) : Nat → Bool
  | 0 => false
  | z + 1 => bif anyZ p n M c b yp z then true else bif Nat.ble 1 (yp + z % p) then Nat.testBit M ((c + b * z * z) % n) else false
def anyY (p n M a b k : Nat) : Nat → Bool
  | 0 => false
  | y + 1 => bif anyY p n M a b k y then true else anyZ p n M (a * y * y) b (y % p) k
def fits (p n M a b : Nat) : Bool := anyY p n M a b (n / 2 + 1) (n / 2 + 1)
theorem anyZ_iff {p n M c b yp : Nat} : ∀ {k : Nat}, anyZ p n M c b yp k = true ↔ ∃ z, z < k ∧ 1 ≤ yp + z % p ∧ Nat.testBit M ((c + b * z * z) % n) = true
  | 0 => by
    constructor
    · intro h; cases h
    · rintro ⟨z, h, _⟩; exact absurd h (Nat.not_lt_zero z)
  | k + 1 => by
    have ih := anyZ_iff (p := p) (n := n) (M := M) (c := c) (b := b) (yp := yp) (k := k)
    unfold anyZ
    cases h : anyZ p n M c b yp k with
    | true =>
      obtain ⟨z, z1, z2⟩ := ih.mp h
      exact ⟨fun _ => ⟨z, by omega, z2⟩, fun _ => rfl⟩
    | false =>
      have no : ∀ z, z < k → 1 ≤ yp + z % p → Nat.testBit M ((c + b * z * z) % n) = true → False := fun z z1 z2 z3 => by
        rw [ih.mpr ⟨z, z1, z2, z3⟩] at h
        cases h
      cases hb : Nat.ble 1 (yp + k % p) with
      | true =>
        constructor
        · intro q
          exact ⟨k, Nat.lt_succ_self k, Nat.le_of_ble_eq_true hb, q⟩
        · rintro ⟨z, z1, z2, z3⟩
          rcases (show z < k ∨ z = k by omega) with e | e
          · exact (no z e z2 z3).elim
          · subst e; exact z3
      | false =>
        constructor
        · intro q; cases q
        · rintro ⟨z, z1, z2, z3⟩
          rcases (show z < k ∨ z = k by omega) with e | e
          · exact (no z e z2 z3).elim
          · subst e
            rw [Nat.ble_eq_true_of_le z2] at hb
            cases hb
theorem anyY_iff {p n M a b k : Nat} : ∀ {m : Nat}, anyY p n M a b k m = true ↔ ∃ y z, y < m ∧ z < k ∧ 1 ≤ y % p + z % p ∧ Nat.testBit M ((a * y * y + b * z * z) % n) = true
  | 0 => by
    constructor
    · intro h; cases h
    · rintro ⟨y, _, h, _⟩; exact absurd h (Nat.not_lt_zero y)
  | m + 1 => by
    have ih := anyY_iff (p := p) (n := n) (M := M) (a := a) (b := b) (k := k) (m := m)
    unfold anyY
    cases h : anyY p n M a b k m with
    | true =>
      obtain ⟨y, z, z1, z2⟩ := ih.mp h
      exact ⟨fun _ => ⟨y, z, by omega, z2⟩, fun _ => rfl⟩
    | false =>
      constructor
      · intro q
        obtain ⟨z, z1, z2, z3⟩ := anyZ_iff.mp q
        exact ⟨m, z, Nat.lt_succ_self m, z1, z2, z3⟩
      · rintro ⟨y, z, y1, z1, z2, z3⟩
        rcases (show y < m ∨ y = m by omega) with e | e
        · rw [ih.mpr ⟨y, z, e, z1, z2, z3⟩] at h
          cases h
        · subst e
          exact anyZ_iff.mpr ⟨z, z1, z2, z3⟩
def ordR (p r : Nat) : Int := if r % p = 0 then 1 else 0
def unitR (p r : Nat) : Int := if r % p = 0 then (r / p : Nat) else (r : Nat)
def hsR (p ra rb : Nat) : Int := hs p (ordR p ra) (unitR p ra) (ordR p rb) (unitR p rb)
def maskOk (n M : Nat) : Bool := (List.range n).all fun r => Nat.testBit M r == (List.range n).any fun x => x * x % n == r
def chkR (p n M ra rb : Nat) : Bool := bif (ra % (p * p) == 0 || rb % (p * p) == 0) then true else bif fits p n M ra rb then decide (hsR p ra rb = 1) else decide (hsR p ra rb = -1)
def chkP (p n M : Nat) : Bool := (List.range n).all fun ra => (List.range n).all fun rb => chkR p n M ra rb
theorem mask16 : maskOk 16 531 = true := by decide +kernel
theorem chk16 : chkP 2 16 531 = true := by decide +kernel
def FitsR (a b : Int) (p n : Nat) : Prop := ∃ y z : Nat, y < n ∧ z < n ∧ 1 ≤ y % p + z % p ∧ ∃ x : Nat, x < n ∧ (x : Int) * x % n = (a * y * y + b * z * z) % n
theorem half_sq {n y : Nat} (h : y ≤ n) : (((n - y : Nat) : Int) * ((n - y : Nat) : Int)) % n = ((y : Int) * y) % n := by
  have e : ((n - y : Nat) : Int) * ((n - y : Nat) : Int) = (y : Int) * y + (n : Int) * ((n : Int) - 2 * y) := by
    have : ((n - y : Nat) : Int) = (n : Int) - y := by omega
    rw [this]
    grind
  rw [e, Int.add_mul_emod_self_left]
theorem half_mod {p n y : Nat} (p0 : 0 < p) (hd : p ∣ n) (h : y ≤ n) : (n - y) % p = 0 ↔ y % p = 0 := by
  obtain ⟨k, rfl⟩ := hd
  constructor
  · intro z
    have d := Nat.dvd_of_mod_eq_zero z
    have : p ∣ p * k - (p * k - y) := Nat.dvd_sub (Nat.dvd_mul_right p k) d
    rw [show p * k - (p * k - y) = y by omega] at this
    exact Nat.mod_eq_zero_of_dvd this
  · intro z
    exact Nat.mod_eq_zero_of_dvd (Nat.dvd_sub (Nat.dvd_mul_right p k) (Nat.dvd_of_mod_eq_zero z))
theorem halve {p n y : Nat} (p0 : 0 < p) (n0 : 0 < n) (hd : p ∣ n) (h : y < n) : ∃ y', y' < n / 2 + 1 ∧ (y' % p = 0 ↔ y % p = 0) ∧ ((y' : Int) * y') % n = ((y : Int) * y) % n := by
  by_cases c : y < n / 2 + 1
  · exact ⟨y, c, Iff.rfl, rfl⟩
  · exact ⟨n - y, by omega, half_mod p0 hd (by omega), half_sq (by omega)⟩
theorem val_mod (a b : Int) (n : Nat) (y z y' z' : Int) (hy : y' * y' % n = y * y % n) (hz : z' * z' % n = z * z % n) : (a % n * y' * y' + b % n * z' * z') % n = (a * y * y + b * z * z) % n := by
  have h1 : a % n * y' * y' % n = a * y * y % n := by
    rw [Int.mul_assoc, Int.mul_assoc, Int.mul_emod, Int.emod_emod, hy, ← Int.mul_emod]
  have h2 : b % n * z' * z' % n = b * z * z % n := by
    rw [Int.mul_assoc, Int.mul_assoc, Int.mul_emod, Int.emod_emod, hz, ← Int.mul_emod]
  rw [Int.add_emod, h1, h2, ← Int.add_emod]
theorem fits_iff {p n M : Nat} (p0 : 0 < p) (n0 : 0 < n) (hd : p ∣ n) (hM : maskOk n M = true) (a b : Int) : fits p n M (a % n).toNat (b % n).toNat = true ↔ FitsR a b p n := by
  have ha := Int.emod_nonneg a (show (n : Int) ≠ 0 by omega)
  have hb := Int.emod_nonneg b (show (n : Int) ≠ 0 by omega)
  have bit : ∀ y z : Nat, Nat.testBit M (((a % n).toNat * y * y + (b % n).toNat * z * z) % n) = true ↔ ∃ x : Nat, x < n ∧ (x : Int) * x % n = (a % n * y * y + b % n * z * z) % n := fun y z => by
    have hr : ((a % n).toNat * y * y + (b % n).toNat * z * z) % n < n := Nat.mod_lt _ n0
    have m := beq_iff_eq.mp (List.all_eq_true.mp hM _ (List.mem_range.mpr hr))
    have e : (((((a % n).toNat * y * y + (b % n).toNat * z * z) % n : Nat)) : Int) = (a % n * y * y + b % n * z * z) % n := by
      rw [Int.natCast_emod, Int.natCast_add, Int.natCast_mul, Int.natCast_mul, Int.natCast_mul, Int.natCast_mul, Int.toNat_of_nonneg ha, Int.toNat_of_nonneg hb]
    rw [m, List.any_eq_true]
    constructor
    · rintro ⟨x, hx, q⟩
      refine ⟨x, List.mem_range.mp hx, ?_⟩
      rw [← e, ← beq_iff_eq.mp q, Int.natCast_emod, Int.natCast_mul]
    · rintro ⟨x, hx, q⟩
      refine ⟨x, List.mem_range.mpr hx, beq_iff_eq.mpr ?_⟩
      have : (((x * x % n : Nat)) : Int) = (((((a % n).toNat * y * y + (b % n).toNat * z * z) % n : Nat)) : Int) := by
        rw [e, ← q, Int.natCast_emod, Int.natCast_mul]
      omega
  unfold fits FitsR
  rw [anyY_iff]
  constructor
  · rintro ⟨y, z, y1, z1, k, t⟩
    obtain ⟨x, hx, q⟩ := (bit y z).mp t
    exact ⟨y, z, by omega, by omega, k, x, hx, q.trans (val_mod a b n y z y z rfl rfl)⟩
  · rintro ⟨y, z, y1, z1, k, x, hx, q⟩
    obtain ⟨y', h1, h2, h3⟩ := halve p0 n0 hd y1
    obtain ⟨z', k1, k2, k3⟩ := halve p0 n0 hd z1
    refine ⟨y', z', h1, k1, ?_, (bit y' z').mpr ⟨x, hx, q.trans (val_mod a b n y z y' z' h3 k3).symm⟩⟩
    rcases Nat.eq_zero_or_pos (y' % p) with e1 | e1
    · rcases Nat.eq_zero_or_pos (z' % p) with e2 | e2
      · have := h2.mp e1
        have := k2.mp e2
        omega
      · omega
    · omega
end Jc

namespace Jc
theorem two4_cong {o1 l1 o2 l2 l1' l2' : Int} (h1 : l1 % 8 = l1' % 8) (h2 : l2 % 8 = l2' % 8) : two4 o1 l1 o2 l2 = two4 o1 l1' o2 l2' := by
  unfold two4
  have t1 : twoI l1 = twoI l1' := by unfold twoI; rw [h1]
  have t2 : twoI l2 = twoI l2' := by unfold twoI; rw [h2]
  have t3 : turnI l1 l2 = turnI l1' l2' := by
    unfold turnI
    rw [show l1 % 4 = l1' % 4 by omega, show l2 % 4 = l2' % 4 by omega]
  rw [t1, t2, t3]
theorem dec_few {a p l o : Int} (p0 : p ≠ 0) (d : Dec a p l o) (h : ¬ p * p ∣ a) : (o = 0 ∧ a = l) ∨ (o = 1 ∧ a = p * l) := by
  have o0 := d.o0
  have e := d.eq
  rcases (show o = 0 ∨ o = 1 ∨ 2 ≤ o by omega) with z | z | z
  · rw [z, show (0 : Int).toNat = 0 from rfl, Int.pow_zero, Int.one_mul] at e
    exact .inl ⟨z, e⟩
  · rw [z, show (1 : Int).toNat = 1 from rfl, Int.pow_succ, Int.pow_zero, Int.one_mul] at e
    exact .inr ⟨z, e⟩
  · exfalso
    obtain ⟨k, hk⟩ : ∃ k, o.toNat = k + 2 := ⟨o.toNat - 2, by omega⟩
    rw [hk, Int.pow_succ, Int.pow_succ] at e
    exact h ⟨p ^ k * l, by rw [e]; grind⟩
theorem decR2 {a l o : Int} (d : Dec a 2 l o) (h : ¬ (2 : Int) * 2 ∣ a) : o = ordR 2 (a % (16 : Nat)).toNat ∧ l % 8 = unitR 2 (a % (16 : Nat)).toNat % 8 ∧ (a % (16 : Nat)).toNat % (2 * 2) ≠ 0 := by
  have nd := d.nd
  have h' : ¬ (4 : Int) ∣ a := h
  unfold ordR unitR
  rcases dec_few (by decide) d h with ⟨z, e⟩ | ⟨z, e⟩
  · subst z
    subst e
    rw [if_neg (show ¬ (a % (16 : Nat)).toNat % 2 = 0 by omega), if_neg (show ¬ (a % (16 : Nat)).toNat % 2 = 0 by omega)]
    omega
  · subst z
    rw [if_pos (show (a % (16 : Nat)).toNat % 2 = 0 by omega), if_pos (show (a % (16 : Nat)).toNat % 2 = 0 by omega)]
    omega
theorem tells2 {a b l1 o1 l2 o2 : Int} (d1 : Dec a 2 l1 o1) (d2 : Dec b 2 l2 o2) (h1 : ¬ (2 : Int) * 2 ∣ a) (h2 : ¬ (2 : Int) * 2 ∣ b) : (FitsR a b 2 16 ∧ hs 2 o1 l1 o2 l2 = 1) ∨ (¬ FitsR a b 2 16 ∧ hs 2 o1 l1 o2 l2 = -1) := by
  obtain ⟨e1, f1, g1⟩ := decR2 d1 h1
  obtain ⟨e2, f2, g2⟩ := decR2 d2 h2
  have key : hs 2 o1 l1 o2 l2 = hsR 2 (a % (16 : Nat)).toNat (b % (16 : Nat)).toNat := by
    rw [e1, e2]
    unfold hsR hs
    rw [if_pos rfl, if_pos (by decide)]
    exact two4_cong f1 f2
  have la : (a % (16 : Nat)).toNat < 16 := by omega
  have lb : (b % (16 : Nat)).toNat < 16 := by omega
  have c := List.all_eq_true.mp (List.all_eq_true.mp chk16 _ (List.mem_range.mpr la)) _ (List.mem_range.mpr lb)
  unfold chkR at c
  have z1 : ((a % (16 : Nat)).toNat % (2 * 2) == 0) = false := by simpa using g1
  have z2 : ((b % (16 : Nat)).toNat % (2 * 2) == 0) = false := by simpa using g2
  rw [z1, z2] at c
  have fi := fits_iff (p := 2) (n := 16) (M := 531) (by decide) (by decide) (by decide) mask16 a b
  rw [key]
  cases hf : fits 2 16 531 (a % (16 : Nat)).toNat (b % (16 : Nat)).toNat with
  | true =>
    rw [hf] at c
    exact .inl ⟨fi.mp hf, of_decide_eq_true c⟩
  | false =>
    rw [hf] at c
    refine .inr ⟨fun q => ?_, of_decide_eq_true c⟩
    rw [fi.mpr q] at hf
    cases hf
end Jc

namespace Pw
theorem mulC {n a a' b b' : Int} (h1 : a % n = a' % n) (h2 : b % n = b' % n) : a * b % n = a' * b' % n := by
  rw [Int.mul_emod, h1, h2, ← Int.mul_emod]
theorem powC {n a b : Int} (h : a % n = b % n) : ∀ k : Nat, a ^ k % n = b ^ k % n
  | 0 => by rw [Int.pow_zero, Int.pow_zero]
  | k + 1 => by rw [Int.pow_succ, Int.pow_succ]; exact mulC (powC h k) h
theorem restC (a n : Int) : (a % n) % n = a % n := Int.emod_emod a n
@[irreducible] def PM (x : Int) (k : Nat) (n : Int) : Int := x ^ k % n
theorem PM_eq (x : Int) (k : Nat) (n : Int) : PM x k n = x ^ k % n := by unfold PM; rfl
theorem PM_nonneg {x n : Int} {k : Nat} (h : 0 < n) : 0 ≤ PM x k n := by rw [PM_eq]; exact Int.emod_nonneg _ (by omega)
theorem PM_lt {x n : Int} {k : Nat} (h : 0 < n) : PM x k n < n := by rw [PM_eq]; exact Int.emod_lt_of_pos _ h
theorem PM_succ (x n : Int) (k : Nat) : PM x (k + 1) n = PM x k n * x % n := by
  rw [PM_eq, PM_eq, Int.pow_succ]; exact mulC (restC _ _).symm rfl
theorem PM_cong {x y n : Int} (k : Nat) (h : x % n = y % n) : PM x k n = PM y k n := by rw [PM_eq, PM_eq]; exact powC h k
theorem PM_add (x n : Int) (k m : Nat) : PM x (k + m) n = PM x k n * PM x m n % n := by
  rw [PM_eq, PM_eq, PM_eq, Int.pow_add]; exact mulC (restC _ _).symm (restC _ _).symm
theorem start (x n : Int) (k : Nat) : (1 % n) * (x % n) ^ k % n = PM x k n := by
  rw [PM_eq]
  have h : (1 % n) * (x % n) ^ k % n = 1 * x ^ k % n := mulC (restC 1 n) (powC (restC x n) k)
  rw [h, Int.one_mul]
theorem split (f : Int) (l : Nat) : f ^ l = (f * f) ^ (l / 2) * f ^ (l % 2) := by
  have h : l = 2 * (l / 2) + l % 2 := by omega
  have e : f ^ 2 = f * f := by rw [Int.pow_succ, Int.pow_succ, Int.pow_zero, Int.one_mul]
  rw [← e, ← Int.pow_mul, ← Int.pow_add, ← h]
theorem turn_odd {p f n v : Int} {l : Nat} (h : p * f ^ l % n = v) (o : l % 2 = 1) : (p * f % n) * (f * f % n) ^ (l / 2) % n = v := by
  rw [← h, split f l, o, Int.pow_succ, Int.pow_zero, Int.one_mul]
  have e : p * ((f * f) ^ (l / 2) * f) = p * f * (f * f) ^ (l / 2) := by
    rw [Int.mul_comm ((f * f) ^ (l / 2)) f, Int.mul_assoc]
  rw [e]
  exact mulC (restC _ _) (powC (restC _ _) _)
theorem turn_even {p f n v : Int} {l : Nat} (h : p * f ^ l % n = v) (o : l % 2 = 0) : p * (f * f % n) ^ (l / 2) % n = v := by
  rw [← h, split f l, o, Int.pow_zero, Int.mul_one]
  exact mulC rfl (powC (restC _ _) _)
theorem done {p f n v : Int} (h : p * f ^ 0 % n = v) (h0 : 0 ≤ p) (h1 : p < n) : p = v := by
  rw [Int.pow_zero, Int.mul_one, Int.emod_eq_of_lt h0 h1] at h
  exact h
end Pw

namespace Jc
open Pr (Prm)
def PN (f : Nat → Nat) : Nat → Nat
  | 0 => 1
  | m + 1 => PN f m * f (m + 1)
theorem PN_list (f : Nat → Nat) : ∀ m, PN f m = ((List.range' 1 m).map f).prod
  | 0 => rfl
  | m + 1 => by
    simp only [PN]
    rw [PN_list f m, List.range'_concat, List.map_append, List.prod_append_nat]
    simp [Nat.add_comm]
theorem PN_perm (p : Nat → Nat) {m : Nat} (hin : ∀ k, 1 ≤ k → k ≤ m → 1 ≤ p k ∧ p k ≤ m) (inj : ∀ k l, 1 ≤ k → k ≤ m → 1 ≤ l → l ≤ m → p k = p l → k = l) : PN p m = PN (fun k => k) m := by
  rw [PN_list, PN_list]
  refine List.Perm.prod_nat ?_
  have e : (List.range' 1 m).map (fun k => k) = List.range' 1 m := by simp
  rw [e]
  refine perm_of ?_ ?_ ?_
  · refine List.pairwise_map.mpr ?_
    have h0 : (List.range' 1 m).Nodup := List.nodup_range'
    refine List.Pairwise.imp_of_mem ?_ h0
    intro a b ha hb ne he
    have ha' := List.mem_range'_1.mp ha
    have hb' := List.mem_range'_1.mp hb
    exact ne (inj a b ha'.1 (by omega) hb'.1 (by omega) he)
  · intro x hx
    obtain ⟨k, hk, rfl⟩ := List.mem_map.mp hx
    have hk' := List.mem_range'_1.mp hk
    have := hin k hk'.1 (by omega)
    exact List.mem_range'_1.mpr ⟨this.1, by omega⟩
  · rw [List.length_map]
    exact Nat.le_refl _
theorem PN_scale (a : Nat) : ∀ m, PN (fun k => a * k) m = a ^ m * PN (fun k => k) m
  | 0 => by simp [PN]
  | m + 1 => by
    simp only [PN]
    rw [PN_scale a m, Nat.pow_succ]
    grind
theorem PN_sign {a n : Nat} (o : Ok a n) : ∀ m, m ≤ n / 2 → ((PN (fun k => a * k) m : Nat) : Int) % n = sg (S (e a n) m) * ((PN (pi a n) m : Nat) : Int) % n
  | 0, _ => by simp [PN, S, sg]
  | m + 1, hm => by
    have n0 : 0 < n := by have := o.odd; omega
    have ih := PN_sign o m (by omega)
    simp only [PN, S]
    rw [Int.natCast_mul (PN (fun k => a * k) m) (a * (m + 1)), Int.natCast_mul (PN (pi a n) m) (pi a n (m + 1)), sg_add]
    have step : ((a * (m + 1) : Nat) : Int) % n = sg (e a n (m + 1)) * ((pi a n (m + 1) : Nat) : Int) % n := by
      have h2 : a * (m + 1) % n < n := Nat.mod_lt _ n0
      have q := Int.emod_add_mul_ediv ((a * (m + 1) : Nat) : Int) n
      have r : ((a * (m + 1) : Nat) : Int) % n = ((a * (m + 1) % n : Nat) : Int) := by rw [Int.natCast_emod]
      unfold e pi sg
      by_cases c : n < 2 * (a * (m + 1) % n)
      · rw [if_pos c, if_pos c, if_neg (by decide), r]
        have : (-1 : Int) * ((n - a * (m + 1) % n : Nat) : Int) = ((a * (m + 1) % n : Nat) : Int) + n * (-1) := by
          rw [Int.natCast_sub (Nat.le_of_lt h2)]
          omega
        rw [this, Int.add_mul_emod_self_left, Int.emod_eq_of_lt (by omega) (by omega)]
      · rw [if_neg c, if_neg c, if_pos rfl, Int.one_mul, r, Int.emod_eq_of_lt (by omega) (by omega)]
    have z := Pw.mulC ih step
    rw [z]
    congr 1
    grind
theorem PN_unit {p : Int} (hp : Prm p) : ∀ m : Nat, (m : Int) < p → ¬ p ∣ ((PN (fun k => k) m : Nat) : Int)
  | 0, _, d => Pr.prm_not_one hp d
  | m + 1, h, d => by
    simp only [PN] at d
    rw [Int.natCast_mul] at d
    rcases Pr.euclid hp d with z | z
    · exact PN_unit hp m (by omega) z
    · have := Int.le_of_dvd (by omega) z
      omega
theorem gauss {p : Nat} (hp : Prm (p : Int)) (po : p % 2 = 1) {a : Nat} (c : Nat.gcd a p = 1) : (p : Int) ∣ (a : Int) ^ (p / 2) - sg (mu a p) := by
  have o : Ok a p := ⟨po, c⟩
  have h1 := PN_sign o (p / 2) (Nat.le_refl _)
  rw [PN_scale, PN_perm (pi a p) (fun k h1 h2 => pi_in o h1 h2) fun k l h1 h2 h3 h4 h => pi_inj o h1 h2 h3 h4 h] at h1
  have h2 := Int.emod_eq_emod_iff_emod_sub_eq_zero.mp h1
  rw [Int.natCast_mul, Int.natCast_pow, ← Int.sub_mul] at h2
  have d := Int.dvd_of_emod_eq_zero h2
  rcases Pr.euclid hp d with z | z
  · exact z
  · exact absurd z (PN_unit hp (p / 2) (by have := hp.two; omega))
theorem euler {p : Int} (hp : Prm p) (po : p % 2 = 1) (x : Int) : Pw.PM x (p / 2).toNat p = J x p % p := by
  have p2 := hp.two
  obtain ⟨q, rfl⟩ : ∃ q : Nat, p = (q : Int) := ⟨p.toNat, by omega⟩
  have hx := Int.emod_nonneg x (show (q : Int) ≠ 0 by omega)
  rw [show ((q : Int) / 2).toNat = q / 2 by omega]
  rw [Pw.PM_cong _ (Pw.restC x q).symm]
  obtain ⟨r, hr⟩ : ∃ r : Nat, x % (q : Int) = (r : Int) := ⟨(x % (q : Int)).toNat, by omega⟩
  rw [J_eq, hr, Int.toNat_natCast, Int.toNat_natCast, Pw.PM_eq]
  by_cases c : Nat.gcd r q = 1
  · rw [jac_cop c]
    exact Int.emod_eq_emod_iff_emod_sub_eq_zero.mpr (Int.emod_eq_zero_of_dvd (gauss hp (by omega) c))
  · rw [jac_not c]
    have d : (q : Int) ∣ (r : Int) := by
      by_cases d : (q : Int) ∣ (r : Int)
      · exact d
      · have k := Pr.prm_coprime hp d
        rw [Int.natAbs_natCast, Int.natAbs_natCast] at k
        exact absurd (by rw [Nat.gcd_comm]; exact Nat.coprime_iff_gcd_eq_one.mp k) c
    have z : (r : Int) % q = 0 % q := by rw [Int.emod_eq_zero_of_dvd d, Int.zero_emod]
    rw [Pw.powC z]
    obtain ⟨k, hk⟩ : ∃ k, q / 2 = k + 1 := ⟨q / 2 - 1, by omega⟩
    rw [hk, Int.pow_succ, Int.mul_zero]
end Jc

namespace Pl
open Jc
def PL : List Nat := [3, 5, 7, 11, 13, 17, 19, 23, 29, 31, 37, 41, 43, 47, 53, 59, 61, 67, 71, 73, 79, 83, 89, 97, 101, 103, 107, 211, 307, 499, 997]
def chkQ (p : Nat) : Bool := (List.range p).all fun x => (List.range (p / 2 + 1)).any (fun r => r * r % p == x) || x ^ (p / 2) % p == p - 1
def F27 (a b c : Nat) : Bool := [0, 1, 4].any fun x => [0, 1, 4].any fun y => [0, 1, 4].any fun z => (x == 1 || y == 1 || z == 1) && (a * x + b * y + c * z) % 8 == 0
def adm (a b c : Nat) : Bool := (a % 4 != 0) && (b % 4 != 0) && (c % 4 != 0) && !(a % 2 == 0 && b % 2 == 0) && !(b % 2 == 0 && c % 2 == 0) && !(c % 2 == 0 && a % 2 == 0)
def chk2 (a b c : Nat) : Bool := !(adm a b c) || (decide (hsR 2 ((16 - a) * c % 16) ((16 - b) * c % 16) = -1) == !(F27 a b c))
end Pl

namespace Pl
open Pr (Prm Told)
open Jc
structure Pln (a b c : Int) : Prop where
  a0 : a ≠ 0
  b0 : b ≠ 0
  c0 : c ≠ 0
  sa : ∀ p, Prm p → ¬ p * p ∣ a
  sb : ∀ p, Prm p → ¬ p * p ∣ b
  sc : ∀ p, Prm p → ¬ p * p ∣ c
  ab : ∀ p, Prm p → p ∣ a → ¬ p ∣ b
  bc : ∀ p, Prm p → p ∣ b → ¬ p ∣ c
  ca : ∀ p, Prm p → p ∣ c → ¬ p ∣ a
theorem root_one {n : Int} {xs : List (Int × Int)} (h : Told n xs) (sq : ∀ p, Prm p → ¬ p * p ∣ n) : Pr.rootP xs = 1 := by
  have r1 := Pr.rootP_pos h.all
  by_cases e : Pr.rootP xs = 1
  · exact e
  · obtain ⟨q, hq, hd⟩ := Pr.prm_some (Pr.rootP xs).toNat (Pr.rootP xs) (by omega) (Nat.le_refl _)
    exfalso
    refine sq q hq ?_
    rw [← h.prod, ← Pr.core_root h.all, Int.mul_assoc]
    exact Int.dvd_trans (Int.mul_dvd_mul hd hd) (Int.dvd_mul_left _ _)
theorem told_mem {n : Int} {xs : List (Int × Int)} (h : Told n xs) {p : Int} : p ∈ xs.map (·.1) ↔ Prm p ∧ p ∣ n := by
  constructor
  · intro m
    obtain ⟨x, hx, rfl⟩ := List.mem_map.mp m
    have pt := h.all x hx
    refine ⟨pt.prime, ?_⟩
    rw [← h.prod]
    clear h
    induction xs with
    | nil => cases hx
    | cons y ys ih =>
      rcases List.mem_cons.mp hx with rfl | hx
      · exact Pr.told_cons_dvd pt
      · have := ih hx (List.mem_map.mpr ⟨x, hx, rfl⟩)
        exact Int.dvd_trans this (Int.dvd_mul_left _ _)
  · rintro ⟨hp, hd⟩
    rw [← h.prod] at hd
    obtain ⟨x, hx, e⟩ := Pr.prm_in hp h.all hd
    exact List.mem_map.mpr ⟨x, hx, e⟩
def Rt (x p : Int) : Prop := ∃ r : Int, p ∣ r * r - x
def Fit8 (a b c : Int) : Prop := ∃ x y z : Int, (x % 2 = 1 ∨ y % 2 = 1 ∨ z % 2 = 1) ∧ (a * x * x + b * y * y + c * z * z) % 8 = 0
def Bad (a b c x : Int) : Prop := (x = 0 ∧ ((a < 0 ∧ b < 0 ∧ c < 0) ∨ (0 < a ∧ 0 < b ∧ 0 < c))) ∨ (x = 2 ∧ ¬ Fit8 a b c) ∨
  (Prm x ∧ x ≠ 2 ∧ ((x ∣ a ∧ ¬ Rt (-(b * c)) x) ∨ (x ∣ b ∧ ¬ Rt (-(c * a)) x) ∨ (x ∣ c ∧ ¬ Rt (-(a * b)) x)))
theorem root_rt {x : Int} {p : Nat} (hp : Prm (p : Int)) (po : p % 2 = 1) (nd : ¬ (p : Int) ∣ x) (h : Rt x p) : J x p = 1 := by
  obtain ⟨r, hr⟩ := h
  have e : x % p = (r * r) % p := (Int.emod_eq_emod_iff_emod_sub_eq_zero.mpr (Int.emod_eq_zero_of_dvd hr)).symm
  have nr : ¬ (p : Int) ∣ r := fun z => nd (by
    have : (p : Int) ∣ r * r - (r * r - x) := Int.dvd_sub (Int.dvd_trans z (Int.dvd_mul_right _ _)) hr
    rw [show r * r - (r * r - x) = x by omega] at this
    exact this)
  have p0 : (0 : Int) < p := by have := hp.two; omega
  rw [J_mod e, J_mul p0 (by omega), J_unit hp nr]
end Pl

namespace Jc
open Pr (Prm)
theorem H_or {p a b : Int} (hp : Prm p) (a0 : a ≠ 0) (b0 : b ≠ 0) : H p a b = 1 ∨ H p a b = -1 := by
  obtain ⟨l1, o1, d1⟩ := decs hp a0
  obtain ⟨l2, o2, d2⟩ := decs hp b0
  rw [H_eq hp d1 d2]
  exact hs_or hp d1 d2
noncomputable def At0 (a b x : Int) : Int := if x = 0 then inf a b else H x a b
def BadJ (a b c x : Int) : Prop := (x = 0 ∧ ((a < 0 ∧ b < 0 ∧ c < 0) ∨ (0 < a ∧ 0 < b ∧ 0 < c))) ∨ (x = 2 ∧ ¬ Pl.Fit8 a b c) ∨
  (Prm x ∧ x ≠ 2 ∧ ((x ∣ a ∧ J (-(b * c)) x = -1) ∨ (x ∣ b ∧ J (-(c * a)) x = -1) ∨ (x ∣ c ∧ J (-(a * b)) x = -1)))
theorem once1 {n p : Int} (sq : ¬ p * p ∣ n) (h : p ∣ n) : ∃ l, n = p * l ∧ ¬ p ∣ l := by
  obtain ⟨l, e⟩ := h
  exact ⟨l, e, fun ⟨m, em⟩ => sq ⟨m, by rw [e, em, Int.mul_assoc]⟩⟩
end Jc

namespace Jc
open Pr (Prm)
def Df (f : Int → Int) : Int → Int := fun x => f (x + 1) - f x
def Dg : Nat → Int → (Int → Int) → Prop
  | 0, c, f => ∀ x, f x = c
  | k + 1, c, f => Dg k (((k : Int) + 1) * c) (Df f)
theorem Dg.congr : ∀ {k : Nat} {c : Int} {f g : Int → Int}, Dg k c f → (∀ x, f x = g x) → Dg k c g
  | 0, c, f, g, h, e => fun x => by rw [← e]; exact h x
  | k + 1, c, f, g, h, e => Dg.congr (k := k) h fun x => by unfold Df; rw [e, e]
theorem Dg.add : ∀ {k : Nat} {c d : Int} {f g : Int → Int}, Dg k c f → Dg k d g → Dg k (c + d) (fun x => f x + g x)
  | 0, c, d, f, g, h, h' => fun x => by show f x + g x = c + d; rw [h x, h' x]
  | k + 1, c, d, f, g, h, h' => by
    show Dg k (((k : Int) + 1) * (c + d)) _
    rw [Int.mul_add]
    exact (Dg.add (k := k) h h').congr fun x => by show (f (x + 1) - f x) + (g (x + 1) - g x) = (f (x + 1) + g (x + 1)) - (f x + g x); omega
theorem Dg.up : ∀ {k : Nat} {c : Int} {f : Int → Int}, Dg k c f → Dg (k + 1) 0 f
  | 0, c, f, h => fun x => by
    show f (x + 1) - f x = ((0 : Nat) + 1 : Int) * 0
    rw [h, h]
    omega
  | k + 1, c, f, h => by
    show Dg (k + 1) (((k + 1 : Nat) + 1 : Int) * 0) (Df f)
    rw [Int.mul_zero]
    exact Dg.up (k := k) h
theorem Dg.mulx : ∀ {k : Nat} {c : Int} {f : Int → Int}, Dg k c f → Dg (k + 1) c (fun x => x * f x)
  | 0, c, f, h => fun x => by
    show (x + 1) * f (x + 1) - x * f x = ((0 : Nat) + 1 : Int) * c
    rw [h, h]
    grind
  | k + 1, c, f, h => by
    have h1 : Dg k (((k : Int) + 1) * c) (Df f) := h
    have a := Dg.mulx (k := k) h1
    have b : Dg (k + 1) c f := h
    have d := h1.up
    have s := (a.add b).add d
    show Dg (k + 1) (((k + 1 : Nat) + 1 : Int) * c) _
    have e : ((k : Int) + 1) * c + c + 0 = ((k + 1 : Nat) + 1 : Int) * c := by
      rw [Int.add_zero, Int.add_mul (((k + 1 : Nat) : Int)), Int.one_mul]
      rfl
    rw [← e]
    refine s.congr fun x => ?_
    show x * (f (x + 1) - f x) + f x + (f (x + 1) - f x) = (x + 1) * f (x + 1) - x * f x
    grind
theorem dg_pow : ∀ k : Nat, Dg k 1 (fun x => x ^ k)
  | 0 => fun x => by simp
  | k + 1 => (dg_pow k).mulx.congr fun x => by rw [Int.pow_succ, Int.mul_comm]
theorem Dg.zero {p : Int} : ∀ {k : Nat} {c : Int} {f : Int → Int}, Dg k c f → ∀ x0 : Int, (∀ j : Nat, j ≤ k → p ∣ f (x0 + j)) → p ∣ c * ((PN (fun k => k) k : Nat) : Int)
  | 0, c, f, h, x0, z => by
    have := z 0 (Nat.le_refl 0)
    rw [h] at this
    show p ∣ c * (1 : Nat)
    simpa using this
  | k + 1, c, f, h, x0, z => by
    have := Dg.zero (k := k) h x0 fun j hj => by
      have h1 := z (j + 1) (by omega)
      have h2 := z j (by omega)
      unfold Df
      refine Int.dvd_sub ?_ h2
      rw [show x0 + (j : Int) + 1 = x0 + ((j + 1 : Nat) : Int) by omega]
      exact h1
    show p ∣ c * ((PN (fun k => k) k * (k + 1) : Nat) : Int)
    rw [Int.natCast_mul]
    have e : ((k : Int) + 1) * c * ((PN (fun k => k) k : Nat) : Int) = c * (((PN (fun k => k) k : Nat) : Int) * ((k + 1 : Nat) : Int)) := by
      rw [show ((k + 1 : Nat) : Int) = (k : Int) + 1 by omega]
      grind
    rw [e] at this
    exact this
theorem non_ex {p : Int} (hp : Prm p) (n2 : p ≠ 2) : ∃ z : Int, 2 ≤ z ∧ z < p ∧ J z p = -1 := by
  have po := prm_odd hp n2
  have p3 : 3 ≤ p := by have := hp.two; omega
  have key : ∃ z : Int, 1 ≤ z ∧ z < p ∧ J z p ≠ 1 := Classical.byContradiction fun no => by
    have all : ∀ z : Int, 1 ≤ z → z < p → J z p = 1 := fun z h1 h2 => Classical.byContradiction fun h => no ⟨z, h1, h2, h⟩
    obtain ⟨k, hk⟩ : ∃ k : Nat, (p / 2).toNat = k + 1 := ⟨(p / 2).toNat - 1, by omega⟩
    have f0 : Dg (k + 1) 1 (fun x => x ^ (k + 1) + (-1)) := by
      have c0 : Dg (k + 1) 0 (fun _ => (-1 : Int)) := by
        have : ∀ m : Nat, Dg (m + 1) 0 (fun _ => (-1 : Int)) := fun m => by
          induction m with
          | zero => exact Dg.up (k := 0) (c := -1) fun _ => rfl
          | succ m ih => exact ih.up
        exact this k
      have := (dg_pow (k + 1)).add c0
      rwa [Int.add_zero] at this
    have := Dg.zero (p := p) f0 1 fun j hj => by
      have e := euler hp po (1 + (j : Int))
      rw [all (1 + (j : Int)) (by omega) (by omega), hk, Pw.PM_eq, Int.emod_eq_of_lt (show (0 : Int) ≤ 1 by decide) (by omega)] at e
      show p ∣ (1 + (j : Int)) ^ (k + 1) + (-1)
      refine Int.dvd_of_emod_eq_zero ?_
      have := Int.emod_eq_emod_iff_emod_sub_eq_zero.mp (e.trans (Int.emod_eq_of_lt (show (0 : Int) ≤ 1 by decide) (by omega : (1 : Int) < p)).symm)
      rw [← Int.sub_eq_add_neg]
      exact this
    rw [Int.one_mul] at this
    exact PN_unit hp (k + 1) (by omega) this
  obtain ⟨z, z1, z2, hz⟩ := key
  have nd : ¬ p ∣ z := fun h => by have := Int.le_of_dvd (by omega) h; omega
  have u := J_unit hp nd
  have jm : J z p = -1 := by
    rcases J_or z p with e | e | e
    · exact absurd e hz
    · rw [e] at u; cases u
    · exact e
  refine ⟨z, ?_, z2, jm⟩
  by_cases c : 2 ≤ z
  · exact c
  · have e1 : z = 1 := by omega
    rw [e1, J_one (by omega) po] at jm
    cases jm
end Jc

namespace Jc
open Pr (Prm)
structure Sf (n : Int) : Prop where
  n0 : n ≠ 0
  sq : ∀ p, Prm p → ¬ p * p ∣ n
theorem prim_of {a b p : Int} (hp : Prm p) : ∀ (m : Nat) (x y z : Int), x.natAbs + y.natAbs + z.natAbs ≤ m → (x ≠ 0 ∨ y ≠ 0 ∨ z ≠ 0) → x * x = a * (y * y) + b * (z * z) → ∃ x y z : Int, x * x = a * (y * y) + b * (z * z) ∧ ¬ (p ∣ x ∧ p ∣ y ∧ p ∣ z)
  | 0, x, y, z, h, n, _ => by omega
  | m + 1, x, y, z, h, n, e => by
    by_cases c : p ∣ x ∧ p ∣ y ∧ p ∣ z
    · obtain ⟨⟨u, rfl⟩, ⟨v, rfl⟩, ⟨w, rfl⟩⟩ := c
      have p2 := hp.two
      have pp : p * p ≠ 0 := Int.mul_ne_zero (by omega) (by omega)
      have e2 : p * p * (u * u) = p * p * (a * (v * v) + b * (w * w)) := by grind
      have e3 := Int.eq_of_mul_eq_mul_left pp e2
      have big : ∀ t : Int, 2 * t.natAbs ≤ (p * t).natAbs := fun t => by
        rw [Int.natAbs_mul]
        exact Nat.mul_le_mul_right _ (by omega)
      have n2 : u ≠ 0 ∨ v ≠ 0 ∨ w ≠ 0 := by
        rcases n with n | n | n
        · exact .inl fun z => n (by rw [z, Int.mul_zero])
        · exact .inr (.inl fun z => n (by rw [z, Int.mul_zero]))
        · exact .inr (.inr fun z => n (by rw [z, Int.mul_zero]))
      have h1 := big u
      have h2 := big v
      have h3 := big w
      exact prim_of hp m u v w (by omega) n2 e3
    · exact ⟨x, y, z, e, c⟩
theorem dvd_sqr {p x : Int} (hp : Prm p) (h : p ∣ x * x) : p ∣ x := (Pr.euclid hp h).elim id id
section
variable {a b p x y z : Int}
theorem unit_b (hp : Prm p) (n2 : p ≠ 2) {l : Int} (eb : b = p * l) (nl : ¬ p ∣ l) (na : ¬ p ∣ a) (e : x * x = a * (y * y) + b * (z * z)) (nn : ¬ (p ∣ x ∧ p ∣ y ∧ p ∣ z)) : J a p = 1 := by
  have po := prm_odd hp n2
  have p0 : 0 < p := by have := hp.two; omega
  subst eb
  have ny : ¬ p ∣ y := fun hy => by
    have hx : p ∣ x := dvd_sqr hp (by
      rw [e]
      exact Int.dvd_add (Int.dvd_trans (Int.dvd_trans hy (Int.dvd_mul_right y y)) (Int.dvd_mul_left a _)) ⟨l * (z * z), by rw [Int.mul_assoc]⟩)
    obtain ⟨u, rfl⟩ := hx
    obtain ⟨v, rfl⟩ := hy
    have e2 : p * (p * (u * u) - p * (a * (v * v))) = p * (l * (z * z)) := by grind
    have e3 := Int.eq_of_mul_eq_mul_left (show p ≠ 0 by omega) e2
    have d : p ∣ l * (z * z) := ⟨u * u - a * (v * v), by rw [← e3]; grind⟩
    rcases Pr.euclid hp d with h | h
    · exact nl h
    · exact nn ⟨⟨u, rfl⟩, ⟨v, rfl⟩, dvd_sqr hp h⟩
  have em : (x * x) % p = (a * (y * y)) % p := Int.emod_eq_emod_iff_emod_sub_eq_zero.mpr (Int.emod_eq_zero_of_dvd ⟨l * (z * z), by rw [e]; grind⟩)
  have nx : ¬ p ∣ x := fun hx => by
    have d : p ∣ a * (y * y) := by
      have h1 : (x * x) % p = 0 := Int.emod_eq_zero_of_dvd (Int.dvd_trans hx (Int.dvd_mul_right x x))
      exact Int.dvd_of_emod_eq_zero (em ▸ h1)
    rcases Pr.euclid hp d with h | h
    · exact na h
    · exact ny (dvd_sqr hp h)
  have j := J_mod em
  rw [J_mul p0 po, J_mul p0 po, J_mul p0 po, J_unit hp nx, J_unit hp ny, Int.mul_one] at j
  exact j.symm
theorem both_ab (hp : Prm p) (n2 : p ≠ 2) {k l : Int} (ea : a = p * k) (eb : b = p * l) (nk : ¬ p ∣ k) (nl : ¬ p ∣ l) (e : x * x = a * (y * y) + b * (z * z)) (nn : ¬ (p ∣ x ∧ p ∣ y ∧ p ∣ z)) : J (-k * l) p = 1 := by
  have po := prm_odd hp n2
  have p0 : 0 < p := by have := hp.two; omega
  subst ea eb
  have hx : p ∣ x := dvd_sqr hp ⟨k * (y * y) + l * (z * z), by rw [e]; grind⟩
  obtain ⟨u, rfl⟩ := hx
  have e2 : p * (p * (u * u)) = p * (k * (y * y) + l * (z * z)) := by grind
  have e3 := Int.eq_of_mul_eq_mul_left (show p ≠ 0 by omega) e2
  have ny : ¬ p ∣ y := fun hy => by
    have d : p ∣ l * (z * z) := by
      obtain ⟨v, rfl⟩ := hy
      exact ⟨u * u - k * (v * (p * v)), by grind⟩
    rcases Pr.euclid hp d with h | h
    · exact nl h
    · exact nn ⟨⟨u, rfl⟩, hy, dvd_sqr hp h⟩
  have nz : ¬ p ∣ z := fun hz => by
    have d : p ∣ k * (y * y) := by
      obtain ⟨v, rfl⟩ := hz
      exact ⟨u * u - l * (v * (p * v)), by grind⟩
    rcases Pr.euclid hp d with h | h
    · exact nk h
    · exact ny (dvd_sqr hp h)
  have em : (-k * l * (y * y)) % p = (l * l * (z * z)) % p := Int.emod_eq_emod_iff_emod_sub_eq_zero.mpr (Int.emod_eq_zero_of_dvd ⟨-(l * (u * u)), by grind⟩)
  have j := J_mod em
  rw [J_mul p0 po (-k * l), J_mul p0 po y, J_unit hp ny, J_mul p0 po (l * l), J_mul p0 po l, J_unit hp nl, J_mul p0 po z, J_unit hp nz, Int.mul_one, Int.mul_one] at j
  exact j
theorem odd_solv (hp : Prm p) (n2 : p ≠ 2) (sa : Sf a) (sb : Sf b) (nt : x ≠ 0 ∨ y ≠ 0 ∨ z ≠ 0) (e : x * x = a * (y * y) + b * (z * z)) : H p a b = 1 := by
  obtain ⟨x, y, z, e, nn⟩ := prim_of hp _ x y z (Nat.le_refl _) nt e
  by_cases ha : p ∣ a
  · obtain ⟨k, ek, nk⟩ := once1 (sa.sq p hp) ha
    have d1 : Dec a p k 1 := ⟨by rw [ek]; show _ = p ^ (1 : Nat) * _; rw [Int.pow_succ, Int.pow_zero, Int.one_mul], by decide, nk⟩
    by_cases hb : p ∣ b
    · obtain ⟨l, el, nl⟩ := once1 (sb.sq p hp) hb
      have d2 : Dec b p l 1 := ⟨by rw [el]; show _ = p ^ (1 : Nat) * _; rw [Int.pow_succ, Int.pow_zero, Int.one_mul], by decide, nl⟩
      rw [H_eq hp d1 d2]
      unfold hs odd4
      rw [if_neg n2, if_pos (by decide), if_pos (by decide)]
      exact both_ab hp n2 ek el nk nl e nn
    · rw [H_eq hp d1 (dec_out hb)]
      unfold hs odd4
      rw [if_neg n2, if_pos (by decide), if_neg (by decide)]
      exact unit_b (a := b) (b := a) (y := z) (z := y) hp n2 ek nk hb (by rw [e]; omega) fun h => nn ⟨h.1, h.2.2, h.2.1⟩
  · by_cases hb : p ∣ b
    · obtain ⟨l, el, nl⟩ := once1 (sb.sq p hp) hb
      have d2 : Dec b p l 1 := ⟨by rw [el]; show _ = p ^ (1 : Nat) * _; rw [Int.pow_succ, Int.pow_zero, Int.one_mul], by decide, nl⟩
      rw [H_eq hp (dec_out ha) d2]
      unfold hs odd4
      rw [if_neg n2, if_neg (by decide), if_pos (by decide)]
      exact unit_b hp n2 el nl ha e nn
    · exact H_out hp n2 ha hb
theorem inf_solv (nt : x ≠ 0 ∨ y ≠ 0 ∨ z ≠ 0) (e : x * x = a * (y * y) + b * (z * z)) : inf a b = 1 := by
  unfold inf
  refine if_neg fun ⟨ha, hb⟩ => ?_
  have sq : ∀ t : Int, 0 ≤ t * t := fun t => by
    rcases Int.le_total 0 t with h | h
    · exact Int.mul_nonneg h h
    · exact Int.mul_nonneg_of_nonpos_of_nonpos h h
  have sp : ∀ t : Int, t ≠ 0 → 0 < t * t := fun t h => by
    have h1 := sq t
    have h2 : t * t ≠ 0 := Int.mul_ne_zero h h
    omega
  have hy := Int.mul_nonpos_of_nonpos_of_nonneg (show a ≤ 0 by omega) (sq y)
  have hz := Int.mul_nonpos_of_nonpos_of_nonneg (show b ≤ 0 by omega) (sq z)
  have hx := sq x
  rcases nt with n | n | n
  · have := sp x n
    omega
  · have := Int.mul_neg_of_neg_of_pos ha (sp y n)
    omega
  · have := Int.mul_neg_of_neg_of_pos hb (sp z n)
    omega
end
theorem primes_ex (N : Nat) : ∃ L : List Int, (∀ p ∈ L, Prm p) ∧ L.Nodup ∧ ∀ p, Prm p → p ≤ N → p ∈ L := by
  refine ⟨((List.range (N + 1)).map fun (n : Nat) => (n : Int)).filter fun p => @decide (Prm p) (Classical.propDecidable _), fun p h => ?_, ?_, fun p hp hn => ?_⟩
  · exact @of_decide_eq_true _ (Classical.propDecidable _) (List.mem_filter.mp h).2
  · have h0 : (List.range (N + 1)).Pairwise (fun i j : Nat => (i : Int) ≠ (j : Int)) := List.Pairwise.imp (R := (· ≠ ·)) (fun {i j} h e => h (Int.ofNat_inj.mp e)) List.nodup_range
    exact (List.pairwise_map.mpr h0).filter _
  · refine List.mem_filter.mpr ⟨List.mem_map.mpr ⟨p.toNat, List.mem_range.mpr (by omega), by have := hp.two; omega⟩, @decide_eq_true _ (Classical.propDecidable _) hp⟩
theorem two_of {a b : Int} (a0 : a ≠ 0) (b0 : b ≠ 0) (i : inf a b = 1) (h : ∀ p, Prm p → p ≠ 2 → H p a b = 1) : H 2 a b = 1 := by
  obtain ⟨L, hL, nd, mem⟩ := primes_ex (a.natAbs + b.natAbs + 2)
  have h2 : (2 : Int) ∈ L := mem 2 prm_2 (by omega)
  have le : ∀ {n p : Int}, n ≠ 0 → p ∣ n → p ≤ (n.natAbs : Int) := fun {n p} n0 d => by
    have := Nat.le_of_dvd (by omega) (Int.natAbs_dvd_natAbs.mpr d)
    omega
  have w := W_all hL nd h2 a0 b0 (fun p hp d => mem p hp (by have := le a0 d; omega)) (fun p hp d => mem p hp (by have := le b0 d; omega))
  unfold W at w
  rw [i, PP_pick h2, PP_one (f := fun p => H p a b) (L := L.erase 2) (fun p hp => ?_), Int.one_mul, Int.mul_one] at w
  · exact w
  · have := (List.Nodup.mem_erase_iff nd).mp hp
    exact h p (hL p this.2) this.1
structure Good (a b : Int) : Prop where
  a0 : a ≠ 0
  b0 : b ≠ 0
  i : inf a b = 1
  h : ∀ p, Prm p → H p a b = 1
theorem good_of {a b : Int} (a0 : a ≠ 0) (b0 : b ≠ 0) (i : inf a b = 1) (h : ∀ p, Prm p → p ≠ 2 → H p a b = 1) : Good a b := ⟨a0, b0, i, fun p hp => by
  by_cases e : p = 2
  · rw [e]; exact two_of a0 b0 i h
  · exact h p hp e⟩
theorem good_solv {a b x y z : Int} (sa : Sf a) (sb : Sf b) (nt : x ≠ 0 ∨ y ≠ 0 ∨ z ≠ 0) (e : x * x = a * (y * y) + b * (z * z)) : Good a b :=
  good_of sa.n0 sb.n0 (inf_solv nt e) fun p hp n2 => odd_solv hp n2 sa sb nt e
theorem Good.sym {a b : Int} (g : Good a b) : Good b a := ⟨g.b0, g.a0, by rw [inf_sym]; exact g.i, fun p hp => by rw [H_sym hp g.b0 g.a0]; exact g.h p hp⟩
theorem Good.mul {a b c : Int} (g : Good a b) (k : Good a c) : Good a (b * c) := ⟨g.a0, Int.mul_ne_zero g.b0 k.b0, by rw [inf_mul g.b0 k.b0, g.i, k.i]; rfl, fun p hp => by rw [H_mul hp g.a0 g.b0 k.b0, g.h p hp, k.h p hp]; rfl⟩
theorem Good.left {a b c : Int} (g : Good a b) (k : Good a (b * c)) (c0 : c ≠ 0) : Good a c := ⟨g.a0, c0, by have := k.i; rwa [inf_mul g.b0 c0, g.i, Int.one_mul] at this, fun p hp => by have := k.h p hp; rwa [H_mul hp g.a0 g.b0 c0, g.h p hp, Int.one_mul] at this⟩
theorem good_sq {a s : Int} (a0 : a ≠ 0) (s0 : s ≠ 0) : Good a (s * s) := ⟨a0, Int.mul_ne_zero s0 s0, by
  rw [inf_mul s0 s0]
  unfold inf
  split <;> rfl, fun p hp => by
  rw [H_mul hp a0 s0 s0]
  rcases H_or hp a0 s0 with e | e <;> rw [e] <;> rfl⟩
theorem Good.up {a d s : Int} (g : Good a d) (s0 : s ≠ 0) : Good a (d * (s * s)) := g.mul (good_sq g.a0 s0)
theorem core_ex : ∀ (m : Nat) (n : Int), n.natAbs ≤ m → n ≠ 0 → ∃ d s : Int, s ≠ 0 ∧ n = d * (s * s) ∧ Sf d
  | 0, n, h, n0 => by omega
  | m + 1, n, h, n0 => by
    by_cases c : ∃ p, Prm p ∧ p * p ∣ n
    · obtain ⟨p, hp, k, rfl⟩ := c
      have k0 : k ≠ 0 := fun z => n0 (by rw [z, Int.mul_zero])
      have p2 := hp.two
      have lt : k.natAbs ≤ m := by
        rw [Int.natAbs_mul, Int.natAbs_mul] at h
        have h4 := Nat.mul_le_mul (show 2 ≤ p.natAbs by omega) (show 2 ≤ p.natAbs by omega)
        have := Nat.mul_le_mul_right k.natAbs h4
        omega
      obtain ⟨d, s, s0, e, sf⟩ := core_ex m k lt k0
      exact ⟨d, p * s, Int.mul_ne_zero (by omega) s0, by rw [e]; grind, sf⟩
    · exact ⟨n, 1, by decide, by omega, n0, fun p hp d => c ⟨p, hp, d⟩⟩
theorem Good.down {a b c w u : Int} (sa : Sf a) (g : Good a b) (c0 : c ≠ 0) (u0 : u ≠ 0) (e : w * w - a = b * c * (u * u)) : Good a c := by
  obtain ⟨d, s, s0, ed, sd⟩ := core_ex _ (b * c) (Nat.le_refl _) (Int.mul_ne_zero g.b0 c0)
  have gd : Good a d := good_solv (x := w) (y := 1) (z := s * u) sa sd (.inr (.inl (by decide))) (by
    rw [ed] at e
    grind)
  exact g.left (ed ▸ gd.up s0) c0
theorem Good.root {a b p : Int} (g : Good a b) (sb : Sf b) (hp : Prm p) (hd : p ∣ b) : p = 2 ∨ J a p ≠ -1 := by
  by_cases n2 : p = 2
  · exact .inl n2
  refine .inr fun j => ?_
  obtain ⟨l, el, nl⟩ := once1 (sb.sq p hp) hd
  have d2 : Dec b p l 1 := ⟨by rw [el]; show _ = p ^ (1 : Nat) * _; rw [Int.pow_succ, Int.pow_zero, Int.one_mul], by decide, nl⟩
  by_cases ha : p ∣ a
  · have e : J a p = J 0 p := J_mod (by rw [Int.emod_eq_zero_of_dvd ha, Int.zero_emod])
    rw [e, J_zero (by have := hp.two; omega) (by have := hp.two; omega)] at j
    cases j
  · have h := g.h p hp
    rw [H_eq hp (dec_out ha) d2] at h
    unfold hs odd4 at h
    rw [if_neg n2, if_neg (by decide), if_pos (by decide), j] at h
    cases h
theorem prm_div : ∀ (m : Nat) (n : Int), n.natAbs ≤ m → 2 ≤ n → ∃ p, Prm p ∧ p ∣ n
  | 0, n, h, n2 => by omega
  | m + 1, n, h, n2 => by
    by_cases c : ∃ k, 2 ≤ k ∧ k * k ≤ n ∧ k ∣ n
    · obtain ⟨k, k2, kk, d⟩ := c
      have lt : k < n := by
        have := Int.mul_le_mul_of_nonneg_right k2 (show 0 ≤ k by omega)
        omega
      obtain ⟨p, hp, hd⟩ := prm_div m k (by omega) k2
      exact ⟨p, hp, Int.dvd_trans hd d⟩
    · exact ⟨n, ⟨n2, fun k k2 kk d => c ⟨k, k2, kk, d⟩⟩, Int.dvd_refl n⟩
theorem no_root {a w : Int} (sa : Sf a) (a1 : a ≠ 1) : w * w - a ≠ 0 := fun z => by
  have e : a = w * w := by omega
  have w0 : w ≠ 0 := fun h => sa.n0 (by rw [e, h]; rfl)
  by_cases c : 2 ≤ (w.natAbs : Int)
  · obtain ⟨p, hp, hd⟩ := prm_div _ (w.natAbs : Int) (Nat.le_refl _) c
    have hw : p ∣ w := Int.dvd_natAbs.mp hd
    exact sa.sq p hp (by rw [e]; exact Int.mul_dvd_mul hw hw)
  · have : w = 1 ∨ w = -1 := by omega
    rcases this with h | h <;> rw [h] at e <;> exact a1 e
theorem small_c {a b c w u : Int} (ab : a.natAbs ≤ b.natAbs) (b2 : 2 ≤ b.natAbs) (w0 : 0 ≤ w) (w1 : 2 * w ≤ (b.natAbs : Int)) (u1 : 1 ≤ u) (e : w * w - a = b * c * (u * u)) : 2 * c.natAbs ≤ b.natAbs ∧ 4 * (c.natAbs * u.natAbs) ≤ b.natAbs + 4 := by
  have h1 : (w * w - a).natAbs = b.natAbs * c.natAbs * (u.natAbs * u.natAbs) := by rw [e, Int.natAbs_mul, Int.natAbs_mul, Int.natAbs_mul]
  have h2 : (w * w - a).natAbs ≤ w.natAbs * w.natAbs + a.natAbs := by
    have := Int.natAbs_sub_le (w * w) a
    rwa [Int.natAbs_mul] at this
  have h3 : 4 * (w.natAbs * w.natAbs) ≤ b.natAbs * b.natAbs := by
    have := Nat.mul_le_mul (show 2 * w.natAbs ≤ b.natAbs by omega) (show 2 * w.natAbs ≤ b.natAbs by omega)
    have e4 : 2 * w.natAbs * (2 * w.natAbs) = 4 * (w.natAbs * w.natAbs) := by
      rw [Nat.mul_mul_mul_comm]
    omega
  generalize b.natAbs = B at *
  generalize c.natAbs = C at *
  generalize hU : u.natAbs = U at *
  have U1 : 1 ≤ U := by omega
  generalize w.natAbs * w.natAbs = W at *
  rw [h1] at h2
  have k : C * U ≤ C * (U * U) := Nat.mul_le_mul_left C (Nat.le_mul_of_pos_left U U1)
  have k2 : C ≤ C * U := Nat.le_mul_of_pos_right C U1
  have k3 : B * (4 * (C * (U * U))) ≤ B * (B + 4) := by
    have e1 : B * (4 * (C * (U * U))) = 4 * (B * C * (U * U)) := by
      rw [Nat.mul_assoc B C, Nat.mul_left_comm]
    have e2 : B * (B + 4) = B * B + B * 4 := Nat.mul_add B B 4
    omega
  have k4 := Nat.le_of_mul_le_mul_left k3 (show 0 < B by omega)
  omega
end Jc

namespace Jc
open Pr (Prm)
structure Ton (p n root over turner : Int) (h : Nat) : Prop where
  ro : root * root % p = n * over % p
  ov : over ^ (if h = 0 then 1 else 2 * h) % p = 1 % p
  tu : h ≠ 0 → turner ^ (2 * h) % p = (-1) % p
  two : h = 0 ∨ ∃ j, h = 2 ^ j
theorem half_two {h : Nat} (h0 : h ≠ 0) (t : h = 0 ∨ ∃ j, h = 2 ^ j) : (h / 2 = 0 ∨ ∃ j, h / 2 = 2 ^ j) ∧ (if h / 2 = 0 then 1 else 2 * (h / 2)) = h := by
  rcases t with z | ⟨j, rfl⟩
  · exact absurd z h0
  · cases j with
    | zero => exact ⟨.inl rfl, rfl⟩
    | succ j =>
      have e : 2 ^ (j + 1) / 2 = 2 ^ j := by rw [Nat.pow_succ]; omega
      have p : 0 < 2 ^ j := Nat.pow_pos (by decide)
      rw [e]
      exact ⟨.inr ⟨j, rfl⟩, by rw [if_neg (by omega), Nat.pow_succ]; omega⟩
theorem sq_pow (t : Int) (h : Nat) : (t * t) ^ h = t ^ (2 * h) := by
  rw [Int.pow_mul]
  congr 1
  rw [Int.pow_succ, Int.pow_succ, Int.pow_zero, Int.one_mul]
theorem tu_next {p turner : Int} {h : Nat} (h0 : h ≠ 0) (t : h = 0 ∨ ∃ j, h = 2 ^ j) (tu : turner ^ (2 * h) % p = (-1) % p) : h / 2 ≠ 0 → (turner * turner % p) ^ (2 * (h / 2)) % p = (-1) % p := fun z => by
  have e := (half_two h0 t).2
  rw [if_neg z] at e
  rw [e, Pw.powC (Pw.restC _ _), sq_pow]
  exact tu
theorem Ton.keep {p n root over turner : Int} {h : Nat} (T : Ton p n root over turner h) (h0 : h ≠ 0) (c : over ^ h % p = 1 % p) : Ton p n root over (turner * turner % p) (h / 2) := by
  obtain ⟨a, b⟩ := half_two h0 T.two
  exact ⟨T.ro, by rw [b]; exact c, tu_next h0 T.two (T.tu h0), a⟩
theorem Ton.turn {p n root over turner : Int} {h : Nat} (hp : Prm p) (T : Ton p n root over turner h) (h0 : h ≠ 0) (c : ¬ over ^ h % p = 1 % p) : Ton p n (root * turner % p) (over * turner * turner % p) (turner * turner % p) (h / 2) := by
  obtain ⟨a, b⟩ := half_two h0 T.two
  have ov := T.ov
  rw [if_neg h0] at ov
  have m1 : over ^ h % p = (-1) % p := by
    have d : p ∣ (over ^ h - 1) * (over ^ h + 1) := by
      refine Int.dvd_of_emod_eq_zero ?_
      have z := Int.emod_eq_emod_iff_emod_sub_eq_zero.mp ov
      rw [show over ^ (2 * h) = over ^ h * over ^ h by rw [show 2 * h = h + h by omega, Int.pow_add]] at z
      rw [show (over ^ h - 1) * (over ^ h + 1) = over ^ h * over ^ h - 1 by grind]
      exact z
    rcases Pr.euclid hp d with z | z
    · exact absurd (Int.emod_eq_emod_iff_emod_sub_eq_zero.mpr (Int.emod_eq_zero_of_dvd z)) c
    · exact Int.emod_eq_emod_iff_emod_sub_eq_zero.mpr (Int.emod_eq_zero_of_dvd (by rw [Int.sub_neg]; exact z))
  refine ⟨?_, ?_, tu_next h0 T.two (T.tu h0), a⟩
  · have e1 : (root * turner % p) * (root * turner % p) % p = (root * root) * (turner * turner) % p := by
      rw [Pw.mulC (Pw.restC _ _) (Pw.restC _ _)]
      congr 1
      grind
    have e2 : n * (over * turner * turner % p) % p = (n * over) * (turner * turner) % p := by
      rw [Pw.mulC rfl (Pw.restC _ _)]
      congr 1
      grind
    rw [e1, e2]
    exact Pw.mulC T.ro rfl
  · rw [b, Pw.powC (Pw.restC _ _), Int.mul_assoc, Int.mul_pow, sq_pow, Pw.mulC m1 (T.tu h0)]
    rfl
theorem Ton.done {p n root over turner : Int} (T : Ton p n root over turner 0) : root * root % p = n % p := by
  have ov := T.ov
  rw [if_pos rfl, Int.pow_succ, Int.pow_zero, Int.one_mul] at ov
  rw [T.ro, Pw.mulC rfl ov, Int.mul_one]
theorem ton_start {p n z : Int} {o : Nat} {e : Nat} (hp : Prm p) (po : p % 2 = 1) (hn : J n p = 1) (hz : J z p = -1) (oo : o % 2 = 1) (pe : p - 1 = 2 ^ e * (o : Int)) (e1 : 1 ≤ e) :
    Ton p n (Pw.PM n ((o + 1) / 2) p) (Pw.PM n o p) (Pw.PM z o p) (2 ^ e / 4) := by
  have p2 := hp.two
  have hf : (p / 2).toNat = o * 2 ^ (e - 1) := by
    obtain ⟨k, rfl⟩ : ∃ k, e = k + 1 := ⟨e - 1, by omega⟩
    have q : p - 1 = 2 * ((o * 2 ^ k : Nat) : Int) := by
      rw [pe, Int.pow_succ, Int.natCast_mul, Int.natCast_pow]
      show (2 : Int) ^ k * 2 * (o : Int) = 2 * ((o : Int) * 2 ^ k)
      grind
    rw [show k + 1 - 1 = k by omega]
    omega
  have en : n ^ (o * 2 ^ (e - 1)) % p = 1 % p := by
    have h := euler hp po n
    rw [hf, hn, Pw.PM_eq] at h
    exact h
  have ez : z ^ (o * 2 ^ (e - 1)) % p = (-1) % p := by
    have h := euler hp po z
    rw [hf, hz, Pw.PM_eq] at h
    exact h
  refine ⟨?_, ?_, fun h0 => ?_, ?_⟩
  · have h := (Pw.PM_add n p ((o + 1) / 2) ((o + 1) / 2)).symm
    rw [h, show (o + 1) / 2 + (o + 1) / 2 = o + 1 by omega, Pw.PM_succ, Int.mul_comm]
  · rw [Pw.PM_eq, Pw.powC (Pw.restC _ _), ← Int.pow_mul]
    have k : (if 2 ^ e / 4 = 0 then 1 else 2 * (2 ^ e / 4)) = 2 ^ (e - 1) := by
      rcases (show e = 1 ∨ 2 ≤ e by omega) with z | z
      · subst z; rfl
      · obtain ⟨j, rfl⟩ : ∃ j, e = j + 2 := ⟨e - 2, by omega⟩
        have p : 0 < 2 ^ j := Nat.pow_pos (by decide)
        rw [show j + 2 - 1 = j + 1 by omega, Nat.pow_succ, Nat.pow_succ, if_neg (by omega)]
        omega
    rw [k]
    exact en
  · rw [Pw.PM_eq, Pw.powC (Pw.restC _ _), ← Int.pow_mul]
    have k : 2 * (2 ^ e / 4) = 2 ^ (e - 1) := by
      rcases (show e = 1 ∨ 2 ≤ e by omega) with z | z
      · subst z; exact absurd rfl h0
      · obtain ⟨j, rfl⟩ : ∃ j, e = j + 2 := ⟨e - 2, by omega⟩
        rw [show j + 2 - 1 = j + 1 by omega, Nat.pow_succ, Nat.pow_succ]
        omega
    rw [k]
    exact ez
  · rcases (show e = 1 ∨ 2 ≤ e by omega) with z | z
    · subst z; exact .inl rfl
    · obtain ⟨j, rfl⟩ : ∃ j, e = j + 2 := ⟨e - 2, by omega⟩
      refine .inr ⟨j, ?_⟩
      rw [Nat.pow_succ, Nat.pow_succ]
      omega
end Jc

namespace Jc
open Pr (Prm)
abbrev Q24 : List Int := [2, 3, 5, 7, 11, 13, 17, 19, 23, 29, 31, 37, 41, 43, 47, 53, 59, 97, 193, 257, 10007, 99991, 483289, 999983]
def noDiv2 (p m : Nat) : Bool := (List.range m).all fun k => Nat.ble k 1 || (Nat.blt p (k * k) || !(p % k == 0))
theorem prm_by2 {p m : Nat} (p2 : 2 ≤ p) (hm : p < m * m) (h : noDiv2 p m = true) : Prm (p : Int) := by
  refine ⟨by omega, fun k k2 kk hd => ?_⟩
  obtain ⟨j, rfl⟩ : ∃ j : Nat, k = (j : Int) := ⟨k.toNat, by omega⟩
  have jj : j * j ≤ p := by
    have : ((j * j : Nat) : Int) ≤ (p : Int) := by rw [Int.natCast_mul]; exact kk
    omega
  have jm : j < m := by
    rcases Nat.lt_or_ge j m with z | z
    · exact z
    · have := Nat.mul_le_mul z z
      omega
  have c := List.all_eq_true.mp h j (List.mem_range.mpr jm)
  have d : p % j = 0 := Nat.mod_eq_zero_of_dvd (Int.natCast_dvd_natCast.mp hd)
  have b2 : Nat.blt p (j * j) = false := by
    rcases hb : Nat.blt p (j * j) with _ | _
    · rfl
    · have := Nat.le_of_ble_eq_true hb
      omega
  rw [d, b2] at c
  have c' : Nat.ble j 1 = true := by simpa using c
  have := Nat.le_of_ble_eq_true c'
  omega
def nrOf (p : Nat) : Nat := if p = 17 then 3 else if p = 41 then 3 else if p = 97 then 5 else if p = 193 then 5 else if p = 257 then 3 else 31
theorem join_one {n m g sh th : Int} (g0 : 0 ≤ g) (e : g = sh * n + th * m) (hn : ∃ k, n = k * g) (hm : ∃ k, m = k * g) {p : Int} (hp : Prm p) (mp : m = p) (nd : ¬ p ∣ n) : g = 1 := by
  obtain ⟨k, hk⟩ := hm
  have d : g ∣ p := ⟨k, by rw [← mp, hk, Int.mul_comm]⟩
  have p2 := hp.two
  have gp : g ≠ 0 := fun z => by rw [z] at d; have := Int.zero_dvd.mp d; omega
  rcases Pr.prm_one_or hp (by omega) d with z | z
  · exact z
  · obtain ⟨j, hj⟩ := hn
    exact absurd ⟨j, by rw [hj, z, Int.mul_comm]⟩ nd
theorem join_fit {r n s m sh th : Int} (e : 1 = sh * n + th * m) : (r + sh * n * (s - r)) % n = r % n ∧ (r + sh * n * (s - r)) % m = s % m := by
  constructor
  · rw [show r + sh * n * (s - r) = r + n * (sh * (s - r)) by grind, Int.add_mul_emod_self_left]
  · have h : r + sh * n * (s - r) = s + m * (-(th * (s - r))) := by grind
    rw [h, Int.add_mul_emod_self_left]
theorem join_both {X n m r s : Int} (h : X % n = r % n ∧ X % m = s % m) : (X % (n * m)) % n = r % n ∧ (X % (n * m)) % m = s % m :=
  ⟨by rw [Int.emod_emod_of_dvd X (Int.dvd_mul_right n m)]; exact h.1, by rw [Int.emod_emod_of_dvd X (Int.dvd_mul_left n m)]; exact h.2⟩
theorem sq_fit {x r n a : Int} (h : x % n = r % n) (k : (r * r - a) % n = 0) : (x * x - a) % n = 0 :=
  Int.emod_eq_emod_iff_emod_sub_eq_zero.mp ((Pw.mulC h h).trans (Int.emod_eq_emod_iff_emod_sub_eq_zero.mpr k))
theorem sq_join {y n p : Int} (hp : Prm p) (nd : ¬ p ∣ n) (h1 : y % n = 0) (h2 : y % p = 0) : y % (n * p) = 0 := by
  obtain ⟨k, rfl⟩ := Int.dvd_of_emod_eq_zero h1
  rcases Pr.euclid hp (Int.dvd_of_emod_eq_zero h2) with z | ⟨j, rfl⟩
  · exact absurd z nd
  · exact Int.emod_eq_zero_of_dvd ⟨j, by grind⟩
theorem small_root {x n a : Int} (n0 : 0 < n) (x0 : 0 ≤ x) (x1 : x < n) (h : (x * x - a) % n = 0) : ∀ w, w = (if x ≤ n - x then x else n - x) → 0 ≤ w ∧ 2 * w ≤ n ∧ (w * w - a) % n = 0 := by
  intro w hw
  split at hw
  · subst hw; exact ⟨x0, by omega, h⟩
  · subst hw
    refine ⟨by omega, by omega, ?_⟩
    rw [show (n - x) * (n - x) - a = (x * x - a) + n * (n - 2 * x) by grind, Int.add_mul_emod_self_left]
    exact h
structure Lst (n : Int) : Prop where
  pos : 1 ≤ n
  sq : ∀ q, Prm q → ¬ q * q ∣ n
  ins : ∀ q, Prm q → q ∣ n → q ∈ Q24
theorem ahead {n : Int} {xs : List (Int × Int)} (t : Pr.Told n xs) {i : Nat} {x : Int × Int} (hx : xs[i]? = some x) : ¬ x.1 ∣ Pr.prodP (xs.take i) := fun d => by
  have pt := t.all x (List.mem_of_getElem? hx)
  obtain ⟨y, hy, e⟩ := Pr.prm_in pt.prime (fun z hz => t.all z (List.mem_of_mem_take hz)) d
  obtain ⟨j, hj, ej⟩ := List.getElem_of_mem hy
  have jl : j < i := by rw [List.length_take] at hj; omega
  have il : i < xs.length := (List.getElem?_eq_some_iff.mp hx).1
  have := List.pairwise_iff_getElem.mp t.rise j i (by omega) il jl
  rw [List.getElem_take] at ej
  rw [ej, (List.getElem?_eq_some_iff.mp hx).2] at this
  omega
end Jc

namespace Sh
theorem quot (x y : Int) : x = y * Int.fdiv x y + Int.fmod x y := by rw [Int.fmod_def]; omega
structure Rows (x y a s t b u v : Int) : Prop where
  up : a = s * x + t * y
  lo : b = u * x + v * y
  one : ∃ p q, x = p * a + q * b
  two : ∃ p q, y = p * a + q * b
theorem rows_start (x y : Int) : Rows x y x 1 0 y 0 1 := ⟨by omega, by omega, ⟨1, 0, by omega⟩, ⟨0, 1, by omega⟩⟩
theorem rows_turn {x y a s t b u v : Int} (h : Rows x y a s t b u v) (q : Int) : Rows x y b u v (a - q * b) (s - q * u) (t - q * v) := by
  obtain ⟨h1, h2, ⟨p1, q1, h3⟩, ⟨p2, q2, h4⟩⟩ := h
  refine ⟨h2, by grind, ⟨p1 * q + q1, p1, ?_⟩, ⟨p2 * q + q2, p2, ?_⟩⟩ <;> grind
theorem rows_end {x y a s t b u v : Int} (h : Rows x y a s t b u v) (hb : b = 0) : a = s * x + t * y ∧ (∃ p, x = p * a) ∧ (∃ p, y = p * a) := by
  obtain ⟨h1, h2, ⟨p1, q1, h3⟩, ⟨p2, q2, h4⟩⟩ := h
  subst hb
  exact ⟨h1, ⟨p1, by grind⟩, ⟨p2, by grind⟩⟩
structure Sz (B a s t b u v : Int) : Prop where
  a0 : a.natAbs ≤ B.natAbs
  b0 : b.natAbs ≤ B.natAbs
  s0 : s.natAbs ≤ B.natAbs
  t0 : t.natAbs ≤ B.natAbs
  u0 : u.natAbs ≤ B.natAbs
  v0 : v.natAbs ≤ B.natAbs
  way : (s = 1 ∧ t = 0 ∧ u = 0 ∧ v = 1 ∧ a.natAbs + 2 * b.natAbs ≤ B.natAbs) ∨
    ((0 ≤ a ∧ 0 ≤ b ∨ a ≤ 0 ∧ b ≤ 0) ∧ s.natAbs * b.natAbs + u.natAbs * a.natAbs ≤ B.natAbs ∧ t.natAbs * b.natAbs + v.natAbs * a.natAbs ≤ B.natAbs)
theorem le_of_mul {m n B : Nat} (h : m * n ≤ B) (hn : n ≠ 0) : m ≤ B := Nat.le_trans (Nat.le_mul_of_pos_right m (Nat.pos_of_ne_zero hn)) h
theorem fmod_abs {a b : Int} (hb : b ≠ 0) : (Int.fmod a b).natAbs < b.natAbs := by
  rcases Int.lt_or_gt_of_ne hb with h | h
  · have h1 := Int.fmod_lt_of_pos (-a) (show 0 < -b by omega)
    have h2 := Int.fmod_nonneg_of_pos (-a) (show 0 < -b by omega)
    rw [Int.neg_fmod_neg] at h1 h2
    omega
  · have h1 := Int.fmod_lt_of_pos a h
    have h2 := Int.fmod_nonneg_of_pos a h
    omega
theorem fmod_sign {a b : Int} (hb : b ≠ 0) : 0 ≤ b ∧ 0 ≤ Int.fmod a b ∨ b ≤ 0 ∧ Int.fmod a b ≤ 0 := by
  rcases Int.lt_or_gt_of_ne hb with h | h
  · have h2 := Int.fmod_nonneg_of_pos (-a) (show 0 < -b by omega)
    rw [Int.neg_fmod_neg] at h2
    omega
  · have h2 := Int.fmod_nonneg_of_pos a h
    omega
theorem abs_sub_mul (s q u : Int) : (s - q * u).natAbs ≤ s.natAbs + q.natAbs * u.natAbs := by
  have := Int.natAbs_sub_le s (q * u)
  rw [Int.natAbs_mul] at this
  exact this
theorem sum_turn {s u a b q r : Int} (hq : (q * b).natAbs + r.natAbs ≤ a.natAbs) : u.natAbs * r.natAbs + (s - q * u).natAbs * b.natAbs ≤ s.natAbs * b.natAbs + u.natAbs * a.natAbs := by
  have h1 := Nat.mul_le_mul_right b.natAbs (abs_sub_mul s q u)
  have h2 := Nat.mul_le_mul_left u.natAbs hq
  rw [Int.natAbs_mul] at h2
  rw [Nat.add_mul] at h1
  rw [Nat.mul_add] at h2
  have e : q.natAbs * u.natAbs * b.natAbs = u.natAbs * (q.natAbs * b.natAbs) := by
    rw [Nat.mul_comm q.natAbs, Nat.mul_assoc]
  omega
theorem sz_start {x y : Int} : Sz ((x.natAbs : Int) + 2 * y.natAbs + 1) x 1 0 y 0 1 := by
  refine ⟨by omega, by omega, by omega, by omega, by omega, by omega, .inl ⟨rfl, rfl, rfl, rfl, by omega⟩⟩
theorem sz_turn {B a s t b u v : Int} (h : Sz B a s t b u v) (hb : b ≠ 0) (q r : Int) (hq : a = b * q + r) (hr : r = Int.fmod a b) :
    Sz B b u v r (s - q * u) (t - q * v) := by
  have ra : r.natAbs < b.natAbs := hr ▸ fmod_abs hb
  have rs : 0 ≤ b ∧ 0 ≤ r ∨ b ≤ 0 ∧ r ≤ 0 := hr ▸ fmod_sign hb
  have eq : q * b = a - r := by rw [Int.mul_comm]; omega
  rcases h.way with ⟨rfl, rfl, rfl, rfl, h1⟩ | ⟨hs, h1, h2⟩
  · have hq' : (q * b).natAbs ≤ a.natAbs + r.natAbs := by rw [eq]; omega
    have hqb : q.natAbs ≤ (q * b).natAbs := by
      rw [Int.natAbs_mul]
      exact Nat.le_mul_of_pos_right _ (by omega)
    have e1 : (1 - q * 0).natAbs = 1 := by rw [Int.mul_zero]; rfl
    have e2 : (0 - q * 1).natAbs = q.natAbs := by rw [Int.mul_one]; omega
    have b0 := h.b0
    refine ⟨h.b0, by omega, h.u0, h.v0, by rw [e1]; omega, by rw [e2]; omega, .inr ⟨rs, ?_, ?_⟩⟩
    · rw [e1]; simp; omega
    · have e3 : q.natAbs * b.natAbs = (q * b).natAbs := (Int.natAbs_mul q b).symm
      have e4 : (1 : Int).natAbs * r.natAbs = r.natAbs := by rw [show (1 : Int).natAbs = 1 from rfl, Nat.one_mul]
      rw [e2, e3, e4]
      omega
  · have hq' : (q * b).natAbs + r.natAbs ≤ a.natAbs := by
      have q0 : 0 ≤ q := by
        rcases (show 0 ≤ q ∨ q ≤ -1 by omega) with h0 | h0
        · exact h0
        · exfalso
          rcases (show 0 < b ∨ b < 0 by omega) with hb' | hb'
          · have := Int.mul_le_mul_of_nonneg_left h0 (Int.le_of_lt hb')
            omega
          · have := Int.mul_le_mul_of_nonneg_left h0 (show 0 ≤ -b by omega)
            rw [Int.neg_mul, Int.neg_mul] at this
            omega
      rcases (show 0 < b ∨ b < 0 by omega) with hb' | hb'
      · have := Int.mul_nonneg q0 (Int.le_of_lt hb')
        omega
      · have := Int.mul_nonneg q0 (show 0 ≤ -b by omega)
        rw [Int.mul_neg] at this
        omega
    have k1 := sum_turn (s := s) (u := u) hq'
    have k2 := sum_turn (s := t) (u := v) hq'
    refine ⟨h.b0, by have := h.b0; omega, h.u0, h.v0, ?_, ?_, .inr ⟨rs, by omega, by omega⟩⟩
    · exact le_of_mul (n := b.natAbs) (by omega) (by omega)
    · exact le_of_mul (n := b.natAbs) (by omega) (by omega)
end Sh

namespace Sm
structure P3 where
  (x y z : Int)
structure F6 where
  (a b c d e f : Int)
structure T3 where
  (r0 r1 r2 : P3)
def rp (r s : P3) : Int := r.x * s.x + r.y * s.y + r.z * s.z
def wo (Q : F6) (P : P3) : Int := Q.a * (P.x * P.x) + Q.b * (P.y * P.y) + Q.c * (P.z * P.z) + Q.d * (P.y * P.z) + Q.e * (P.x * P.z) + Q.f * (P.x * P.y)
def sl (Q : F6) : T3 := ⟨⟨2 * Q.a, Q.f, Q.e⟩, ⟨Q.f, 2 * Q.b, Q.d⟩, ⟨Q.e, Q.d, 2 * Q.c⟩⟩
def tb (t : T3) (P : P3) : P3 := ⟨rp t.r0 P, rp t.r1 P, rp t.r2 P⟩
def tr (t : T3) : T3 := ⟨⟨t.r0.x, t.r1.x, t.r2.x⟩, ⟨t.r0.y, t.r1.y, t.r2.y⟩, ⟨t.r0.z, t.r1.z, t.r2.z⟩⟩
def bl (Q : F6) (x y : P3) : Int := rp (tb (sl Q) x) y
def ch (Q : F6) (t : T3) : F6 := ⟨wo Q (tr t).r0, wo Q (tr t).r1, wo Q (tr t).r2, bl Q (tr t).r1 (tr t).r2, bl Q (tr t).r0 (tr t).r2, bl Q (tr t).r0 (tr t).r1⟩
def pt (t u : T3) : T3 := ⟨tb (tr u) t.r0, tb (tr u) t.r1, tb (tr u) t.r2⟩
def cr (r s : P3) : P3 := ⟨r.y * s.z - r.z * s.y, r.z * s.x - r.x * s.z, r.x * s.y - r.y * s.x⟩
def me (t : T3) : Int := rp t.r0 (cr t.r1 t.r2)
def lw (Q : F6) (P : P3) : Int := Q.a * P.x * P.x + Q.b * P.y * P.y + Q.c * P.z * P.z + Q.d * P.y * P.z + Q.e * P.x * P.z + Q.f * P.x * P.y
def lm (t : T3) : Int := t.r0.x * t.r1.y * t.r2.z + t.r0.y * t.r1.z * t.r2.x + t.r0.z * t.r1.x * t.r2.y - t.r0.z * t.r1.y * t.r2.x - t.r0.y * t.r1.x * t.r2.z - t.r0.x * t.r1.z * t.r2.y
def rt (r : P3) (t : T3) : P3 := ⟨r.x * t.r0.x + r.y * t.r1.x + r.z * t.r2.x, r.x * t.r0.y + r.y * t.r1.y + r.z * t.r2.y, r.x * t.r0.z + r.y * t.r1.z + r.z * t.r2.z⟩
def Bd (k : Nat) (x : Int) : Prop := x.natAbs ≤ 2 ^ k
theorem Bd.mul {j k : Nat} {x y : Int} (h : Bd j x) (h2 : Bd k y) : Bd (j + k) (x * y) := by
  unfold Bd at *
  rw [Int.natAbs_mul, Nat.pow_add]
  exact Nat.mul_le_mul h h2
theorem Bd.mono {j k : Nat} {x : Int} (h : Bd j x) (hk : j ≤ k) : Bd k x := Nat.le_trans h (Nat.pow_le_pow_right (by decide) hk)
structure BP (k : Nat) (P : P3) : Prop where
  (x : Bd k P.x) (y : Bd k P.y) (z : Bd k P.z)
structure BF (k : Nat) (Q : F6) : Prop where
  (a : Bd k Q.a) (b : Bd k Q.b) (c : Bd k Q.c) (d : Bd k Q.d) (e : Bd k Q.e) (f : Bd k Q.f)
structure BT (k : Nat) (t : T3) : Prop where
  (r0 : BP k t.r0) (r1 : BP k t.r1) (r2 : BP k t.r2)
end Sm

namespace Lw
def One3 (a b c : Int) : Prop := ∃ u v w : Int, u * a + v * b + w * c = 1
def Pos3 (a b c : Int) : Prop := 0 < a ∨ (a = 0 ∧ 0 < b) ∨ (a = 0 ∧ b = 0 ∧ 0 < c)
def Al (a b c x y z : Int) : Prop := a * y = b * x ∧ a * z = c * x ∧ b * z = c * y
theorem unit_pm {t s : Int} (h : t * s = 1) : t = 1 ∨ t = -1 := by
  have h2 : t ∣ 1 := ⟨s, h.symm⟩
  have h3 := Int.natAbs_dvd_natAbs.mpr h2
  have h4 : t.natAbs = 1 := Nat.dvd_one.mp h3
  omega
theorem uniq {a b c a' b' c' : Int} (o : One3 a b c) (o' : One3 a' b' c') (p : Pos3 a b c) (p' : Pos3 a' b' c') (al : Al a b c a' b' c') : a = a' ∧ b = b' ∧ c = c' := by
  obtain ⟨u, v, w, e⟩ := o
  obtain ⟨u', v', w', e'⟩ := o'
  obtain ⟨h1, h2, h3⟩ := al
  have ea : a' = a * (u * a' + v * b' + w * c') := by
    have : a' * (u * a + v * b + w * c) = a' := by rw [e, Int.mul_one]
    grind
  have eb : b' = b * (u * a' + v * b' + w * c') := by
    have : b' * (u * a + v * b + w * c) = b' := by rw [e, Int.mul_one]
    grind
  have ec : c' = c * (u * a' + v * b' + w * c') := by
    have : c' * (u * a + v * b + w * c) = c' := by rw [e, Int.mul_one]
    grind
  generalize u * a' + v * b' + w * c' = t at ea eb ec
  have ht : t * (u' * a + v' * b + w' * c) = 1 := by
    rw [ea, eb, ec] at e'
    grind
  rcases unit_pm ht with rfl | rfl
  · omega
  · unfold Pos3 at p p'
    omega
theorem low_ok {x y z d : Int} (hd : d ≠ 0) (hx : d ∣ x) (hy : d ∣ y) (hz : d ∣ z) (hb : ∃ u v w : Int, u * x + v * y + w * z = d) : One3 (x.fdiv d) (y.fdiv d) (z.fdiv d) ∧ x = d * x.fdiv d ∧ y = d * y.fdiv d ∧ z = d * z.fdiv d := by
  obtain ⟨x', rfl⟩ := hx
  obtain ⟨y', rfl⟩ := hy
  obtain ⟨z', rfl⟩ := hz
  obtain ⟨u, v, w, e⟩ := hb
  rw [Int.mul_fdiv_cancel_left _ hd, Int.mul_fdiv_cancel_left _ hd, Int.mul_fdiv_cancel_left _ hd]
  refine ⟨⟨u, v, w, ?_⟩, rfl, rfl, rfl⟩
  have : d * (u * x' + v * y' + w * z') = d * 1 := by grind
  exact Int.eq_of_mul_eq_mul_left hd this
end Lw

namespace Sm
end Sm
namespace Pn
open Sm Lw
def sz (Q : F6) : Int := 4 * Q.a * Q.b * Q.c + Q.d * Q.e * Q.f - Q.a * Q.d * Q.d - Q.b * Q.e * Q.e - Q.c * Q.f * Q.f
def fm (t : T3) (c : Int) : F6 :=
  ⟨c * (t.r0.x * t.r2.x - t.r1.x * t.r1.x), c * (t.r0.y * t.r2.y - t.r1.y * t.r1.y), c * (t.r0.z * t.r2.z - t.r1.z * t.r1.z),
   c * (t.r0.y * t.r2.z + t.r0.z * t.r2.y - 2 * t.r1.y * t.r1.z), c * (t.r0.x * t.r2.z + t.r0.z * t.r2.x - 2 * t.r1.x * t.r1.z), c * (t.r0.x * t.r2.y + t.r0.y * t.r2.x - 2 * t.r1.x * t.r1.y)⟩
def sp1 (s u : Int) (p q r : Int) : Int := s * s * p + s * u * q + u * u * r
def sp (t : T3) (s u : Int) : P3 :=
  ⟨sp1 s u (cr t.r1 t.r2).x (cr t.r2 t.r0).x (cr t.r0 t.r1).x, sp1 s u (cr t.r1 t.r2).y (cr t.r2 t.r0).y (cr t.r0 t.r1).y, sp1 s u (cr t.r1 t.r2).z (cr t.r2 t.r0).z (cr t.r0 t.r1).z⟩
def N3 (P : P3) : Prop := P.x ≠ 0 ∨ P.y ≠ 0 ∨ P.z ≠ 0
def tm (d : Int) (P : P3) : P3 := ⟨d * P.x, d * P.y, d * P.z⟩
def ad (P R : P3) : P3 := ⟨P.x + R.x, P.y + R.y, P.z + R.z⟩
def dr (P : P3) (m n : Int) : P3 := if P.z ≠ 0 then ⟨m, n, 0⟩ else if P.y ≠ 0 then ⟨m, 0, n⟩ else ⟨0, m, n⟩
def mk (Q : F6) (P D : P3) : P3 := ad (tm (wo Q D) P) (tm (-(bl Q P D)) D)
def L3 (P : P3) : Prop := One3 P.x P.y P.z ∧ Pos3 P.x P.y P.z
theorem P3.ext' {P R : P3} (h : P.x = R.x ∧ P.y = R.y ∧ P.z = R.z) : P = R := by
  cases P; cases R
  simp only at h
  obtain ⟨rfl, rfl, rfl⟩ := h
  rfl
instance : DecidableEq P3 := fun P R => decidable_of_iff (P.x = R.x ∧ P.y = R.y ∧ P.z = R.z) ⟨P3.ext', fun h => by subst h; exact ⟨rfl, rfl, rfl⟩⟩
def ax (P : P3) : P3 := if P.z ≠ 0 then ⟨0, 0, 1⟩ else if P.y ≠ 0 then ⟨0, 1, 0⟩ else ⟨1, 0, 0⟩
def ln (Q : F6) (P R : P3) : P3 := if R = P then tb (sl Q) P else cr P R
def nm1 (P D : P3) : Int := if P.z ≠ 0 then D.x else if P.y ≠ 0 then D.x else D.y
def nm2 (P D : P3) : Int := if P.z ≠ 0 then D.y else D.z
structure Rgt (F : F6) (P D R : P3) : Prop where
  (low : L3 R) (on : wo F R = 0) (ln : rp (cr P D) R = 0) (same : R = P ↔ bl F P D = 0)
end Pn

namespace L2
open PySem PySem.Spec PyProof.Rows

def cxC (X : Cx) (N : List Str) (scope : Scope) (cl : List (Str × Addr)) (C : Addr) (s0 : Shared) (H0 : Hp) (fp : List Addr) (pins : List (Addr × Obj)) : Cx :=
  { X with N := N, s₀ := s0, H₀ := H0, env := compEnvC scope cl C X.env, outer := X.stack, ex := fp, fn := fun _ => false, pn := X.pn ++ pins, xe := fun _ _ => False }
structure CompScope (X : Cx) (N : List Str) (fr : List Nat) (x : Str) (scope : Scope) (cl : List (Str × Addr)) : Prop where
  kind : scope.kind = .function
  nocell : ∀ y ∈ scope.names, y.2 ≠ .cell
  loc : ∀ y ∈ scope.names, y.2 = .local → scope.names.lookup y.1 = some .local
  own : scope.names.lookup x = some .local
  clos : closureFor scope X.env = pure cl
  sub : ∀ y c, cl.lookup y = some c → X.env.cells.lookup y = some c
  has : ∀ y, ((relabel scope X.env).names.lookup y = some .cell ∨ (relabel scope X.env).names.lookup y = some .free) → ∃ c, cl.lookup y = some c
  nd : N.Nodup
  hN : N[0]? = some x
  len : N.length = fr.length + 1
  ownOnly : ∀ (j : Nat) (y : Str), N[j + 1]? = some y → (relabel scope X.env).names.lookup y ≠ some .local
  out : ∀ (j k : Nat), fr[j]? = some k → ∃ y, N[j + 1]? = some y ∧ X.N[k]? = some y ∧ X.env.kindOf y = some .cell
def compSt (σ : St) (fr : List Nat) (v : Option V) : St := v :: fr.map fun k => (σ[k]?).join
def tComp (wi : TI) (fr : List Nat) (te : TE) : TE := fun σ H Q => wi σ H fun J H1 => ∀ acc, H1 acc = none → ∃ W : Nat → Nat → Hp → List V → Prop, (∃ m, W 0 m (upd H1 acc (.lst [])) []) ∧
  ∀ i m H' vs, W i m H' vs → H' acc = some (.lst vs) ∧ ((J.stop i H' ∧ Q (.ref acc) H') ∨ (J.go i H' ∧ vs.length < sizeLine ∧ ∀ x H2, J.yld i H' x H2 → te (compSt σ fr (some x)) H2 fun y H3 => H3 acc = some (.lst vs) ∧ ∃ m', m' < m ∧ W (i + 1) m' (upd H3 acc (.lst (vs ++ [y]))) (vs ++ [y])))
def tCompIf (wi : TI) (fr : List Nat) (tc : TT) (te : TE) : TE := fun σ H Q => wi σ H fun J H1 => ∀ acc, H1 acc = none → ∃ W : Nat → Nat → Hp → List V → Prop, (∃ m, W 0 m (upd H1 acc (.lst [])) []) ∧
  ∀ i m H' vs, W i m H' vs → H' acc = some (.lst vs) ∧ ((J.stop i H' ∧ Q (.ref acc) H') ∨ (J.go i H' ∧ vs.length < sizeLine ∧ ∀ x H2, J.yld i H' x H2 → tc (compSt σ fr (some x)) H2 fun b H3 =>
    if b = true then te (compSt σ fr (some x)) H3 fun y H4 => H4 acc = some (.lst vs) ∧ ∃ m', m' < m ∧ W (i + 1) m' (upd H4 acc (.lst (vs ++ [y]))) (vs ++ [y]) else ∃ m', m' < m ∧ W (i + 1) m' H3 vs))
section
variable {X : Cx} {N : List Str} {fr : List Nat} {x : Str} {scope : Scope} {cl : List (Str × Addr)} {elt iter : Expr} {px pos : Pos} {wi : TI} {te : TE}
theorem cxC_ok {pins : List (Addr × Obj)} {σ : St} {H : Hp} {s : Shared} {fp : List Addr} {C : Addr} (S : CompScope X N fr x scope cl) (I : Inv X pins σ H s) (hf : ∀ b ∈ fp, FpOk X pins H b) (hC : s.heap.objs.size ≤ C) (hfl : ∀ b ∈ fp, b < s.heap.objs.size) : (cxC X N scope cl C s H fp pins).Ok where
  mod := I.ok.mod
  kind := S.kind
  glob := I.ok.glob
  blt := I.ok.blt
  above := hC
  inj := fun y z c h1 h2 => I.ok.inj y z c (S.sub _ _ h1) (S.sub _ _ h2)
  has := fun y h => S.has y h
  cab := fun y c h => by cases h
  hd := I.ok.hd
  frames := I.ok.frames
  stk := .inl rfl
  exf := fun b hb => ⟨Nat.ne_of_lt (Nat.lt_of_lt_of_le (hfl b hb) hC), fun y c h => (hf b hb).2.2.2.2.1 y c (S.sub _ _ h)⟩
  bs := fun b o e => I.bs b o e
  bsz := Nat.le_trans I.ok.bsz I.sz
  noex := fun b o e hb => by
    rcases (hf b hb).2.2.2.1 with z | z
    · exact I.ok.noex b o e z
    · exact absurd (Nat.lt_of_lt_of_le (Heap.lt_size e) (Nat.le_trans I.ok.bsz z)) (Nat.lt_irrefl _)
  exfs := fun b hb z => by
    rcases List.mem_cons.mp (I.stkSub b z) with e | e
    · exact (hf b hb).2.1 e
    · exact (hf b hb).2.2.1 e
  funs := I.stack
  frf := I.stkFree
theorem cxC_start {pins : List (Addr × Obj)} {σ : St} {H : Hp} {s s4 : Shared} {fp : List Addr} {C : Addr} {m : Str → Option Value} (S : CompScope X N fr x scope cl) (I : Inv X pins σ H s) (hf : ∀ b ∈ fp, FpOk X pins H b) (hC : s.heap.objs.size ≤ C) (hfl : ∀ b ∈ fp, b < s.heap.objs.size)
    (hn : s4.heap.Ns C m) (hk : ∀ b o, s.heap.get? b = some o → s4.heap.get? b = some o) (ho : s4.os = s.os) (hg : s4.gens = s.gens) : Inv (cxC X N scope cl C s H fp pins) [] (compSt σ fr none) H s4 := by
  obtain ⟨m0, hn0, hl⟩ := id I.loc
  refine ⟨cxC_ok S I hf hC hfl, ho, by rw [hg]; exact I.bare, Un.kept hk, ⟨m, hn, fun i y v e1 e2 e3 => ?_⟩, fun y c h => ?_, I.hok.fresh hC, fun y c h => I.freeC y c (S.sub _ _ h), fun p hp => ?_, I.hok.kept hk, ?_⟩
  · cases i with
    | zero => cases e2
    | succ j =>
      have e2' : (fr.map fun k => (σ[k]?).join)[j]? = some (some v) := e2
      rw [List.getElem?_map] at e2'
      cases ek : fr[j]? with
      | none => rw [ek] at e2'; cases e2'
      | some k =>
        rw [ek] at e2'
        have e4 : (σ[k]?).join = some v := Option.some.inj e2'
        obtain ⟨y', h1, h2, h3⟩ := S.out j k ek
        have e1' : N[j + 1]? = some y := e1
        obtain rfl : y' = y := Option.some.inj (h1.symm.trans e1')
        have e5 : σ[k]? = some (some v) := by
          cases q : σ[k]? with
          | none => rw [q] at e4; cases e4
          | some w => rw [q] at e4; exact congrArg some e4
        obtain ⟨u, r, lk⟩ := hl k y' v h2 e5 (.inr (.inl h3))
        refine ⟨u, r, .inr ?_⟩
        rcases lk with ⟨z, _⟩ | ⟨_, c, hc, hcell⟩
        · rw [h3] at z; cases z
        · have e6 : Vis (relabel scope X.env) y' := e3
          have hk2 : (relabel scope X.env).names.lookup y' = some .cell ∨ (relabel scope X.env).names.lookup y' = some .free := by
            rcases e6 with e6 | e6 | e6
            · exfalso
              have nd := S.nd
              -- a name of the block's own is the first one
              exact S.ownOnly _ _ h1 e6
            · exact .inl e6
            · exact .inr e6
          obtain ⟨c2, hc2⟩ := S.has y' hk2
          have := S.sub _ _ hc2
          rw [hc] at this; cases this
          obtain ⟨o, z1, z2⟩ := hcell
          exact ⟨hk2, c, hc2, o, hk _ _ z1, z2⟩
  · obtain ⟨v, o, z1, z2⟩ := I.cell y c (S.sub _ _ h)
    exact ⟨v, o, hk _ _ z1, z2⟩
  · rw [List.append_nil] at hp
    obtain ⟨e, k, ne, nf, d⟩ := I.pin p hp
    refine ⟨hk _ _ e, k, Nat.ne_of_lt (Nat.lt_of_lt_of_le (Heap.lt_size e) hC), fun z => ?_, d⟩
    rcases List.mem_cons.mp (I.stkSub _ z) with q | q
    · exact ne q
    · exact nf q
  · show (compSt σ fr none).length = N.length
    rw [S.len]
    simp [compSt]
theorem cxC_end {pins : List (Addr × Obj)} {σ σ' : St} {H H' : Hp} {s s' : Shared} {fp : List Addr} {C : Addr} {h' : Heap} (I : Inv X pins σ H s) (hf : ∀ b ∈ fp, FpOk X pins H b) (hC : s.heap.objs.size ≤ C) (J : Inv (cxC X N scope cl C s H fp pins) [] σ' H' s') (hs : Heap.SameBut C s'.heap h') :
    Inv X pins σ H' { s' with heap := h' } := by
  have ne : ∀ b o, s.heap.get? b = some o → b ≠ C := fun b o e => Nat.ne_of_lt (Nat.lt_of_lt_of_le (Heap.lt_size e) hC)
  have u : Un (frs X.stack) fp H H' s.heap s'.heap := J.base
  have u2 : Un (frs X.stack) fp H H' s.heap h' := ⟨fun b o e n hb hx => (hs.2 b (ne b o e)).trans (u.keep b o e n hb hx), fun b o e n hb hx => (by
      obtain ⟨sl, q⟩ := u.slot b o e n hb hx
      exact ⟨sl, (hs.2 b (ne b o e)).trans q⟩), u.free, fun b o e hx => (by
      obtain ⟨o', q⟩ := u.there b o e hx
      exact ⟨o', (hs.2 b (ne b o e)).trans q⟩), u.tups, u.frzs, u.tbls⟩
  have nC : H' C = none := J.free
  refine I.call' (s' := { s' with heap := h' }) (ch := fp) J.os u2 (J.hok.onward fun b o hb q => (hs.2 b fun z => hb (z ▸ nC)).trans q) J.bare fun b hb => ?_
  obtain ⟨_, f2, _, f4, f5, f6⟩ := hf b hb
  exact ⟨f4, f2, f5, f6⟩
def PTs (X : Cx) (ifs : List Expr) (t : TT) : Prop :=
  ∀ (pins : List (Addr × Obj)) (s : Shared) (σ : St) (H : Hp) (Q : Bool → Hp → Prop), Inv X pins σ H s → t σ H Q → wpAny (model X.prog X.w) X.A (forIn ifs true fun c r => if r = true then do let ok ← PySem.isTrue c X.env (eval c X.env); pure (ForInStep.yield ok) else pure (ForInStep.yield r)) (TP X pins σ Q) X.xe s
theorem pts_one {X : Cx} {c : Expr} {t : TT} (h : PT X c t) : PTs X [c] t := fun pins s σ H Q I q => wpAny_tests_one (h pins s σ H Q I q)
theorem pts_nil {X : Cx} : PTs X [] (fun _ H Q => Q true H) := fun pins s σ H Q I q => by
  show wpAny _ _ (pure true) _ _ _
  exact wpAny_pure ⟨H, I, q⟩
theorem comp_core {ifs : List Expr} {tc : TT} {use : Option (Value → Sem Unit)} {R : Value → Shared → Prop} {Q : VK} {pins : List (Addr × Obj)} {s : Shared} {σ : St} {H : Hp} {ep : Pos} (hc : X.calm = true) (S : CompScope X N fr x scope cl) (hi : PI X (.Name x px) iter wi)
    (ht : ∀ (C : Addr) (s0 : Shared) (H0 : Hp) (fp : List Addr) (pins : List (Addr × Obj)), PTs (cxC X N scope cl C s0 H0 fp pins) ifs tc) (he : ∀ (C : Addr) (s0 : Shared) (H0 : Hp) (fp : List Addr) (pins : List (Addr × Obj)), PE (cxC X N scope cl C s0 H0 fp pins) elt te)
    (hs : ∀ y, foldedSetIterable iter X.env y = pure y) (I : Inv X pins σ H s) (h : tCompIf wi fr tc te σ H Q)
    (fin : ∀ (acc C : Addr) (m : Str → Option Value) (H6 : Hp) (s7 : Shared), Q (.ref acc) H6 → s7.heap.Ns C m → (∀ h' : Heap, Heap.SameBut C s7.heap h' → Inv X pins σ H6 { s7 with heap := h' }) → H6 C = none → X.env.locals ≠ C → (∀ z c, X.env.cells.lookup z = some c → c ≠ C) → (∀ p ∈ X.pn ++ pins, p.1 ≠ C) → X.s₀.heap.objs.size ≤ C → compPost (model X.prog X.w) X.A X.xe use R (.ref acc) C (.ok .next) s7) :
    wpAny (model X.prog X.w) X.A (comprehension (.ListComp elt [⟨.Name x px, iter, ifs, 0⟩] scope pos) scope X.env ep (newList []) false (eval iter X.env) use) R X.xe s := by
  refine wpAny_comprehension_free (use := use) rfl hs S.clos S.kind S.loc (thn (hi pins s σ H _ I h) fun v s1 h1 => thn h1 fun itv s2 h2 => ?_)
  obtain ⟨it, fp, tn, J, H2, e, I2, T, st2, f2, hW⟩ := h2
  subst e
  have hfl : ∀ b ∈ fp, b < s2.heap.objs.size := fun b hb => by
    obtain ⟨o, q, _⟩ := T.obj _ _ st2 b hb
    exact Heap.lt_size q
  have hfr : H2 s2.heap.objs.size = none := I2.hok.fresh (Nat.le_refl _)
  refine wpAny_newObj_type ?_
  have keep3 : ∀ b o, s2.heap.get? b = some o → (s2.heap.push { cls := .type "list", dict := none, data := .seq ([] : List Value).toArray }).get? b = some o := fun b o q => Heap.get?_push_of_some _ q
  have I3 : Inv X pins σ (upd H2 s2.heap.objs.size (.lst [])) { s2 with heap := s2.heap.push { cls := .type "list", dict := none, data := .seq ([] : List Value).toArray } } :=
    I2.laid (t' := s2.toks) keep3 (Nat.le_refl _) ⟨Nat.zero_le _, [], 0, .nil, Heap.get?_push_size _ rfl⟩
  obtain ⟨W, ⟨m0, w0⟩, turn⟩ := hW s2.heap.objs.size hfr
  have f3 : ∀ b ∈ fp, FpOk X pins (upd H2 s2.heap.objs.size (.lst [])) b := fun b hb => ⟨by rw [upd_ne (Nat.ne_of_lt (hfl b hb))]; exact (f2 b hb).1, (f2 b hb).2⟩
  refine wpAny_newFunctionEnv S.nocell (by intro y hy; simp at hy) (fun h4 hns hsb => ?_) S.kind
  have hfl3 : ∀ b ∈ fp, b < (s2.heap.push { cls := .type "list", dict := none, data := .seq ([] : List Value).toArray }).objs.size := fun b hb => by
    rw [Heap.size_push]
    exact Nat.lt_succ_of_lt (hfl b hb)
  have keep4 : ∀ b o, (s2.heap.push { cls := .type "list", dict := none, data := .seq ([] : List Value).toArray }).get? b = some o → h4.get? b = some o := fun b o q =>
    (hsb.2 b (Nat.ne_of_lt (Heap.lt_size q))).trans (Heap.get?_push_of_some _ q)
  have I4 : Inv (cxC X N scope cl (s2.heap.push { cls := .type "list", dict := none, data := .seq ([] : List Value).toArray }).objs.size { s2 with heap := s2.heap.push { cls := .type "list", dict := none, data := .seq ([] : List Value).toArray } } (upd H2 s2.heap.objs.size (.lst [])) fp pins) [] (compSt σ fr none) (upd H2 s2.heap.objs.size (.lst []))
      { s2 with heap := h4, toks := s2.toks + ([] : List (Str × Value)).length } := cxC_start S I3 f3 (Nat.le_refl _) hfl3 hns keep4 rfl rfl
  have st4 : tn 0 h4 := T.keep _ _ _ st2 fun b hb o q => keep4 b o (keep3 b o q)
  generalize hY : cxC X N scope cl (s2.heap.push { cls := .type "list", dict := none, data := .seq ([] : List Value).toArray }).objs.size { s2 with heap := s2.heap.push { cls := .type "list", dict := none, data := .seq ([] : List Value).toArray } } (upd H2 s2.heap.objs.size (.lst [])) fp pins = Y at I4
  have hel : PE Y elt te := hY ▸ he _ _ _ _ _
  have htl : PTs Y ifs tc := hY ▸ ht _ _ _ _ _
  have eA : Y.A = X.A := by rw [← hY]; rfl
  have eP : Y.prog = X.prog := by rw [← hY]; rfl
  have ew : Y.w = X.w := by rw [← hY]; rfl
  have eK : Y.K = X.K := by rw [← hY]; rfl
  have eC : Y.calm = true := by rw [← hY]; exact hc
  have eE : Y.env = compEnvC scope cl (s2.heap.push { cls := .type "list", dict := none, data := .seq ([] : List Value).toArray }).objs.size X.env := by rw [← hY]; rfl
  have eX : Y.xe = fun _ _ => False := by rw [← hY]; rfl
  have hg : PG Y (.Name x px) (gName 0) := by
    subst hY
    exact pg_name (i := 0) S.nd S.hN (.inl (lookup_relabel_local S.own)) (.inr (lookup_relabel_local S.own))
  have fY : ∀ {H' : Hp}, (∀ b ∈ fp, H' b = none) → ∀ b ∈ fp, FpOk Y [] H' b := fun {H'} hn b hb => by
    subst hY
    obtain ⟨_, g2, g3, g4, g5, g6⟩ := f3 b hb
    refine ⟨hn b hb, Nat.ne_of_lt (hfl3 b hb), fun z => ?_, .inl hb, fun y c q => g5 y c (S.sub _ _ q), fun p hp => ?_⟩
    · rcases List.mem_cons.mp (I3.stkSub b z) with q | q
      · exact g2 q
      · exact g3 q
    · rw [List.append_nil] at hp
      exact g6 p hp
  have loop : ∀ s5 : Shared, s5 = { s2 with heap := h4, toks := s2.toks + ([] : List (Str × Value)).length } →
      codeAny (model X.prog X.w) X.A (.compLoop (.ListComp elt [⟨.Name x px, iter, ifs, 0⟩] scope pos) 0 (.ref it) (.ref s2.heap.objs.size) (compEnvC scope cl (s2.heap.push { cls := .type "list", dict := none, data := .seq ([] : List Value).toArray }).objs.size X.env))
        (compPost (model X.prog X.w) X.A X.xe use R (.ref s2.heap.objs.size) (s2.heap.push { cls := .type "list", dict := none, data := .seq ([] : List Value).toArray }).objs.size) s5 := by
    rintro s5 rfl
    refine codeAny_compLoop_tests (fun n s' => ∃ i v H' vs, Inv Y [] (compSt σ fr v) H' s' ∧ tn i s'.heap ∧ (∀ b ∈ fp, H' b = none) ∧ W i n H' vs) ?_ m0 ⟨0, none, _, [], I4, st4, fun b hb => (f3 b hb).1, w0⟩
    rintro n s6 ⟨i, v6, H6, vs, I6, st6, fr6, w6⟩
    obtain ⟨hacc, hgo⟩ := turn i n H6 vs w6
    rcases hgo with ⟨stop, qn⟩ | ⟨go, hz, step⟩
    · have hd := T.done Y eP ew eK eC i [] s6 _ H6 (fun _ _ => False) I6 (fY fr6) st6 stop
      rw [eA] at hd
      refine wpAny_mono hd (fun r s7 ⟨hr, I7⟩ => ?_) fun _ _ z => z.elim
      subst hr
      obtain ⟨m, hn, _⟩ := id I7.loc
      rw [eE] at hn
      have hend : ∀ h' : Heap, Heap.SameBut (s2.heap.push { cls := .type "list", dict := none, data := .seq ([] : List Value).toArray }).objs.size s7.heap h' → Inv X pins σ H6 { s7 with heap := h' } := fun h' hs' => by
        subst hY
        exact cxC_end I3 f3 (Nat.le_refl _) I7 hs'
      have cf : H6 (s2.heap.push { cls := .type "list", dict := none, data := .seq ([] : List Value).toArray }).objs.size = none := by
        subst hY
        exact I7.free
      have big : ∀ b o, s2.heap.get? b = some o → b ≠ (s2.heap.push { cls := .type "list", dict := none, data := .seq ([] : List Value).toArray }).objs.size := fun b o q => Nat.ne_of_lt (by rw [Heap.size_push]; exact Nat.lt_succ_of_lt (Heap.lt_size q))
      obtain ⟨m2, hn2, _⟩ := id I2.loc
      obtain ⟨oL, _, _, hoL, _⟩ := id hn2
      exact fin _ _ m H6 s7 qn hn hend cf (big _ _ hoL) (fun z c q => by
        obtain ⟨_, o, w1, _⟩ := I2.cell z c q
        exact big _ _ w1) (fun p hp => by
        obtain ⟨e, _⟩ := I2.pin p hp
        exact big _ _ e) (by
        rw [Heap.size_push]
        exact Nat.le_succ_of_le (Nat.le_trans (Nat.le_refl _) I2.sz))
    · have hd := T.item Y eP ew eK eC i [] s6 _ H6 (fun _ _ => False) I6 (fY fr6) st6 go
      rw [eA] at hd
      refine wpAny_mono hd (fun r s7 ⟨u, hr, h7⟩ => ?_) fun _ _ z => z.elim
      subst hr
      show wpAny _ _ ((pure () : Sem Unit) >>= fun _ => assign (.Name x px) _ u) _ _ s7
      refine wpAny_bind (wpAny_mono h7 (fun _ s8 ⟨y, H8, I8, r8, y8, st8, fr8⟩ => ?_) fun _ _ z => z.elim)
      have I8' := I8.pinned (fY fr8) (T.obj _ _ st8)
      have h9 := hg _ s8 _ H8 y u (fun σ9 H9 => σ9 = compSt σ fr (some y) ∧ H9 = H8) I8' r8 ⟨rfl, rfl⟩
      rw [eA, eP, ew, eE, eX] at h9
      refine wpAny_mono h9 (fun _ s9 ⟨σ9, H9, I9, e9, e9'⟩ => ?_) fun _ _ z => z.elim
      subst e9 e9'
      have ht10 := htl _ s9 _ _ _ I9 (step y _ y8)
      rw [eA, eP, ew, eE, eX] at ht10
      refine wpAny_mono ht10 (fun ok s9t ⟨H9t, I9t, q9t⟩ => ?_) fun _ _ z => z.elim
      cases ok with
      | false =>
        rw [if_neg Bool.false_ne_true] at q9t
        rw [if_neg Bool.false_ne_true]
        obtain ⟨m', hm, w10⟩ := q9t
        refine ⟨m', hm, i + 1, some y, _, vs, I9t.unpinned, T.keep _ _ _ st8 fun b hb o q => (I9t.pin (b, o) (List.mem_append_right _ (List.mem_append_right _ (mem_pinsAt hb q)))).1, fun b hb => ?_, w10⟩
        obtain ⟨o, q, _⟩ := T.obj _ _ st8 b hb
        exact (I9t.pin (b, o) (List.mem_append_right _ (List.mem_append_right _ (mem_pinsAt hb q)))).2.1
      | true =>
      rw [if_pos rfl] at q9t
      rw [if_pos rfl]
      have h10 := hel _ s9t _ _ _ I9t q9t
      rw [eA, eP, ew, eE, eX] at h10
      refine wpAny_mono h10 (fun u10 s10 ⟨z10, H10, I10, r10, a10, m', hm, w10⟩ => ?_) fun _ _ z => z.elim
      have h11 := mt_append _ s10 _ H10 (.ref s2.heap.objs.size) [z10] (.ref s2.heap.objs.size) [u10] (fun _ H11 => H11 = upd H10 s2.heap.objs.size (.lst (vs ++ [z10]))) I10 rfl (.cons r10 .nil) ⟨_, vs, z10, rfl, rfl, a10, hz, rfl⟩
      rw [eA, eP, ew, eX] at h11
      refine wpAny_mono h11 (fun _ s11 ⟨_, H11, I11, _, e11⟩ => ?_) fun _ _ z => z.elim
      subst e11
      refine ⟨m', hm, i + 1, some y, _, vs ++ [z10], I11.unpinned, T.keep _ _ _ st8 fun b hb o q => (I11.pin (b, o) (List.mem_append_right _ (List.mem_append_right _ (mem_pinsAt hb q)))).1, fun b hb => ?_, w10⟩
      obtain ⟨o, q, _⟩ := T.obj _ _ st8 b hb
      exact (I11.pin (b, o) (List.mem_append_right _ (List.mem_append_right _ (mem_pinsAt hb q)))).2.1
  exact codeAny_compStart_list (loop _ rfl) (T.self _ 0 _ _ _ st4 (loop _ rfl))
theorem pe_comp (hc : X.calm = true) (S : CompScope X N fr x scope cl) (hi : PI X (.Name x px) iter wi) (he : ∀ (C : Addr) (s0 : Shared) (H0 : Hp) (fp : List Addr) (pins : List (Addr × Obj)), PE (cxC X N scope cl C s0 H0 fp pins) elt te)
    (hs : ∀ y, foldedSetIterable iter X.env y = pure y := by intro _; rfl) : PE X (.ListComp elt [⟨.Name x px, iter, [], 0⟩] scope pos) (tComp wi fr te) := by
  intro pins s σ H Q I h
  rw [eval_ListComp]
  exact comp_core (tc := fun _ H Q => Q true H) (use := none) hc S hi (fun _ _ _ _ _ => pts_nil) he hs I h fun acc C m H6 s7 qn hn hend _ _ _ _ _ => ⟨m, hn, fun h' hs' => ⟨.ref acc, H6, hend h' hs', rfl, qn⟩⟩
end
end L2

namespace L2
open PySem PySem.Spec PyProof.Rows
theorem call_all {X : Cx} (hc : X.calm = true) : CallR X (.builtin "all") (fun xs H Q => ∃ (l : Addr) (bs : List Bool), xs = [.ref l] ∧ H l = some (.lst (bs.map V.bl)) ∧ Q (.bl (bs.all id)) H) := by
  intro pins s σ H xs us Q I rv h
  obtain ⟨l, bs, rfl, hH, q⟩ := h
  obtain ⟨u, rfl, ru⟩ := rv.one
  cases ru
  obtain ⟨z, its, n, r, hl, e⟩ := I.lstM hH
  have hlt : l < s.heap.objs.size := Heap.lt_size e
  refine call_all_walk (wpAny_pyIter_list (A := X.A.in1) ⟨_, e, rfl, n, rfl⟩ ?_)
  have W := Walks.list (prog := X.prog) (w := X.w) (A := X.A.in1) (show X.A.in1.handled = none from I.ok.hd hc) s.heap.objs.size l (Nat.ne_of_lt hlt) its.toArray
  refine ⟨s.heap.objs.size, _, _, _, _, _, fun i => bs.getD i true, rfl, W, ⟨⟨_, Heap.get?_push_size _ rfl, rfl, rfl⟩, ⟨_, Heap.get?_push_of_some _ e, rfl, n, rfl⟩⟩, ?_, ?_⟩
  · intro i v s' Q' E' hP hQ
    have hv : its[i]? = some v := by simpa using hP
    obtain ⟨b, hb, rfl⟩ : ∃ b, bs[i]? = some b ∧ v = Value.bool b := by
      cases hbi : bs[i]? with
      | none =>
        have h1 := r.none_of (i := i) (by rw [List.getElem?_map, hbi]; rfl)
        rw [h1] at hv; cases hv
      | some b =>
        obtain ⟨u', h1, h2⟩ := r.get (i := i) (x := .bl b) (by rw [List.getElem?_map, hbi]; rfl)
        rw [h1] at hv; cases hv
        exact ⟨b, rfl, h2⟩
    have hQ2 : Q' (bs.getD i true) s' := hQ
    rw [List.getD_eq_getElem?_getD, hb] at hQ2
    exact wpAny_truthy_bool hQ2
  · intro h' tk hk
    have e2 : ((List.range its.toArray.size).all fun i => bs.getD i true) = bs.all id := by
      have hlen : its.toArray.size = bs.length := by
        rw [List.size_toArray, ← r.length, List.length_map]
      rw [hlen]
      rw [Bool.eq_iff_iff, List.all_eq_true, List.all_eq_true]
      constructor
      · intro hA b hb
        obtain ⟨i, hi, e⟩ := List.getElem_of_mem hb
        have := hA i (List.mem_range.mpr hi)
        rw [List.getD_eq_getElem?_getD, List.getElem?_eq_getElem hi, e] at this
        exact this
      · intro hA i hi
        have hi' := List.mem_range.mp hi
        rw [List.getD_eq_getElem?_getD, List.getElem?_eq_getElem hi']
        exact hA _ (List.getElem_mem hi')
    rw [e2]
    refine ⟨.bl (bs.all id), H, ?_, rfl, q⟩
    exact I.kept (h' := h') (t' := tk) fun b o q' => hk b o (fun zz => by
      have : b = s.heap.objs.size := by simpa using zz
      subst this
      exact absurd (Heap.lt_size q') (Nat.lt_irrefl _)) (Heap.get?_push_of_some _ q')
theorem CompScope.plain {X : Cx} {x : Str} {scope : Scope} (kind : scope.kind = .function) (no : ∀ y ∈ scope.names, y.2 ≠ .cell ∧ y.2 ≠ .free) (loc : ∀ y ∈ scope.names, y.2 = .local → scope.names.lookup y.1 = some .local) (own : scope.names.lookup x = some .local) : CompScope X [x] [] x scope [] := by
  have e : (relabel scope X.env).names = scope.names := by
    unfold relabel
    refine map_eq_self fun y hy => ?_
    obtain ⟨n, k⟩ := y
    have : (k == NameKind.free) = false := by simpa using (no _ hy).2
    simp [this]
  refine ⟨kind, fun y hy => (no y hy).1, loc, own, closureFor_none fun y hy => (no y hy).2, fun y c h => by simp at h, fun y h => ?_, by simp, rfl, rfl, fun j y h => by simp at h, fun j k h => by simp at h⟩
  rw [e] at h
  exfalso
  rcases h with h | h
  · exact (no _ (PySem.mem_of_lookup h)).1 rfl
  · exact (no _ (PySem.mem_of_lookup h)).2 rfl
end L2

namespace L2
open PySem PySem.Spec PyProof.Rows

section
variable {κ : Type} [DecidableEq κ]
def valV (kvs : List (κ × V)) (k : κ) : Option V := (kvs.find? fun kv => decide (kv.1 = k)).map (·.2)
def putK (kvs : List (κ × V)) (k : κ) (v : V) : List (κ × V) :=
  if (kvs.any fun kv => decide (kv.1 = k)) = true then kvs.map (fun kv => if kv.1 = k then (kv.1, v) else kv) else kvs ++ [(k, v)]
def dropK (kvs : List (κ × V)) (k : κ) : List (κ × V) := kvs.filter fun kv => decide (kv.1 ≠ k)

theorem valV_nil {k : κ} : valV ([] : List (κ × V)) k = none := rfl
theorem valV_pos {p : κ × V} {r : List (κ × V)} {k : κ} (e : p.1 = k) : valV (p :: r) k = some p.2 := by simp [valV, List.find?_cons, e]
theorem valV_neg {p : κ × V} {r : List (κ × V)} {k : κ} (e : ¬ p.1 = k) : valV (p :: r) k = valV r k := by simp [valV, List.find?_cons, e]
theorem valV_any (k : κ) : ∀ kvs : List (κ × V), (kvs.any fun kv => decide (kv.1 = k)) = (valV kvs k).isSome
  | [] => rfl
  | p :: r => by
    rw [List.any_cons]
    by_cases e : p.1 = k
    · simp only [valV_pos e, decide_eq_true e, Bool.true_or, Option.isSome_some]
    · rw [valV_neg e, decide_eq_false e, Bool.false_or]; exact valV_any k r
theorem valV_map (k j : κ) (y : V) : ∀ kvs : List (κ × V), valV (kvs.map fun kv => if kv.1 = k then (kv.1, y) else kv) j = (valV kvs j).map fun x => if j = k then y else x
  | [] => rfl
  | p :: r => by
    have ih := valV_map k j y r
    rw [List.map_cons]
    by_cases h : p.1 = k
    · rw [if_pos h]
      by_cases e : p.1 = j
      · rw [valV_pos (p := (p.1, y)) e, valV_pos e, Option.map_some, if_pos (e.symm.trans h)]
      · rw [valV_neg (p := (p.1, y)) e, valV_neg e, ih]
    · rw [if_neg h]
      by_cases e : p.1 = j
      · rw [valV_pos (p := p) e, valV_pos e, Option.map_some, if_neg (fun z => h (e.trans z))]
      · rw [valV_neg (p := p) e, valV_neg e, ih]
theorem valV_snoc (k j : κ) (y : V) : ∀ kvs : List (κ × V), valV kvs k = none → valV (kvs ++ [(k, y)]) j = if j = k then some y else valV kvs j
  | [], _ => by
    by_cases e : k = j
    · rw [if_pos e.symm]; exact valV_pos (p := (k, y)) e
    · rw [if_neg (fun z => e z.symm)]; exact valV_neg (p := (k, y)) e
  | p :: r, hn => by
    rw [List.cons_append]
    have hk : ¬ p.1 = k := fun z => by rw [valV_pos z] at hn; cases hn
    rw [valV_neg hk] at hn
    have ih := valV_snoc k j y r hn
    by_cases e : p.1 = j
    · rw [valV_pos e, valV_pos e, if_neg (fun z => hk (e.trans z))]
    · rw [valV_neg e, valV_neg e, ih]
theorem valV_put (kvs : List (κ × V)) (k j : κ) (y : V) : valV (putK kvs k y) j = if j = k then some y else valV kvs j := by
  unfold putK
  by_cases a : (kvs.any fun kv => decide (kv.1 = k)) = true
  · rw [if_pos a, valV_map]
    rw [valV_any] at a
    by_cases e : j = k
    · obtain ⟨x, hx⟩ := Option.isSome_iff_exists.mp a
      rw [if_pos e, e, hx, Option.map_some, if_pos rfl]
    · rw [if_neg e]
      cases valV kvs j with
      | none => rfl
      | some x => rw [Option.map_some, if_neg e]
  · rw [if_neg a]
    refine valV_snoc k j y kvs ?_
    rw [valV_any] at a
    cases q : valV kvs k with
    | none => rfl
    | some x => rw [q] at a; exact (a rfl).elim
theorem length_putK (kvs : List (κ × V)) (k : κ) (v : V) : (putK kvs k v).length ≤ kvs.length + 1 := by
  unfold putK
  split
  · rw [List.length_map]; omega
  · rw [List.length_append, List.length_cons, List.length_nil]; omega
theorem RelO.isSome_eq {o : Option V} {u : Option Value} (r : RelO o u) : o.isSome = u.isSome := by
  cases o with
  | none => cases u with
    | none => rfl
    | some _ => exact (show False from r).elim
  | some _ => cases u with
    | none => exact (show False from r).elim
    | some _ => rfl
theorem KV.val {kvs : List (κ × V)} {vs : List (κ × Value)} (r : KV kvs vs) (k : κ) : RelO (valV kvs k) (valueAt vs k) := by
  unfold KV at r
  induction r with
  | nil => exact True.intro
  | @cons p q ps qs h t ih =>
    obtain ⟨h1, h2⟩ := h
    by_cases e : p.1 = k
    · have e' : q.1 = k := h1.symm.trans e
      have b : valueAt (q :: qs) k = some q.2 := by simp [valueAt, List.find?_cons, e']
      rw [valV_pos e, b]; exact h2
    · have e' : ¬ q.1 = k := fun z => e (h1.trans z)
      have b : valueAt (q :: qs) k = valueAt qs k := by simp [valueAt, List.find?_cons, e']
      rw [valV_neg e, b]; exact ih
theorem KV.any {kvs : List (κ × V)} {vs : List (κ × Value)} (r : KV kvs vs) (k : κ) : (kvs.any fun kv => decide (kv.1 = k)) = vs.any fun kv => decide (kv.1 = k) := by
  unfold KV at r
  induction r with
  | nil => rfl
  | cons h t ih => rw [List.any_cons, List.any_cons, ih, h.1]
theorem KV.repl {kvs : List (κ × V)} {vs : List (κ × Value)} (r : KV kvs vs) (k : κ) {y : V} {u : Value} (ry : RelV y u) :
    KV (kvs.map fun kv => if kv.1 = k then (kv.1, y) else kv) (vs.map fun kv => if kv.1 = k then (kv.1, u) else kv) := by
  unfold KV at r ⊢
  induction r with
  | nil => exact .nil
  | @cons p q ps qs h t ih =>
    rw [List.map_cons, List.map_cons]
    refine .cons ?_ ih
    obtain ⟨h1, h2⟩ := h
    by_cases e : p.1 = k
    · rw [if_pos e, if_pos (h1.symm.trans e)]; exact ⟨h1, ry⟩
    · rw [if_neg e, if_neg (fun z => e (h1.trans z))]; exact ⟨h1, h2⟩
theorem KV.put {kvs : List (κ × V)} {vs : List (κ × Value)} (r : KV kvs vs) (k : κ) {y : V} {u : Value} (ry : RelV y u) : KV (putK kvs k y) (stored vs k u) := by
  unfold putK stored
  rw [r.any k]
  by_cases e : (vs.any fun kv => decide (kv.1 = k)) = true
  · rw [if_pos e, if_pos e]; exact r.repl k ry
  · rw [if_neg e, if_neg e]; exact Paired.snoc r ⟨rfl, ry⟩
theorem KV.length {kvs : List (κ × V)} {vs : List (κ × Value)} (r : KV kvs vs) : kvs.length = vs.length := Paired.length r
end

theorem kV_is {P : Program} {w : World} {k : Key} {u : Value} (r : RelV (kV k) u) : (mixKind P w).is k u = true := by
  cases k with
  | inl i => obtain ⟨t, e⟩ := (show ∃ t, u = Value.int i t from r); subst e; exact mixKind_int P w i t
  | inr x => obtain ⟨t, e⟩ := (show ∃ t, u = Value.str x t from r); subst e; exact mixKind_str P w x t
theorem items_are {P : Program} {w : World} : ∀ {ks : List Key} {us : List Value}, Vals (ks.map kV) us → ItemsAre (mixKind P w) ks us
  | [], _, r => by rw [List.map_nil] at r; cases r; exact .nil
  | k :: ks, _, r => by
    rw [List.map_cons] at r
    cases r with
    | cons h t => exact .cons (kV_is h) (items_are t)

abbrev KT (H : Hp) : List (List Key × V) → List (List Key × Addr × Value) → Prop := Paired fun p q => p.1 = q.1 ∧ H q.2.1 = some (.tup (p.1.map kV)) ∧ RelV p.2 q.2.2
theorem KT.val {H : Hp} {kvs : List (List Key × V)} {xs : List (List Key × Addr × Value)} (r : KT H kvs xs) (k : List Key) : RelO (valV kvs k) ((atKey xs k).map (·.2)) := by
  induction r with
  | nil => exact True.intro
  | @cons p q ps qs h t ih =>
    obtain ⟨h1, _, h2⟩ := h
    by_cases e : p.1 = k
    · have e' : q.1 = k := h1.symm.trans e
      have b : atKey (q :: qs) k = some q.2 := by simp [atKey, List.find?_cons, e']
      rw [valV_pos e, b]; exact h2
    · have e' : ¬ q.1 = k := fun z => e (h1.trans z)
      have b : atKey (q :: qs) k = atKey qs k := by simp [atKey, List.find?_cons, e']
      rw [valV_neg e, b]; exact ih
theorem KT.repl {H : Hp} {kvs : List (List Key × V)} {xs : List (List Key × Addr × Value)} (r : KT H kvs xs) (k : List Key) {y : V} {u : Value} (ry : RelV y u) :
    KT H (kvs.map fun kv => if kv.1 = k then (kv.1, y) else kv) (xs.map (putAt k u)) := by
  induction r with
  | nil => exact .nil
  | @cons p q ps qs h t ih =>
    rw [List.map_cons, List.map_cons]
    refine .cons ?_ ih
    obtain ⟨h1, h2, h3⟩ := h
    unfold putAt
    by_cases e : p.1 = k
    · rw [if_pos e, if_pos (h1.symm.trans e)]; exact ⟨h1, h2, ry⟩
    · rw [if_neg e, if_neg (fun z => e (h1.trans z))]; exact ⟨h1, h2, h3⟩
theorem KT.put {H : Hp} {kvs : List (List Key × V)} {xs : List (List Key × Addr × Value)} (r : KT H kvs xs) (k : List Key) {b : Addr} {y : V} {u : Value} (hb : H b = some (.tup (k.map kV))) (ry : RelV y u) :
    KT H (putK kvs k y) (storedH xs k b u) := by
  have e : (kvs.any fun kv => decide (kv.1 = k)) = (atKey xs k).isSome := by
    rw [valV_any, (r.val k).isSome_eq, Option.isSome_map]
  unfold putK storedH
  rw [e]
  by_cases q : (atKey xs k).isSome = true
  · rw [if_pos q, if_pos q]; exact r.repl k ry
  · rw [if_neg q, if_neg q]; exact Paired.snoc r ⟨rfl, hb, ry⟩
theorem KT.keeps {H H' : Hp} {kvs : List (List Key × V)} {xs : List (List Key × Addr × Value)} (r : KT H kvs xs) (ht : ∀ b ys, H b = some (.tup ys) → H' b = some (.tup ys)) : KT H' kvs xs :=
  Paired.mapP r fun _ _ z => ⟨z.1, ht _ _ z.2.1, z.2.2⟩

section
variable {P : Program} {w : World} {H : Hp} {h : Heap} {a : Addr}
theorem rd_of {u : HO} (ok : HOk P w H h) (e : Rd H a u) : ObjOk P w H h a u := e.ok ok
theorem dk_rd {kvs : List (Key × V)} (ok : HOk P w H h) (e : Rd H a (.dK kvs)) : kvs.length ≤ sizeLine ∧ (a == sysModules) = false ∧ ∃ vs, KV kvs vs ∧ h.DictOf (mixKind P w) a vs :=
  show ObjOk P w H h a (.dK kvs) from rd_of ok e
theorem dk_of {kvs : List (Key × V)} (ok : HOk P w H h) (e : H a = some (.dK kvs)) : kvs.length ≤ sizeLine ∧ (a == sysModules) = false ∧ ∃ vs, KV kvs vs ∧ h.DictOf (mixKind P w) a vs := dk_rd ok (.inl e)
theorem key_of {ks : List Key} (ok : HOk P w H h) (e : H a = some (.tup (ks.map kV))) : (tupleKind (mixKind P w)).is h ks a := by
  obtain ⟨_, its, r, o, h1, h2, n, h3⟩ := (show ObjOk P w H h a (.tup (ks.map kV)) from ok a _ e)
  exact ⟨o, its.toArray, n, h1, h2, h3, by simpa using items_are r⟩
theorem dt_rd {kvs : List (List Key × V)} (ok : HOk P w H h) (e : Rd H a (.dT kvs)) : kvs.length ≤ sizeLine ∧ (a == sysModules) = false ∧
    ∃ xs, KT H kvs xs ∧ h.DictOfH (tupleKind (mixKind P w)) a xs := by
  obtain ⟨z, y, xs, r, o, es, ep, h1, h2, h3, h4, h5⟩ := (show ObjOk P w H h a (.dT kvs) from rd_of ok e)
  refine ⟨z, y, xs, r, o, es, ep, h1, h2, h3, h4, fun x hx => ?_, h5⟩
  have all : ∀ {l : List (List Key × V)} {m : List (List Key × Addr × Value)}, KT H l m → ∀ x ∈ m, (tupleKind (mixKind P w)).is h x.1 x.2.1 := by
    intro l m q
    induction q with
    | nil => intro x hx; exact nomatch hx
    | @cons p q ps qs hq t ih =>
      intro x hx
      rcases List.mem_cons.mp hx with e | hx
      · subst e
        exact key_of ok (by rw [← hq.1]; exact hq.2.1)
      · exact ih x hx
  exact all r x hx
theorem dt_of {kvs : List (List Key × V)} (ok : HOk P w H h) (e : H a = some (.dT kvs)) : kvs.length ≤ sizeLine ∧ (a == sysModules) = false ∧
    ∃ xs, KT H kvs xs ∧ h.DictOfH (tupleKind (mixKind P w)) a xs := dt_rd ok (.inl e)
end

def DGet (H : Hp) (a : Addr) (y : V) (r : Option V) : Prop :=
  (∃ kvs k, Rd H a (.dK kvs) ∧ y = kV k ∧ r = valV kvs k) ∨ ∃ kvs k b, Rd H a (.dT kvs) ∧ y = .ref b ∧ H b = some (.tup (k.map kV)) ∧ r = valV kvs k
def DPut (H : Hp) (a : Addr) (y v : V) (H' : Hp) : Prop :=
  (∃ kvs k, H a = some (.dK kvs) ∧ y = kV k ∧ kvs.length < sizeLine ∧ H' = upd H a (.dK (putK kvs k v))) ∨
  ∃ kvs k b, H a = some (.dT kvs) ∧ y = .ref b ∧ H b = some (.tup (k.map kV)) ∧ kvs.length < sizeLine ∧ H' = upd H a (.dT (putK kvs k v))
theorem DGet.k {H : Hp} {a : Addr} {kvs : List (Key × V)} {k : Key} (e : H a = some (.dK kvs)) : DGet H a (kV k) (valV kvs k) := .inl ⟨kvs, k, .inl e, rfl, rfl⟩
theorem DPut.k {H : Hp} {a : Addr} {kvs : List (Key × V)} {k : Key} {v : V} (e : H a = some (.dK kvs)) (hl : kvs.length < sizeLine) : DPut H a (kV k) v (upd H a (.dK (putK kvs k v))) := .inl ⟨kvs, k, e, rfl, hl, rfl⟩
section
variable {X : Cx} {pins : List (Addr × Obj)} {σ : St} {H : Hp} {s : Shared} {a : Addr} {y v : V} {u r : Value} {o : Option V} {A : Around} {E : Value → Shared → Prop}

theorem Inv.big (I : Inv X pins σ H s) : sysModules < s.heap.objs.size := by
  have h : mainGlobals < s.heap.objs.size := (I.mod.glob.keeps I.bk).lt
  exact Nat.lt_trans (by decide) h

theorem d_in {Q : Value → Shared → Prop} (hu : A.units + 1 < cLine) (I : Inv X pins σ H s) (g : DGet H a y o) (ry : RelV y u) (h : ∀ s', Inv X pins σ H s' → Q (.bool o.isSome) s') :
    wpAny (model X.prog X.w) A (compareOp .In u (.ref a)) Q E s := by
  rcases g with ⟨kvs, k, e, ey, l⟩ | ⟨kvs, k, b, e, ey, eb, l⟩
  · subst ey
    obtain ⟨z, hd, vs, rel, dd⟩ := dk_rd I.hok e
    refine wpAny_in_of (kV_is ry) hd dd.mapOf ?_
    rw [← (rel.val k).isSome_eq, ← l]
    exact h _ (I.tok _)
  · subst ey
    cases (show u = Value.ref b from ry)
    obtain ⟨z, hd, xs, rel, dd⟩ := dt_rd I.hok e
    refine wpAny_in_heap (tupleKind_room_in1 hu) (key_of I.hok eb) hd dd ?_
    have q := (rel.val k).isSome_eq
    rw [Option.isSome_map] at q
    rw [← q, ← l]
    exact h _ (I.tok _)
theorem d_write {h' : Heap} {t' : Nat} {ob : HO} (I : Inv X pins σ H s) (mu : Mut (H a)) (hs : Heap.SameBut a s.heap h') (he : ∃ q, h'.get? a = some q) (new : ObjOk X.prog X.w (upd H a ob) h' a ob) :
    Inv X pins σ (upd H a ob) { s with heap := h', toks := t' } :=
  I.write (x := a) (e := a) mu (.inl rfl) (fun b q hb z => (hs.2 b hb).trans z) he new
theorem dk_new {P : Program} {w : World} {H' : Hp} {h' : Heap} {kvs : List (Key × V)} {vs : List (Key × Value)} (z : kvs.length ≤ sizeLine) (hd : (a == sysModules) = false) (rel : KV kvs vs) (dd : h'.DictOf (mixKind P w) a vs) :
    ObjOk P w H' h' a (.dK kvs) := ⟨z, hd, vs, rel, dd⟩
theorem d_setItem {H' : Hp} {Q : Unit → Shared → Prop} (hu : A.units + 1 < cLine) (I : Inv X pins σ H s) (g : DPut H a y v H') (ry : RelV y u) (rv : RelV v r) (h : ∀ s', Inv X pins σ H' s' → Q () s') :
    wpAny (model X.prog X.w) A (setItem (.ref a) u r) Q E s := by
  rcases g with ⟨kvs, k, e, ey, l, eH⟩ | ⟨kvs, k, b, e, ey, eb, l, eH⟩
  · subst ey eH
    obtain ⟨z, hd, vs, rel, dd⟩ := dk_of I.hok e
    have hz : vs.length ≤ sizeLine := by rw [← rel.length]; exact z
    have hl : (putK kvs k v).length ≤ sizeLine := by have := length_putK kvs k v; omega
    refine wpAny_setItem_pairs (hsz := hz) (kV_is ry) dd fun h' dd' hs => h _ ?_
    have he : ∃ q, h'.get? a = some q := let ⟨q, _, _, hq, _⟩ := dd'; ⟨q, hq⟩
    exact d_write I (by rw [e]; exact True.intro) hs he (dk_new hl hd (rel.put k rv) dd')
  · subst ey eH
    cases (show u = Value.ref b from ry)
    obtain ⟨z, hd, xs, rel, dd⟩ := dt_of I.hok e
    have hz : xs.length ≤ sizeLine := by rw [← Paired.length rel]; exact z
    have hl : (putK kvs k v).length ≤ sizeLine := by have := length_putK kvs k v; omega
    refine wpAny_setItem_heap (hsz := hz) (tupleKind_room_in1 hu) (key_of I.hok eb) dd fun h' dd' hs => h _ ?_
    obtain ⟨q, es, ep, hq, h2, h3, h4, _, h5⟩ := dd'
    refine d_write I (by rw [e]; exact True.intro) hs ⟨q, hq⟩ ⟨hl, hd, _, (rel.put k eb rv).keeps fun c ys ec => ?_, q, es, ep, hq, h2, h3, h4, h5⟩
    rw [upd_ne (ne_of ec e (fun z => nomatch z))]
    exact ec
end

section
variable {X : Cx} {pins : List (Addr × Obj)} {σ : St} {H : Hp} {s : Shared} {a : Addr} {kvs : List (Key × V)} {k : Key} {u : Value} {A : Around} {E : Value → Shared → Prop}
end

def NoSl (i : Expr) : Prop := ∀ ov iv, subscripted i false ov iv = operate [ov, iv] (getItem ov iv)
def tDGet (td ty : TE) : TE := fun σ H Q => td σ H fun x H1 => ty σ H1 fun y H2 => ∃ a v, x = .ref a ∧ DGet H2 a y (some v) ∧ Q v H2
def tDIn (ty td : TE) : TE := fun σ H Q => ty σ H fun y H1 => td σ H1 fun x H2 => ∃ a o, x = .ref a ∧ DGet H2 a y o ∧ Q (.bl o.isSome) H2
def tDNotIn (ty td : TE) : TE := fun σ H Q => ty σ H fun y H1 => td σ H1 fun x H2 => ∃ a o, x = .ref a ∧ DGet H2 a y o ∧ Q (.bl (!o.isSome)) H2
def sDPut (td ty tv : TE) : TS := fun D σ H => tv σ H fun v H1 => td σ H1 fun x H2 => ty σ H2 fun y H3 => ∃ a H4, x = .ref a ∧ DPut H3 a y v H4 ∧ D.nx σ H4
def sDAug (td ty tv : TE) (rd : V → V → Hp → VK → Prop) : TS := fun D σ H => td σ H fun x H1 => ty σ H1 fun y H2 => ∃ a v, x = .ref a ∧ DGet H2 a y (some v) ∧
  tv σ H2 fun y2 H3 => rd v y2 H3 fun z H4 => ∃ H5, DPut H4 a y z H5 ∧ D.nx σ H5
def sDDel (td ty : TE) : TS := fun D σ H => td σ H fun x H1 => ty σ H1 fun y H2 => ∃ a kvs k, x = .ref a ∧ H2 a = some (.dK kvs) ∧ y = kV k ∧ (valV kvs k).isSome = true ∧ D.nx σ (upd H2 a (.dK (dropK kvs k)))

section
variable {X : Cx} {o i e value : Expr} {pos pos' tpos : Pos} {td ty tv : TE}
theorem pc_din (hu : X.A.units + 1 < cLine) (hi : PE X i ty) (ho : PE X o td) : PC X .In i o (tDIn ty td) := by
  intro pins s σ H Q I h
  refine thn (hi pins s σ H _ I h) fun iv s1 ⟨y, H1, I1, ry, q1⟩ => thn (ho pins s1 σ H1 _ I1 q1) fun u s2 ⟨x, H2, I2, rx, a, ov, ex, g, q2⟩ => ?_
  subst ex
  obtain rfl : u = Value.ref a := rx
  exact d_in hu I2 g ry fun s3 I3 => ⟨.bl ov.isSome, H2, I3, rfl, q2⟩
theorem ps_dput (hu : X.A.units + 1 < cLine) (ho : PE X o td) (hi : PE X i ty) (hv : PE X value tv) (hs : swapsWith value (some (.Subscript o i pos')) pos.line X.env = pure false) :
    PS X (.Assign [.Subscript o i pos'] value pos) (sDPut td ty tv) := by
  intro pins s σ H D I h
  refine wpAny_Assign_Subscript (thn (hv pins s σ H _ I h) fun r s1 ⟨v, H1, I1, rv, q1⟩ => thn (ho pins s1 σ H1 _ I1 q1) fun u s2 ⟨x, H2, I2, rx, q2⟩ => thn (hi pins s2 σ H2 _ I2 q2) fun iv s3 ⟨y, H3, I3, ry, a, H4, ex, g, q3⟩ => ?_) hs
  subst ex
  obtain rfl : u = Value.ref a := rx
  exact d_setItem hu I3 g ry rv fun s4 I4 => ⟨σ, H4, I4, q3⟩
end

theorem dk_empty {P : Program} {w : World} {H : Hp} (h : Heap) (hb : sysModules < h.objs.size) : ObjOk P w H (h.push { cls := .type "dict", data := .dict #[] }) h.objs.size (.dK []) :=
  ⟨Nat.zero_le _, beq_eq_false_iff_ne.mpr (Ne.symm (Nat.ne_of_lt hb)), [], .nil, Heap.DictOf.new h⟩
def tDNewK : TE := fun _ H Q => ∀ p, H p = none → Q (.ref p) (upd H p (.dK []))
def tDNewT : TE := fun _ H Q => ∀ p, H p = none → Q (.ref p) (upd H p (.dT []))
section
variable {X : Cx} {pos : Pos}
theorem pe_dnewK : PE X (.Dict [] [] pos) tDNewK := fun pins s σ H Q I h =>
  wpAny_Dict_empty ⟨.ref s.heap.objs.size, _, I.laid (a := s.heap.objs.size) (o := .dK []) (t' := s.toks) (fun _ _ q => Heap.get?_push_of_some _ q) (Nat.le_refl _) (dk_empty s.heap I.big), rfl, h _ (I.hok.fresh (Nat.le_refl _))⟩
end

def tPairs : List (TE × TE) → St → Hp → (List (V × V) → Hp → Prop) → Prop
  | [], _, H, Q => Q [] H
  | (tk, tv) :: r, σ, H, Q => tk σ H fun x H1 => tv σ H1 fun y H2 => tPairs r σ H2 fun ps H3 => Q ((x, y) :: ps) H3
abbrev VV : List (V × V) → List (Value × Value) → Prop := Paired fun p q => RelV p.1 q.1 ∧ RelV p.2 q.2
def PPs (X : Cx) (pos : Pos) (keys : List (Option Expr)) (values : List Expr) (trs : List (TE × TE)) : Prop :=
  ∀ (pins : List (Addr × Obj)) (s : Shared) (σ : St) (H : Hp) (Q : List (V × V) → Hp → Prop), Inv X pins σ H s → tPairs trs σ H Q →
    wpAny (model X.prog X.w) X.A (evalPairs (pairTrees keys values X.env pos)) (fun vs s' => ∃ ps H', Inv X pins σ H' s' ∧ VV ps vs ∧ Q ps H') X.xe s
def mergeK (kvs more : List (Key × V)) : List (Key × V) := more.foldl (fun acc kv => putK acc kv.1 kv.2) kvs
def tDisp (trs : List (TE × TE)) : TE := fun σ H Q => ∀ p, H p = none → tPairs trs σ (upd H p (.dK [])) fun ps H2 => H2 p = some (.dK []) ∧ ∃ kvs : List (Key × V), ps = kvs.map (fun kv => (kV kv.1, kv.2)) ∧ kvs.length ≤ 15 ∧ Q (.ref p) (upd H2 p (.dK (mergeK [] kvs)))
structure M1 (X : Cx) (o : Expr) (m : Str) (apos : Pos) (e : Expr) (cpos : Pos) : Prop where
  base : attributeBase o m X.env (eval o X.env) = eval o X.env
  few : ((backTo cpos (starEach [e] X.env)).all (fun x => !x.1) && (backToKw cpos (keywordEach [] X.env)).all (fun x => x.1.isSome)
    && decide (([e] : List Expr).length + ([] : List Keyword).length + (if ([] : List Keyword).isEmpty then 0 else 1) < 30)) = true
  line : (apos.endLine == cpos.line) = true
  trees : backTo cpos (starEach [e] X.env) = [(false, eval e X.env)]
structure M2 (X : Cx) (o : Expr) (m : Str) (apos : Pos) (e f : Expr) (cpos : Pos) : Prop where
  base : attributeBase o m X.env (eval o X.env) = eval o X.env
  few : ((backTo cpos (starEach [e, f] X.env)).all (fun x => !x.1) && (backToKw cpos (keywordEach [] X.env)).all (fun x => x.1.isSome)
    && decide (([e, f] : List Expr).length + ([] : List Keyword).length + (if ([] : List Keyword).isEmpty then 0 else 1) < 30)) = true
  line : (apos.endLine == cpos.line) = true
  trees : backTo cpos (starEach [e, f] X.env) = [(false, eval e X.env), (false, eval f X.env)]

def IsD (H : Hp) (a : Addr) : Prop := (∃ kvs, Rd H a (.dK kvs)) ∨ ∃ kvs, Rd H a (.dT kvs)
section
variable {X : Cx} {pins : List (Addr × Obj)} {σ : St} {H : Hp} {s : Shared} {a : Addr} {y d : V} {u r : Value} {o : Option V} {A : Around} {E : Value → Shared → Prop}
end

def tDGet1 (td ty : TE) : TE := fun σ H Q => td σ H fun x H1 => ∃ a, x = .ref a ∧ IsD H1 a ∧ ty σ H1 fun y H2 => ∃ o, DGet H2 a y o ∧ Q (o.getD .non) H2
def tDGet2 (td ty tx : TE) : TE := fun σ H Q => td σ H fun x H1 => ∃ a, x = .ref a ∧ IsD H1 a ∧ ty σ H1 fun y H2 => tx σ H2 fun z H3 => ∃ o, DGet H3 a y o ∧ Q (o.getD z) H3
def tDPop1 (td ty : TE) : TE := fun σ H Q => td σ H fun x H1 => ∃ a, x = .ref a ∧ IsD H1 a ∧ ty σ H1 fun y H2 => ∃ kvs k v, H2 a = some (.dK kvs) ∧ y = kV k ∧ valV kvs k = some v ∧ Q v (upd H2 a (.dK (dropK kvs k)))
def tDPop2 (td ty tx : TE) : TE := fun σ H Q => td σ H fun x H1 => ∃ a, x = .ref a ∧ IsD H1 a ∧ ty σ H1 fun y H2 => tx σ H2 fun z H3 => ∃ kvs k, H3 a = some (.dK kvs) ∧ y = kV k ∧
  (∀ v, valV kvs k = some v → Q v (upd H3 a (.dK (dropK kvs k)))) ∧ (valV kvs k = none → Q z H3)
section
variable {X : Cx} {o e f : Expr} {apos cpos : Pos} {td ty tx : TE}
end

section
variable {X : Cx} {pins : List (Addr × Obj)} {σ : St} {H : Hp} {s : Shared} {a : Addr} {y : V} {u : Value} {A : Around} {E : Value → Shared → Prop}
end
end L2

namespace L2
open PySem PySem.Spec PyProof.Rows

section
variable {P : Program} {w : World} {K : PySem.W.Frag} {mg : Str → Option Value} {base : Heap}
end
section
variable {X : Cx}
end

section
variable {κ : Type} [DecidableEq κ]
end
end L2

namespace L2
open PySem PySem.Spec PyProof.Rows
theorem vals_intsOf : ∀ {us : List Value} {ns : List Int}, IntsAre us ns → Vals (ns.map V.int) us
  | _, _, .nil => .nil
  | _, _, .cons a t r => .cons ⟨t, rfl⟩ (vals_intsOf r)
abbrev pairD (x : Int × Int) : PyData := .tuple [.int x.1, .int x.2]
theorem CompScope.one {X : Cx} {x y : Str} {k : Nat} {c : Addr} {scope : Scope} (ns' : List (Str × NameKind)) (kind : scope.kind = .function) (nocell : ∀ z ∈ scope.names, z.2 ≠ .cell) (loc : ∀ z ∈ scope.names, z.2 = .local → scope.names.lookup z.1 = some .local) (own : scope.names.lookup x = some .local)
    (clos : closureFor scope X.env = pure [(y, c)]) (hc : X.env.cells.lookup y = some c) (rl : (relabel scope X.env).names = ns') (only : ∀ p ∈ ns', p.2 = .cell ∨ p.2 = .free → p.1 = y) (ne : x ≠ y) (ny : ns'.lookup y ≠ some .local)
    (hk : X.N[k]? = some y) (kd : X.env.kindOf y = some .cell) : CompScope X [x, y] [k] x scope [(y, c)] := by
  subst rl
  refine ⟨kind, nocell, loc, own, clos, fun z b h => ?_, fun z h => ?_, by simp [ne], rfl, rfl, fun j z h => ?_, fun j k' h => ?_⟩
  · rw [List.lookup_cons] at h
    by_cases e : z = y
    · subst e
      simp at h
      subst h
      exact hc
    · have : (z == y) = false := by simpa using e
      rw [this] at h
      simp at h
  · have e : z = y := by
      rcases h with h | h
      · exact only _ (PySem.mem_of_lookup h) (.inl rfl)
      · exact only _ (PySem.mem_of_lookup h) (.inr rfl)
    subst e
    exact ⟨c, by simp⟩
  · cases j with
    | zero =>
      have e : y = z := by simpa using h
      subst e
      exact ny
    | succ j => simp at h
  · cases j with
    | zero =>
      have e : k = k' := by simpa using h
      subst e
      exact ⟨y, rfl, hk, kd⟩
    | succ j => simp at h
end L2

namespace L2
open PySem PySem.Spec PyProof.Rows
section
variable {X : Cx} {N : List Str} {fr : List Nat} {x : Str} {scope : Scope} {cl : List (Str × Addr)} {elt iter : Expr} {px pos : Pos} {wi : TI} {te : TE}
theorem pe_compIf {cnd : Expr} {tc : TT} (hc : X.calm = true) (S : CompScope X N fr x scope cl) (hi : PI X (.Name x px) iter wi) (ht : ∀ (C : Addr) (s0 : Shared) (H0 : Hp) (fp : List Addr) (pins : List (Addr × Obj)), PT (cxC X N scope cl C s0 H0 fp pins) cnd tc) (he : ∀ (C : Addr) (s0 : Shared) (H0 : Hp) (fp : List Addr) (pins : List (Addr × Obj)), PE (cxC X N scope cl C s0 H0 fp pins) elt te)
    (hs : ∀ y, foldedSetIterable iter X.env y = pure y := by intro _; rfl) : PE X (.ListComp elt [⟨.Name x px, iter, [cnd], 0⟩] scope pos) (tCompIf wi fr tc te) := by
  intro pins s σ H Q I h
  rw [eval_ListComp]
  exact comp_core (use := none) hc S hi (fun _ _ _ _ _ => pts_one (ht _ _ _ _ _)) he hs I h fun acc C m H6 s7 qn hn hend _ _ _ _ _ => ⟨m, hn, fun h' hs' => ⟨.ref acc, H6, hend h' hs', rfl, qn⟩⟩
end
end L2

namespace L2
open PySem PySem.Spec PyProof.Rows
theorem exc_obj2 {v : Value} {K : PySem.W.Frag} {h : Heap} {C : Addr} {bmB : List Value} {newId : String} (X : K.In h) (q : PySem.W.excIn K C bmB newId = true) (em : PySem.W.mroIn K C v = some true) :
    ∃ bm N nm qn bs hdct sn sub ab col dd k0 k1 k2 k3 k5 mN, h.get? C = some (excClassObj nm qn C N bs bm hdct sn sub ab col dd k0 k1 k2 k3 k5 newId) ∧ h.Ns N mN ∧ mN "__init__" = none ∧ OwnTail h bmB bm ∧ (Value.ref C :: bm).contains v = true := by
  unfold PySem.W.excIn at q
  split at q
  · rename_i dd cd sl ho
    split at q
    · rename_i C' bm k0 k1 k2 k3 n k5 hm hs
      have hin : cd.mro.contains v = true := by
        unfold PySem.W.mroIn PySem.W.clsIn at em
        rw [ho] at em
        obtain ⟨cd', a, b⟩ := Option.bind_eq_some_iff.mp em
        cases a
        split at b
        · cases b
        · exact Option.some.inj b
      rw [hm] at hin
      simp only [Bool.and_eq_true, beq_iff_eq, Bool.not_eq_true'] at q
      obtain ⟨⟨⟨⟨⟨c1, c2⟩, c3⟩, c4⟩, c5⟩, c6⟩ := q
      subst c1 c2
      obtain ⟨nm, bs, mro, ns, qn, hd, sn, sub, ab, col, del⟩ := cd
      dsimp only at hm c3 c5 c6
      subst hm c3
      obtain ⟨l⟩ := sl
      have hs' : l = [k0, k1, k2, k3, some (.builtin n), k5] := hs
      subst hs'
      exact ⟨bm, ns, nm, qn, bs, hd, sn, sub, ab, col, dd, k0, k1, k2, k3, k5, _, X _ _ ho, .of_isNs (PySem.W.isNs_of_in X c5), PySem.W.nsMap_none_of_in X c5 c6, PySem.W.tail_of_in X c4, hin⟩
    · cases q
  · cases q

section
variable {M : Model} {A : Around} {E : Value → Shared → Prop}
variable {nm q nm' q' : Str} {C N D N' : Addr} {bs bm bs' bm' : List Value} {hdct hdct' : Bool} {sn sn' : List Str} {sub sub' : List Value} {ab ab' : Bool} {col col' : Option Bool} {dd dd' : Option Addr} {k0 k1 k2 k3 k5 j0 j1 j2 j3 j5 : Option Value} {newId newId' : String}
theorem excMatches_up {h : Heap} {g : Array GenState} {d : Drawn} {t : Nat} {os : OsState} {e : Addr} {oe : Obj} {Q : Bool → Shared → Prop}
    (hC : h.get? C = some (excClassObj nm q C N bs bm hdct sn sub ab col dd k0 k1 k2 k3 k5 newId)) (hD : h.get? D = some (excClassObj nm' q' D N' bs' bm' hdct' sn' sub' ab' col' dd' j0 j1 j2 j3 j5 newId')) (he : h.get? e = some oe) (hcls : oe.cls = .ref C)
    (hbase : bm'.contains (.type "BaseException") = true) (hcC : (Value.ref C :: bm).contains (.ref D) = true)
    (hq : Q true ⟨h, g, d, t, os⟩) : wpAny M A (excMatches (.ref e) (.ref D)) Q E ⟨h, g, d, t, os⟩ := by
  have hcB : (Value.ref D :: bm').contains (.type "BaseException") = true := by rw [List.contains_cons, hbase, Bool.or_true]
  have f := tc_notTuple
  unfold excMatches
  repeat (first | (with_reducible refine wpAny_loadPart_at he ?_; rw [hcls]) | with_reducible refine wpAny_loadPart_at hD ?_ | with_reducible refine wpAny_loadPart_at hC ?_ | (with_reducible refine wpAny_isSubtype_exc hD ?_; rw [hcB]) | (with_reducible refine wpAny_isSubtype_exc hC ?_; rw [hcC]) | wp_step)
  exact hq
end
section
variable {X : Cx} {pins : List (Addr × Obj)} {σ : St} {H H' : Hp} {s s' : Shared} {e : Addr} {cls a0 : Value} {ea C : Addr} {B h' : Heap} {t' : Nat}
theorem handle_as2 {Dc : Addr} {D : Ends} {ts : TS} {x n : Str} {np hpos : Pos} {b₀ : Stmt} {suite : List Stmt} {i : Nat} (I : Inv X pins σ H s) (fly : Fly X.prog X.w X.stack H s (.ref C) a0 ea B H' s') (hst : X.stack = X.env :: X.outer) (hf : X.env.frame = some X.env.locals)
    (hm : X.mg x = some (.ref Dc)) (hg : Gl X x) (hq : PySem.W.excIn X.K C bmVE "ValueError.__new__" = true) (hqD : PySem.W.excIn X.K Dc bmVE "ValueError.__new__" = true) (hcd : PySem.W.mroIn X.K C (.ref Dc) = some true) (hN : X.N.Nodup) (hi : X.N[i]? = some n) (hk : X.env.scope.names.lookup n = some .local)
    (hsu : PSs (X.marked ea) (b₀ :: suite) ts) (h : ts (asEnds D i) (σ.set i (some (.ref ea))) (upd H' ea (.ext (ExcAt C ea)))) (hdb : (x == ("__debug__" : Str)) = false) :
    wpAny (model X.prog X.w) X.A (noteFrame (.ref ea) X.env) (fun _ s₂ => wpAny (model X.prog X.w) X.A (setFlight (.ref ea) none) (fun _ s₃ =>
      wpAny (model X.prog X.w) X.A (handleBy (.ref ea) X.env [.ExceptHandler (some (.Name x np)) (some n) (b₀ :: suite) hpos]) (SP X pins D) X.xe s₃) X.xe s₂) X.xe s' := by
  obtain ⟨hp, gs, dr, tk, os⟩ := s'
  have fr : X.A.frames = some (X.env :: X.outer) := by rw [← hst]; exact I.ok.frames
  have fl : Heap.FlyingW B (X.env :: X.outer) ea (.ref C) a0 hp := by rw [← hst]; exact fly.fly
  refine wpAny_looks_onW fr hf fl fun h4 held4 u4 => ?_
  refine wpAny_landsW held4 fun h5 fl5 u5 => ?_
  have I5 : Inv X pins σ H' ⟨h5, gs, dr, tk, os⟩ := I.landed (t' := tk) fly fl5.1 (u4.trans u5)
  obtain ⟨ob, hob, hobc⟩ := fl5.there
  refine wpAny_handleBy_cons (codeAny_handlers_test (ld_glob (I5.marked ea) hg hm ?_ hdb)) (by intro q; cases q)
  obtain ⟨bm, Nn, nm, qn, bs, hdct, sn, sub, ab, col, dd, k0, k1, k2, k3, k5, mN, hC, hNs, hni, TL, hin⟩ := exc_obj2 I5.kIn hq hcd
  obtain ⟨bm', Nn', nm', qn', bs', hdct', sn', sub', ab', col', dd', j0, j1, j2, j3, j5, mN', hD, hNs', hni', TL'⟩ := exc_obj I5.kIn hqD
  refine excMatches_up hC hD hob hobc (TL'.hasType PySem.F.excBase_ValueError.hasBase) hin ?_
  refine codeAny_handlers_suite_as ?_
  refine lands_againW fl5 fun h6 fl6 u6 => ?_
  have I6 : Inv X pins σ (upd H' ea (.ext (ExcAt C ea))) ⟨h6, gs, dr, tk, os⟩ := I.landedE (t' := tk) fly fl6 ((u4.trans u5).trans u6)
  refine store_ok (X := X.marked ea) (i := i) (v := .ref ea) (I6.marked ea) hN hi (.inl hk) rfl (fun s7 I7 => ?_) (.inr hk)
  refine wpAny_mono (hsu pins s7 _ _ _ I7 h) (fun fw s8 q => ?_) fun _ _ z => False.elim z
  cases fw with
  | next =>
    obtain ⟨σ2, H2, J, q⟩ := q
    exact unbind_ok (J.unmarked I.ok) hN hi hk fun s9 J9 => ⟨_, _, J9, q⟩
  | ret v =>
    obtain ⟨v', σ2, H2, J, r, q⟩ := q
    exact unbind_ok (J.unmarked I.ok) hN hi hk fun s9 J9 => ⟨v', _, _, J9, r, q⟩
  | brk =>
    obtain ⟨σ2, H2, J, q⟩ := q
    exact unbind_ok (J.unmarked I.ok) hN hi hk fun s9 J9 => ⟨_, _, J9, q⟩
  | cont =>
    obtain ⟨σ2, H2, J, q⟩ := q
    exact unbind_ok (J.unmarked I.ok) hN hi hk fun s9 J9 => ⟨_, _, J9, q⟩
end
section
variable {X : Cx} {k : Nat} {f C : Addr} {fd : FuncData} {ps : List Str} {sp : Sp} {g x n : Str} {p pos pos2 pos3 np hpos : Pos} {e : Expr} {es : List Expr} {t : TA} {ts : TS} {b₀ : Stmt} {suite : List Stmt} {i : Nat}
theorem ps_tryAs2 {Dc : Addr} (F : FnOk X.prog X.w X.K X.mg X.base (XF X.prog X.w) k f fd ps sp) (hr : Room k X.A) (hgf : Gl X g) (hmf : X.mg g = some (.ref f)) (hkf : PySem.W.keepIn X.K (.ref f) = true) (hb : Binds X.K fd ps []) (ha : PA X.nox (e :: es) t)
    (hm : X.mg x = some (.ref Dc)) (hg : Gl X x) (hq : PySem.W.excIn X.K C bmVE "ValueError.__new__" = true) (hqD : PySem.W.excIn X.K Dc bmVE "ValueError.__new__" = true) (hcd : PySem.W.mroIn X.K C (.ref Dc) = some true) (hN : X.N.Nodup) (hi : X.N[i]? = some n) (hk : X.env.scope.names.lookup n = some .local) (hsu : ∀ ea, PSs (X.marked ea) (b₀ :: suite) ts)
    (hst : X.stack = X.env :: X.outer := by rfl) (hf : X.env.frame = some X.env.locals := by rfl)
    (hdf : (g == ("__debug__" : Str)) = false := by decide) (hdb : (x == ("__debug__" : Str)) = false := by decide)
    (he : starEach (e :: es) X.env = (false, eval e X.env) :: starEach es X.env := by rfl) (hpl : (backTo pos (starEach es X.env)).any (·.1) = false := by rfl)
    (hsw : swapsWith (.Call (.Name g p) (e :: es) [] pos) none pos2.line X.env = pure false := by rfl) :
    PS X (.Try [.Expr (.Call (.Name g p) (e :: es) [] pos) pos2] [.ExceptHandler (some (.Name x np)) (some n) (b₀ :: suite) hpos] [] [] pos3) (tTryAs sp C i t ts) := by
  intro pins s σ H D I h
  refine wpAny_Try_except (wpAny_execs_cons (wpAny_Expr_any (Q := fun f s₁ => match f with | .next => wpAny (model X.prog X.w) X.A (execs [] X.env) _ _ s₁ | f => _) ?_ I.quiet hsw))
  refine wpAny_Call_Name_kw (ld_glob I hgf hmf ?_ hdf)
  refine PySem.W.callWith_K (h₀ := X.base) I.ok.mod.kin hkf (wpAny_mono (ha pos pins s σ H _ (I.wish _) h) (fun us s1 ⟨vs, H1, I1, r, q⟩ => ⟨I1.unwish.kIn, ?_⟩) fun _ _ z => z.elim) he hpl
  have J := I1.unwish
  have hl : us.length = ps.length := by rw [← r.length]; exact F.len _ _ _ _ q
  have hb' := hb s1 us J.kIn (by rw [List.append_nil]; exact hl)
  rw [List.append_nil] at hb'
  refine wpAny_call (codeAny_mono (F.run X.A X.stack s1 H1 ⟨us, []⟩ us vs _ _ hr J.env0 hb' r q) fun rr s' hq' => ?_)
  cases rr with
  | error ex =>
    obtain ⟨ea, cls, a0, B, H', rfl, fly, hcl, hh⟩ := hq'
    subst hcl
    exact handle_as2 J fly hst hf hm hg hq hqD hcd hN hi hk (hsu ea) (hh ea fly.new.2) hdb
  | ok fl =>
    cases fl with
    | ret u =>
      obtain ⟨v, H2, I2, r2, q2⟩ := J.after hq'
      exact wpAny_execs_nil (wpAny_execs_nil ⟨σ, H2, I2, q2⟩)
    | next => exact False.elim hq'
    | brk => exact False.elim hq'
    | cont => exact False.elim hq'
end
end L2

namespace L2
open PySem PySem.Spec PyProof.Rows
theorem op_eqBl {X : Cx} (hu : X.A.units + 64 < cLine) : OpR X (compareOp .Eq) (fun x y H Q => ∃ (p p' : Addr) (bs : List Bool), x = .ref p ∧ y = .ref p' ∧ H p = some (.lst (bs.map V.bl)) ∧ H p' = some (.lst (bs.map V.bl)) ∧ SeqAt.shaped (.list (bs.map PyData.bool)) = true ∧ Q (.bl true) H) := by
  intro pins s σ H x y v u Q I rx ry h
  obtain ⟨p, p', bs, rfl, rfl, hp, hp', sh, q⟩ := h
  cases rx
  cases ry
  obtain ⟨its, rv, ⟨o, n, e1, e2, _, e3⟩, _⟩ := I.list (SqL.of hp)
  obtain ⟨its', rv', ⟨o', n', e1', e2', _, e3'⟩, _⟩ := I.list (SqL.of hp')
  have ra : Reads s.heap (.ref p) (.list (bs.map PyData.bool)) [p] := .list e1 e2 e3 (reads_bools _ rv)
  have rb : Reads s.heap (.ref p') (.list (bs.map PyData.bool)) [p'] := .list e1' e2' e3' (reads_bools _ rv')
  have cl : PyData.canLay0 (.list (bs.map PyData.bool)) = true := by
    unfold SeqAt.shaped at sh
    rw [Bool.and_eq_true] at sh
    exact sh.1
  refine eq_dataH ra rb sh sh hu ?_
  rw [SeqAt.eqv_refl _ cl]
  exact ⟨.bl true, H, I, rfl, q⟩
def bls (c : Int) (i : Nat) : List Bool := (List.range i).map fun (j : Nat) => decide (V.int (0 + (j : Int)) = V.int c)
theorem bls_len (c : Int) (i : Nat) : (bls c i).length = i := by unfold bls; rw [List.length_map, List.length_range]
theorem bls_more (c : Int) (i : Nat) : bls c (i + 1) = bls c i ++ [decide (V.int (0 + (i : Int)) = V.int c)] := by
  unfold bls
  rw [List.range_succ, List.map_append]
  rfl
def spAloneS (C : Addr) (k : Int) : Sp := fun vs H Q _ => ∃ e, vs = [.ref e, .int k] ∧ H e = some (.ext (ExcAt C e)) ∧ ∀ H', Same H H' → Q (.bl true) H'
end L2

namespace L2
open PySem PySem.Spec PyProof.Rows
end L2

namespace L2
open PySem PySem.Spec PyProof.Rows
theorem reads_ints (h : Heap) : ∀ {ns : List Int} {us : List Value}, Vals (ns.map V.int) us → ReadsAll h us (ns.map PyData.int) []
  | [], _, .nil => .nil
  | n :: r, _, .cons q t => by
    obtain ⟨k, rfl⟩ := q
    exact ReadsAll.cons (as := []) (bs := []) (.int n k) (reads_ints h t)
theorem lay_ints : ∀ ns : List Int, PyData.canLay0 (.list (ns.map PyData.int)) = true ∧ PyData.depthAll (ns.map PyData.int) ≤ 1
  | [] => ⟨rfl, by simp [PyData.depthAll]⟩
  | n :: r => by
    obtain ⟨a, b⟩ := lay_ints r
    constructor
    · simp only [PyData.canLay0, List.map_cons] at a ⊢
      simp_all [PyData.canLay0, PyData.canLayAll0]
    · simp only [List.map_cons, PyData.depthAll, PyData.depth]
      omega
theorem op_neNil {X : Cx} (hu : X.A.units + 64 < cLine) : OpR X (compareOp .NotEq) (fun x y H Q => ∃ (p p' : Addr) (ns : List Int), x = .ref p ∧ y = .ref p' ∧ H p = some (.lst (ns.map V.int)) ∧ H p' = some (.lst []) ∧ Q (.bl (!ns.isEmpty)) H) := by
  intro pins s σ H x y v u Q I rx ry h
  obtain ⟨p, p', ns, rfl, rfl, hp, hp', q⟩ := h
  cases rx
  cases ry
  obtain ⟨its, rv, ⟨o, n, e1, e2, _, e3⟩, _⟩ := I.list (SqL.of hp)
  obtain ⟨its', rv', ⟨o', n', e1', e2', _, e3'⟩, _⟩ := I.list (SqL.of hp')
  have ra : Reads s.heap (.ref p) (.list (ns.map PyData.int)) [p] := .list e1 e2 e3 (reads_ints _ rv)
  have rb : Reads s.heap (.ref p') (.list (([] : List Int).map PyData.int)) [p'] := .list e1' e2' e3' (reads_ints _ (ns := []) rv')
  have sh : ∀ zs : List Int, SeqAt.shaped (.list (zs.map PyData.int)) = true := fun zs => by
    unfold SeqAt.shaped
    rw [(lay_ints zs).1, Bool.true_and]
    exact decide_eq_true (by have := (lay_ints zs).2; show PyData.depthAll (zs.map PyData.int) + 1 ≤ 64; omega)
  refine ne_dataH ra rb (sh ns) (sh []) hu ?_
  have e : (!PyData.eqv (.list (ns.map PyData.int)) (.list (([] : List Int).map PyData.int))) = !ns.isEmpty := by
    rw [PyData.eqv]
    cases ns <;> rfl
  rw [e]
  exact ⟨.bl (!ns.isEmpty), H, I, rfl, q⟩
def tTryAs3 (sp : Sp) (C C2 : Addr) (i : Nat) (ta : TA) (ts : TS) : TS := fun D σ H => ta σ H fun vs H1 => sp vs H1 (fun _ H2 => D.nx σ H2) fun cls _ H2 =>
  (cls = .ref C ∧ ∀ e, H2 e = none → ts (asEnds D i) (σ.set i (some (.ref e))) (upd H2 e (.ext (ExcAt C e)))) ∨ (cls = .ref C2 ∧ ∀ e, H2 e = none → ts (asEnds D i) (σ.set i (some (.ref e))) (upd H2 e (.ext (ExcAt C2 e))))
section
variable {X : Cx} {k : Nat} {f C : Addr} {fd : FuncData} {ps : List Str} {sp : Sp} {g x n : Str} {p pos pos2 pos3 np hpos : Pos} {e : Expr} {es : List Expr} {t : TA} {ts : TS} {b₀ : Stmt} {suite : List Stmt} {i : Nat}
end
end L2

namespace L2
open PySem PySem.Spec PyProof.Rows
inductive IsiE (X : Cx) (C0 : Addr) : List Expr → List Bool → Prop where
  | nil : IsiE X C0 [] []
  | cons {x : Str} {C : Addr} {b : Bool} {p p2 p3 p4 : Pos} {es : List Expr} {bs : List Bool} (h5 : Gl X x) (h6 : X.mg x = some (.ref C)) (h7 : (x == ("__debug__" : Str)) = false) (k : PySem.W.kitOne X.K (.ref C0) (.ref C) = some b) (h : IsiE X C0 es bs) :
      IsiE X C0 (.Call (.Name "isinstance" p) [.Name "_law_e" p2, .Name x p3] [] p4 :: es) (b :: bs)
def tIsis (C0 : Addr) (bs : List Bool) : TA := fun σ H Q => ∃ a, σ[0]? = some (some (V.ref a)) ∧ H a = some (.ext (ExcAt C0 a)) ∧ Q (bs.map V.bl) H
theorem pa_isis {X : Cx} {C0 : Addr} (T : ExcCls X.K C0) (h1 : X.N[0]? = some ("_law_e" : Str)) (h2 : Vis X.env.scope "_law_e") (h3 : Gl X "isinstance") (h4 : X.mg "isinstance" = none) (hb : bootBuiltins "isinstance" = some (.builtin "isinstance")) {es : List Expr} {bs : List Bool} (h : IsiE X C0 es bs) : PA X es (tIsis C0 bs) := by
  induction h with
  | nil =>
    intro pos pins s σ H Q I q
    obtain ⟨a, e1, e2, q⟩ := q
    exact pa_nil pos pins s σ H Q I q
  | @cons x C b p p2 p3 p4 es bs h5 h6 h7 k h ih =>
    intro pos pins s σ H Q I q
    obtain ⟨a, e1, e2, q⟩ := q
    have z := pa_cons (e := .Call (.Name "isinstance" p) [.Name "_law_e" p2, .Name x p3] [] p4) (pe_callB call_isi h3 h4 hb (pa_cons (pv 0 h1 h2) (pa_cons (pe_glob (v := V.ref C) h5 h6 rfl h7) pa_nil))) ih
    exact z pos pins s σ H Q I ⟨_, e1, _, _, _, _, rfl, .inl ⟨_, rfl⟩, .exc T e2, k, a, e1, e2, q⟩
end L2

namespace L2
open PySem PySem.Spec PyProof.Rows
def tSetC (wi : TI) (fr : List Nat) (tc : TT) (te : TE) (k : Nat) : TS := fun D σ H => tCompIf wi fr tc te σ H fun v H' => D.nx (σ.set k (some v)) H'
section
variable {X : Cx} {N : List Str} {fr : List Nat} {x : Str} {scope : Scope} {cl : List (Str × Addr)} {elt iter : Expr} {px pos : Pos} {wi : TI} {te : TE}
end
end L2

namespace L2
open PySem PySem.Spec PyProof.Rows
def CompEnd (J : It) (Q : VK) (H1 : Hp) (te : TE) (σ : V → St) : Prop := ∀ acc, H1 acc = none → ∃ W : Nat → Nat → Hp → List V → Prop, (∃ m, W 0 m (upd H1 acc (.lst [])) []) ∧
  ∀ i m H' vs, W i m H' vs → H' acc = some (.lst vs) ∧ ((J.stop i H' ∧ Q (.ref acc) H') ∨ (J.go i H' ∧ vs.length < sizeLine ∧ ∀ x H2, J.yld i H' x H2 → te (σ x) H2 fun y H3 => H3 acc = some (.lst vs) ∧ ∃ m', m' < m ∧ W (i + 1) m' (upd H3 acc (.lst (vs ++ [y]))) (vs ++ [y])))
def CompIfEnd (J : It) (Q : VK) (H1 : Hp) (tc : TT) (te : TE) (σ : V → St) : Prop := ∀ acc, H1 acc = none → ∃ W : Nat → Nat → Hp → List V → Prop, (∃ m, W 0 m (upd H1 acc (.lst [])) []) ∧
  ∀ i m H' vs, W i m H' vs → H' acc = some (.lst vs) ∧ ((J.stop i H' ∧ Q (.ref acc) H') ∨ (J.go i H' ∧ vs.length < sizeLine ∧ ∀ x H2, J.yld i H' x H2 → tc (σ x) H2 fun b H3 =>
    if b = true then te (σ x) H3 fun y H4 => H4 acc = some (.lst vs) ∧ ∃ m', m' < m ∧ W (i + 1) m' (upd H4 acc (.lst (vs ++ [y]))) (vs ++ [y]) else ∃ m', m' < m ∧ W (i + 1) m' H3 vs))
def tCompC (wi : TI) (fr : List Nat) (te : TE) : TE := fun σ H Q => wi σ H fun J H1 => CompEnd J Q H1 te (fun x => compSt σ fr (some x))
def tCompIfC (wi : TI) (fr : List Nat) (tc : TT) (te : TE) : TE := fun σ H Q => wi σ H fun J H1 => CompIfEnd J Q H1 tc te (fun x => compSt σ fr (some x))
def tSetC0 (wi : TI) (fr : List Nat) (te : TE) (k : Nat) : TS := fun D σ H => tCompC wi fr te σ H fun v H' => D.nx (σ.set k (some v)) H'
section
variable {X : Cx} {N : List Str} {fr : List Nat} {x : Str} {scope : Scope} {cl : List (Str × Addr)} {elt iter : Expr} {px pos : Pos} {wi : TI} {te : TE}
end

section
variable {X : Cx} {N : List Str} {fr : List Nat} {x : Str} {scope : Scope} {cl : List (Str × Addr)} {elt iter : Expr} {px pos : Pos} {wi : TI} {te : TE}
theorem pe_compC (hc : X.calm = true) (S : CompScope X N fr x scope cl) (hi : PI X (.Name x px) iter wi) (he : ∀ (C : Addr) (s0 : Shared) (H0 : Hp) (fp : List Addr) (pins : List (Addr × Obj)), PE (cxC X N scope cl C s0 H0 fp pins) elt te)
    (hs : ∀ y, foldedSetIterable iter X.env y = pure y := by intro _; rfl) : PE X (.ListComp elt [⟨.Name x px, iter, [], 0⟩] scope pos) (tCompC wi fr te) := pe_comp hc S hi he hs
theorem pe_compIfC {cnd : Expr} {tc : TT} (hc : X.calm = true) (S : CompScope X N fr x scope cl) (hi : PI X (.Name x px) iter wi) (ht : ∀ (C : Addr) (s0 : Shared) (H0 : Hp) (fp : List Addr) (pins : List (Addr × Obj)), PT (cxC X N scope cl C s0 H0 fp pins) cnd tc) (he : ∀ (C : Addr) (s0 : Shared) (H0 : Hp) (fp : List Addr) (pins : List (Addr × Obj)), PE (cxC X N scope cl C s0 H0 fp pins) elt te)
    (hs : ∀ y, foldedSetIterable iter X.env y = pure y := by intro _; rfl) : PE X (.ListComp elt [⟨.Name x px, iter, [cnd], 0⟩] scope pos) (tCompIfC wi fr tc te) := pe_compIf hc S hi ht he hs
end
theorem same_upd {H0 H : Hp} {p : Addr} {o : HO} (g : Same H0 H) (h : H0 p = none) : Same H0 (upd H p o) := fun b u q => by
  rw [upd_ne (ne_of_none q h)]
  exact g b u q
theorem comp_tupF {K : PySem.W.Frag} {a : Addr} {xs : List V} {te : TE} {σ : V → St} {H : Hp} {Q : VK} (hx : SqT K H a xs) (hn : xs.length < sizeLine) (f : V → V) (hK : ∀ H', Same H H' → SqT K H' a xs)
    (he : ∀ (i : Nat) (x : V) (H' : Hp) (Q' : VK), xs[i]? = some x → Same H H' → (∀ H2, Same H' H2 → Q' (f x) H2) → te (σ x) H' Q')
    (q : ∀ p H', Same H H' → H p = none → H' p = some (.lst (xs.map f)) → Q (.ref p) H') : CompEnd (Itt K a) Q H te σ := by
  intro acc hacc
  refine ⟨fun i m H' vs => i ≤ xs.length ∧ m = xs.length - i ∧ Same H H' ∧ H' acc = some (.lst vs) ∧ vs = (xs.take i).map f, ⟨xs.length, Nat.zero_le _, by simp, same_new hacc _, upd_same, by simp⟩, ?_⟩
  rintro i m H' vs ⟨hi, rfl, g, ha, rfl⟩
  refine ⟨ha, ?_⟩
  by_cases h : i = xs.length
  · refine .inl ⟨⟨xs, hK _ g, by omega⟩, q acc H' g hacc ?_⟩
    rw [ha, h, List.take_length]
  · have hlt : i < xs.length := by omega
    refine .inr ⟨⟨xs, xs[i], hK _ g, by simp [hlt]⟩, by rw [List.length_map, List.length_take]; omega, ?_⟩
    rintro z H2 ⟨rfl, hz⟩
    have hz' := hz xs (hK _ g)
    refine he i z H2 _ hz' g fun H3 g3 => ⟨g3 _ _ ha, xs.length - (i + 1), by omega, by omega, rfl, same_upd (g.trans g3) hacc, upd_same, ?_⟩
    rw [List.take_succ, hz', List.map_append]
    rfl

theorem compIf_walk {J : It} {xs : List V} {tc : TT} {te : TE} {σ : V → St} {H : Hp} {Q : VK} (hn : xs.length < sizeLine) (p : V → Bool) (f : V → V)
    (hstop : ∀ H', Same H H' → J.stop xs.length H') (hgo : ∀ (i : Nat) H', i < xs.length → Same H H' → J.go i H') (hyld : ∀ (i : Nat) H' x H2, Same H H' → J.yld i H' x H2 → H2 = H' ∧ xs[i]? = some x)
    (ht : ∀ (i : Nat) (x : V) (H' : Hp) (Q' : Bool → Hp → Prop), xs[i]? = some x → Same H H' → (∀ H2, Same H' H2 → Q' (p x) H2) → tc (σ x) H' Q')
    (he : ∀ (i : Nat) (x : V) (H' : Hp) (Q' : VK), xs[i]? = some x → p x = true → Same H H' → (∀ H2, Same H' H2 → Q' (f x) H2) → te (σ x) H' Q')
    (q : ∀ a H', Same H H' → H a = none → H' a = some (.lst ((xs.filter p).map f)) → Q (.ref a) H') : CompIfEnd J Q H tc te σ := by
  intro acc hacc
  refine ⟨fun i m H' vs => i ≤ xs.length ∧ m = xs.length - i ∧ Same H H' ∧ H' acc = some (.lst vs) ∧ vs = ((xs.take i).filter p).map f, ⟨xs.length, Nat.zero_le _, by simp, same_new hacc _, upd_same, by simp⟩, ?_⟩
  rintro i m H' vs ⟨hi, rfl, g, ha, rfl⟩
  refine ⟨ha, ?_⟩
  by_cases h : i = xs.length
  · refine .inl ⟨h ▸ hstop _ g, q acc H' g hacc ?_⟩
    rw [ha, h, List.take_length]
  · have hlt : i < xs.length := by omega
    refine .inr ⟨hgo i _ hlt g, ?_, ?_⟩
    · rw [List.length_map]
      have h1 := List.length_filter_le p (xs.take i)
      rw [List.length_take] at h1
      omega
    intro z H2 hz
    obtain ⟨rfl, hz'⟩ := hyld i _ _ _ g hz
    refine ht i z H2 _ hz' g fun H3 g3 => ?_
    have ts : xs.take (i + 1) = xs.take i ++ [z] := by rw [List.take_succ, hz']; rfl
    cases e : p z with
    | true =>
      rw [if_pos rfl]
      refine he i z H3 _ hz' e (g.trans g3) fun H4 g4 => ⟨g4 _ _ (g3 _ _ ha), xs.length - (i + 1), by omega, by omega, rfl, same_upd (g.trans (g3.trans g4)) hacc, upd_same, ?_⟩
      rw [ts, List.filter_append, List.map_append]
      have : [z].filter p = [z] := by simp [e]
      rw [this]
      rfl
    | false =>
      rw [if_neg Bool.false_ne_true]
      refine ⟨xs.length - (i + 1), by omega, by omega, rfl, g.trans g3, g3 _ _ ha, ?_⟩
      rw [ts, List.filter_append, List.map_append]
      have : [z].filter p = [] := by simp [e]
      rw [this]
      simp
theorem compIf_tupF {K : PySem.W.Frag} {a : Addr} {xs : List V} {tc : TT} {te : TE} {σ : V → St} {H : Hp} {Q : VK} (hn : xs.length < sizeLine) (p : V → Bool) (f : V → V) (hK : ∀ H', Same H H' → SqT K H' a xs)
    (ht : ∀ (i : Nat) (x : V) (H' : Hp) (Q' : Bool → Hp → Prop), xs[i]? = some x → Same H H' → (∀ H2, Same H' H2 → Q' (p x) H2) → tc (σ x) H' Q')
    (he : ∀ (i : Nat) (x : V) (H' : Hp) (Q' : VK), xs[i]? = some x → p x = true → Same H H' → (∀ H2, Same H' H2 → Q' (f x) H2) → te (σ x) H' Q')
    (q : ∀ a H', Same H H' → H a = none → H' a = some (.lst ((xs.filter p).map f)) → Q (.ref a) H') : CompIfEnd (Itt K a) Q H tc te σ :=
  compIf_walk hn p f (fun H' g => ⟨xs, hK _ g, Nat.le_refl _⟩) (fun i H' hi g => ⟨xs, xs[i], hK _ g, by simp [hi]⟩) (fun i H' x H2 g h => ⟨h.1, h.2 xs (hK _ g)⟩) ht he q
theorem compIf_listF {K : PySem.W.Frag} {a : Addr} {xs : List V} {tc : TT} {te : TE} {σ : V → St} {H : Hp} {Q : VK} (hn : xs.length < sizeLine) (p : V → Bool) (f : V → V) (hK : ∀ H', Same H H' → SqL K H' a xs)
    (ht : ∀ (i : Nat) (x : V) (H' : Hp) (Q' : Bool → Hp → Prop), xs[i]? = some x → Same H H' → (∀ H2, Same H' H2 → Q' (p x) H2) → tc (σ x) H' Q')
    (he : ∀ (i : Nat) (x : V) (H' : Hp) (Q' : VK), xs[i]? = some x → p x = true → Same H H' → (∀ H2, Same H' H2 → Q' (f x) H2) → te (σ x) H' Q')
    (q : ∀ a H', Same H H' → H a = none → H' a = some (.lst ((xs.filter p).map f)) → Q (.ref a) H') : CompIfEnd (Itl K a) Q H tc te σ :=
  compIf_walk hn p f (fun H' g => ⟨xs, hK _ g, Nat.le_refl _⟩) (fun i H' hi g => ⟨xs, xs[i], hK _ g, by simp [hi]⟩) (fun i H' x H2 g h => ⟨h.1, h.2 xs (hK _ g)⟩) ht he q
mutual
inductive DA (H : Hp) : V → PyData → Prop where
  | int {i : Int} : DA H (.int i) (.int i)
  | bl {b : Bool} : DA H (.bl b) (.bool b)
  | str {x : Str} : DA H (.str x) (.str x)
  | lst {p : Addr} {xs : List V} {ds : List PyData} : H p = some (.lst xs) → DAs H xs ds → DA H (.ref p) (.list ds)
  | tup {p : Addr} {xs : List V} {ds : List PyData} : H p = some (.tup xs) → DAs H xs ds → DA H (.ref p) (.tuple ds)
inductive DAs (H : Hp) : List V → List PyData → Prop where
  | nil : DAs H [] []
  | cons {x : V} {d : PyData} {xs : List V} {ds : List PyData} : DA H x d → DAs H xs ds → DAs H (x :: xs) (d :: ds)
end
mutual
theorem DA.reads {X : Cx} {pins : List (Addr × Obj)} {σ : St} {H : Hp} {s : Shared} (I : Inv X pins σ H s) : ∀ {v : V} {d : PyData} {u : Value}, DA H v d → RelV v u → ∃ as, Reads s.heap u d as
  | _, _, _, .int, r => by obtain ⟨t, rfl⟩ := r; exact ⟨_, .int _ _⟩
  | _, _, _, .bl, r => by cases r; exact ⟨_, .bool _⟩
  | _, _, _, .str, r => by obtain ⟨t, rfl⟩ := r; exact ⟨_, .str _ _⟩
  | _, _, _, .lst h hs, r => by
    cases r
    obtain ⟨its, rv, ⟨o, n, e1, e2, _, e3⟩, _⟩ := I.list (SqL.of h)
    obtain ⟨as, z⟩ := DAs.reads I hs rv
    exact ⟨_, .list e1 e2 e3 z⟩
  | _, _, _, .tup h hs, r => by
    cases r
    obtain ⟨its, rv, ⟨o, e1, e2, n, e3⟩, _⟩ := I.tuple (SqT.of h)
    obtain ⟨as, z⟩ := DAs.reads I hs rv
    exact ⟨_, .tuple e1 e2 e3 z⟩
theorem DAs.reads {X : Cx} {pins : List (Addr × Obj)} {σ : St} {H : Hp} {s : Shared} (I : Inv X pins σ H s) : ∀ {vs : List V} {ds : List PyData} {us : List Value}, DAs H vs ds → Vals vs us → ∃ as, ReadsAll s.heap us ds as
  | _, _, _, .nil, r => by cases r; exact ⟨_, .nil⟩
  | _, _, _, .cons h hs, r => by
    cases r with
    | cons r1 r2 =>
      obtain ⟨a1, z1⟩ := DA.reads I h r1
      obtain ⟨a2, z2⟩ := DAs.reads I hs r2
      exact ⟨_, .cons z1 z2⟩
end
def rEqD : R2 := fun x y H Q => ∃ da db : PyData, DA H x da ∧ DA H y db ∧ SeqAt.shaped da = true ∧ SeqAt.shaped db = true ∧ Q (.bl (PyData.eqv da db)) H
def rNeD : R2 := fun x y H Q => ∃ da db : PyData, DA H x da ∧ DA H y db ∧ SeqAt.shaped da = true ∧ SeqAt.shaped db = true ∧ Q (.bl (!PyData.eqv da db)) H
theorem op_eqD {X : Cx} (hu : X.A.units + 64 < cLine) : OpR X (compareOp .Eq) rEqD := by
  intro pins s σ H x y v u Q I rx ry h
  obtain ⟨da, db, ha, hb, sa, sb, q⟩ := h
  obtain ⟨as, ra⟩ := ha.reads I rx
  obtain ⟨bs, rb⟩ := hb.reads I ry
  exact eq_dataH ra rb sa sb hu ⟨.bl _, H, I, rfl, q⟩
theorem op_neD {X : Cx} (hu : X.A.units + 64 < cLine) : OpR X (compareOp .NotEq) rNeD := by
  intro pins s σ H x y v u Q I rx ry h
  obtain ⟨da, db, ha, hb, sa, sb, q⟩ := h
  obtain ⟨as, ra⟩ := ha.reads I rx
  obtain ⟨bs, rb⟩ := hb.reads I ry
  exact ne_dataH ra rb sa sb hu ⟨.bl _, H, I, rfl, q⟩
end L2

namespace L2
open PySem PySem.Spec PyProof.Rows

structure CompScope2 (X : Cx) (N : List Str) (fr : List Nat) (x x2 : Str) (scope : Scope) (cl : List (Str × Addr)) : Prop where
  kind : scope.kind = .function
  nocell : ∀ y ∈ scope.names, y.2 ≠ .cell
  loc : ∀ y ∈ scope.names, y.2 = .local → scope.names.lookup y.1 = some .local
  own : scope.names.lookup x = some .local
  own2 : scope.names.lookup x2 = some .local
  clos : closureFor scope X.env = pure cl
  sub : ∀ y c, cl.lookup y = some c → X.env.cells.lookup y = some c
  has : ∀ y, ((relabel scope X.env).names.lookup y = some .cell ∨ (relabel scope X.env).names.lookup y = some .free) → ∃ c, cl.lookup y = some c
  nd : N.Nodup
  hN : N[0]? = some x
  hN2 : N[1]? = some x2
  len : N.length = fr.length + 2
  ownOnly : ∀ (j : Nat) (y : Str), N[j + 2]? = some y → (relabel scope X.env).names.lookup y ≠ some .local
  out : ∀ (j k : Nat), fr[j]? = some k → ∃ y, N[j + 2]? = some y ∧ X.N[k]? = some y ∧ X.env.kindOf y = some .cell
def compSt2 (σ : St) (fr : List Nat) (v v2 : Option V) : St := v :: v2 :: fr.map fun k => (σ[k]?).join
def CompPEnd (K : PySem.W.Frag) (J : It) (Q : VK) (H1 : Hp) (te : TE) (σ : V → V → St) : Prop := ∀ acc, H1 acc = none → ∃ W : Nat → Nat → Hp → List V → Prop, (∃ m, W 0 m (upd H1 acc (.lst [])) []) ∧
  ∀ i m H' vs, W i m H' vs → H' acc = some (.lst vs) ∧ ((J.stop i H' ∧ Q (.ref acc) H') ∨ (J.go i H' ∧ vs.length < sizeLine ∧ ∀ x H2, J.yld i H' x H2 → ∃ (t : Addr) (v1 v2 : V), x = .ref t ∧ SqT K H2 t [v1, v2] ∧ te (σ v1 v2) H2 fun y H3 => H3 acc = some (.lst vs) ∧ ∃ m', m' < m ∧ W (i + 1) m' (upd H3 acc (.lst (vs ++ [y]))) (vs ++ [y])))
def tCompP (K : PySem.W.Frag) (wi : TI) (fr : List Nat) (te : TE) : TE := fun σ H Q => wi σ H fun J H1 => CompPEnd K J Q H1 te (fun v1 v2 => compSt2 σ fr (some v1) (some v2))
theorem compLoop_pairIf {P : Program} {w : World} {A : Around} {s : Shared} {elt iter : Expr} {ifs : List Expr} {es : List Expr} {x1 : Nat} {tp : Pos} {scope : Scope} {pos : Pos} {it acc : Value} {env : Env} {R : Result → Shared → Prop} (I : Nat → Shared → Prop)
    (turn : ∀ n s, I n s → wpAny (model P w) A (pyNext it) (fun r s₁ => match r with
      | none => R (.ok .next) s₁
      | some v => wpAny (model P w) A (letOwnedTupleGo (.Tuple es x1 tp) it v) (fun _ s₁' => wpAny (model P w) A (assign (.Tuple es x1 tp) env v) (fun _ s₂ =>
          wpAny (model P w) A (forIn ifs true fun c r => if r = true then do let ok ← isTrue c env (eval c env); pure (ForInStep.yield ok) else pure (ForInStep.yield r)) (fun ok s₃ =>
            if ok = true then wpAny (model P w) A (eval elt env) (fun x s₄ =>
              wpAny (model P w) A (call (.builtin "list.append") [acc, x]) (fun _ s₅ => ∃ m, m < n ∧ I m s₅) (notedBy (model P w) A env fun e s' => R (.error e) s') s₄) (notedBy (model P w) A env fun e s' => R (.error e) s') s₃
            else ∃ m, m < n ∧ I m s₃) (notedBy (model P w) A env fun e s' => R (.error e) s') s₂)
          (notedBy (model P w) A env fun e s' => R (.error e) s') s₁') (notedBy (model P w) A env fun e s' => R (.error e) s') s₁) (notedBy (model P w) A env fun e s' => R (.error e) s') s)
    (n : Nat) (h : I n s) : codeAny (model P w) A (.compLoop (.ListComp elt [⟨.Tuple es x1 tp, iter, ifs, 0⟩] scope pos) 0 it acc env) R s := by
  refine codeAny_loop rfl I (fun m s1 hI => ?_) n h
  show wpAny _ A ((compTurn (.ListComp elt [⟨.Tuple es x1 tp, iter, ifs, 0⟩] scope pos) 0 it acc env).onRaise (fun x => do noteFrame x env; theTreesLotGoes x)) _ _ s1
  refine wpAny_noted ?_
  rw [compTurn_list]
  refine wpAny_bind (wpAny_standAt (wpAny_bind (wpAny_mono (turn m s1 hI) (fun r s2 k2 => ?_) fun _ _ z => z)))
  cases r with
  | none => exact wpAny_pure k2
  | some v =>
    refine wpAny_bind (wpAny_mono k2 (fun _ s3 k3 => ?_) fun _ _ z => z)
    refine wpAny_bind (wpAny_mono k3 (fun _ s4 k4 => wpAny_bind (wpAny_mono k4 (fun ok s5 k5 => ?_) fun _ _ z => z)) fun _ _ z => z)
    cases ok with
    | false => exact wpAny_pure ⟨rfl, k5⟩
    | true =>
      exact wpAny_bind (wpAny_bind (wpAny_mono k5 (fun x s6 k6 => wpAny_bind (wpAny_mono k6 (fun _ s7 k7 => wpAny_pure (wpAny_pure ⟨rfl, k7⟩)) fun _ _ z => z)) fun _ _ z => z))
def CompPIEnd (K : PySem.W.Frag) (J : It) (Q : VK) (H1 : Hp) (tc : TT) (te : TE) (σ : V → V → St) : Prop := ∀ acc, H1 acc = none → ∃ W : Nat → Nat → Hp → List V → Prop, (∃ m, W 0 m (upd H1 acc (.lst [])) []) ∧
  ∀ i m H' vs, W i m H' vs → H' acc = some (.lst vs) ∧ ((J.stop i H' ∧ Q (.ref acc) H') ∨ (J.go i H' ∧ vs.length < sizeLine ∧ ∀ x H2, J.yld i H' x H2 → ∃ (t : Addr) (v1 v2 : V), x = .ref t ∧ SqT K H2 t [v1, v2] ∧ tc (σ v1 v2) H2 fun b H3 =>
    if b = true then te (σ v1 v2) H3 fun y H4 => H4 acc = some (.lst vs) ∧ ∃ m', m' < m ∧ W (i + 1) m' (upd H4 acc (.lst (vs ++ [y]))) (vs ++ [y]) else ∃ m', m' < m ∧ W (i + 1) m' H3 vs))
def tCompPI (K : PySem.W.Frag) (wi : TI) (fr : List Nat) (tc : TT) (te : TE) : TE := fun σ H Q => wi σ H fun J H1 => CompPIEnd K J Q H1 tc te (fun v1 v2 => compSt2 σ fr (some v1) (some v2))
section
variable {X : Cx} {N : List Str} {fr : List Nat} {x x2 : Str} {scope : Scope} {cl : List (Str × Addr)} {elt iter : Expr} {px px2 tp pos : Pos} {kt : Nat} {wi : TI} {te : TE}
theorem cxC_ok2 {pins : List (Addr × Obj)} {σ : St} {H : Hp} {s : Shared} {fp : List Addr} {C : Addr} (S : CompScope2 X N fr x x2 scope cl) (I : Inv X pins σ H s) (hf : ∀ b ∈ fp, FpOk X pins H b) (hC : s.heap.objs.size ≤ C) (hfl : ∀ b ∈ fp, b < s.heap.objs.size) : (cxC X N scope cl C s H fp pins).Ok where
  mod := I.ok.mod
  kind := S.kind
  glob := I.ok.glob
  blt := I.ok.blt
  above := hC
  inj := fun y z c h1 h2 => I.ok.inj y z c (S.sub _ _ h1) (S.sub _ _ h2)
  has := fun y h => S.has y h
  cab := fun y c h => by cases h
  hd := I.ok.hd
  frames := I.ok.frames
  stk := .inl rfl
  exf := fun b hb => ⟨Nat.ne_of_lt (Nat.lt_of_lt_of_le (hfl b hb) hC), fun y c h => (hf b hb).2.2.2.2.1 y c (S.sub _ _ h)⟩
  bs := fun b o e => I.bs b o e
  bsz := Nat.le_trans I.ok.bsz I.sz
  noex := fun b o e hb => by
    rcases (hf b hb).2.2.2.1 with z | z
    · exact I.ok.noex b o e z
    · exact absurd (Nat.lt_of_lt_of_le (Heap.lt_size e) (Nat.le_trans I.ok.bsz z)) (Nat.lt_irrefl _)
  exfs := fun b hb z => by
    rcases List.mem_cons.mp (I.stkSub b z) with e | e
    · exact (hf b hb).2.1 e
    · exact (hf b hb).2.2.1 e
  funs := I.stack
  frf := I.stkFree
theorem cxC_start2 {pins : List (Addr × Obj)} {σ : St} {H : Hp} {s s4 : Shared} {fp : List Addr} {C : Addr} {m : Str → Option Value} (S : CompScope2 X N fr x x2 scope cl) (I : Inv X pins σ H s) (hf : ∀ b ∈ fp, FpOk X pins H b) (hC : s.heap.objs.size ≤ C) (hfl : ∀ b ∈ fp, b < s.heap.objs.size)
    (hn : s4.heap.Ns C m) (hk : ∀ b o, s.heap.get? b = some o → s4.heap.get? b = some o) (ho : s4.os = s.os) (hg : s4.gens = s.gens) : Inv (cxC X N scope cl C s H fp pins) [] (compSt2 σ fr none none) H s4 := by
  obtain ⟨m0, hn0, hl⟩ := id I.loc
  refine ⟨cxC_ok2 S I hf hC hfl, ho, by rw [hg]; exact I.bare, Un.kept hk, ⟨m, hn, fun i y v e1 e2 e3 => ?_⟩, fun y c h => ?_, I.hok.fresh hC, fun y c h => I.freeC y c (S.sub _ _ h), fun p hp => ?_, I.hok.kept hk, ?_⟩
  · match i, e1, e2 with
    | 0, e1, e2 => cases e2
    | 1, e1, e2 => cases e2
    | j + 2, e1, e2 =>
      have e2' : (fr.map fun k => (σ[k]?).join)[j]? = some (some v) := e2
      rw [List.getElem?_map] at e2'
      cases ek : fr[j]? with
      | none => rw [ek] at e2'; cases e2'
      | some k =>
        rw [ek] at e2'
        have e4 : (σ[k]?).join = some v := Option.some.inj e2'
        obtain ⟨y', h1, h2, h3⟩ := S.out j k ek
        have e1' : N[j + 2]? = some y := e1
        obtain rfl : y' = y := Option.some.inj (h1.symm.trans e1')
        have e5 : σ[k]? = some (some v) := by
          cases q : σ[k]? with
          | none => rw [q] at e4; cases e4
          | some w => rw [q] at e4; exact congrArg some e4
        obtain ⟨u, r, lk⟩ := hl k y' v h2 e5 (.inr (.inl h3))
        refine ⟨u, r, .inr ?_⟩
        rcases lk with ⟨z, _⟩ | ⟨_, c, hc, hcell⟩
        · rw [h3] at z; cases z
        · have e6 : Vis (relabel scope X.env) y' := e3
          have hk2 : (relabel scope X.env).names.lookup y' = some .cell ∨ (relabel scope X.env).names.lookup y' = some .free := by
            rcases e6 with e6 | e6 | e6
            · exfalso
              have nd := S.nd
              -- a name of the block's own is the first one
              exact S.ownOnly _ _ h1 e6
            · exact .inl e6
            · exact .inr e6
          obtain ⟨c2, hc2⟩ := S.has y' hk2
          have := S.sub _ _ hc2
          rw [hc] at this; cases this
          obtain ⟨o, z1, z2⟩ := hcell
          exact ⟨hk2, c, hc2, o, hk _ _ z1, z2⟩
  · obtain ⟨v, o, z1, z2⟩ := I.cell y c (S.sub _ _ h)
    exact ⟨v, o, hk _ _ z1, z2⟩
  · rw [List.append_nil] at hp
    obtain ⟨e, k, ne, nf, d⟩ := I.pin p hp
    refine ⟨hk _ _ e, k, Nat.ne_of_lt (Nat.lt_of_lt_of_le (Heap.lt_size e) hC), fun z => ?_, d⟩
    rcases List.mem_cons.mp (I.stkSub _ z) with q | q
    · exact ne q
    · exact nf q
  · show (compSt2 σ fr none none).length = N.length
    rw [S.len]
    simp [compSt2]
theorem comp_core2 {ifs : List Expr} {tc : TT} {use : Option (Value → Sem Unit)} {R : Value → Shared → Prop} {Q : VK} {pins : List (Addr × Obj)} {s : Shared} {σ : St} {H : Hp} {ep : Pos} (hc : X.calm = true) (S : CompScope2 X N fr x x2 scope cl) (hi : PI X (.Tuple [.Name x px, .Name x2 px2] kt tp) iter wi)
    (ht : ∀ (C : Addr) (s0 : Shared) (H0 : Hp) (fp : List Addr) (pins : List (Addr × Obj)), PTs (cxC X N scope cl C s0 H0 fp pins) ifs tc) (he : ∀ (C : Addr) (s0 : Shared) (H0 : Hp) (fp : List Addr) (pins : List (Addr × Obj)), PE (cxC X N scope cl C s0 H0 fp pins) elt te)
    (hs : ∀ y, foldedSetIterable iter X.env y = pure y) (I : Inv X pins σ H s) (h : tCompPI X.K wi fr tc te σ H Q)
    (fin : ∀ (acc C : Addr) (m : Str → Option Value) (H6 : Hp) (s7 : Shared), Q (.ref acc) H6 → s7.heap.Ns C m → (∀ h' : Heap, Heap.SameBut C s7.heap h' → Inv X pins σ H6 { s7 with heap := h' }) → H6 C = none → X.env.locals ≠ C → (∀ z c, X.env.cells.lookup z = some c → c ≠ C) → (∀ p ∈ X.pn ++ pins, p.1 ≠ C) → X.s₀.heap.objs.size ≤ C → compPost (model X.prog X.w) X.A X.xe use R (.ref acc) C (.ok .next) s7) :
    wpAny (model X.prog X.w) X.A (comprehension (.ListComp elt [⟨.Tuple [.Name x px, .Name x2 px2] kt tp, iter, ifs, 0⟩] scope pos) scope X.env ep (newList []) false (eval iter X.env) use) R X.xe s := by
  refine wpAny_comprehension_free (use := use) rfl hs S.clos S.kind S.loc (thn (hi pins s σ H _ I h) fun v s1 h1 => thn h1 fun itv s2 h2 => ?_)
  obtain ⟨it, fp, tn, J, H2, e, I2, T, st2, f2, hW⟩ := h2
  subst e
  have hfl : ∀ b ∈ fp, b < s2.heap.objs.size := fun b hb => by
    obtain ⟨o, q, _⟩ := T.obj _ _ st2 b hb
    exact Heap.lt_size q
  have hfr : H2 s2.heap.objs.size = none := I2.hok.fresh (Nat.le_refl _)
  refine wpAny_newObj_type ?_
  have keep3 : ∀ b o, s2.heap.get? b = some o → (s2.heap.push { cls := .type "list", dict := none, data := .seq ([] : List Value).toArray }).get? b = some o := fun b o q => Heap.get?_push_of_some _ q
  have I3 : Inv X pins σ (upd H2 s2.heap.objs.size (.lst [])) { s2 with heap := s2.heap.push { cls := .type "list", dict := none, data := .seq ([] : List Value).toArray } } :=
    I2.laid (t' := s2.toks) keep3 (Nat.le_refl _) ⟨Nat.zero_le _, [], 0, .nil, Heap.get?_push_size _ rfl⟩
  obtain ⟨W, ⟨m0, w0⟩, turn⟩ := hW s2.heap.objs.size hfr
  have f3 : ∀ b ∈ fp, FpOk X pins (upd H2 s2.heap.objs.size (.lst [])) b := fun b hb => ⟨by rw [upd_ne (Nat.ne_of_lt (hfl b hb))]; exact (f2 b hb).1, (f2 b hb).2⟩
  refine wpAny_newFunctionEnv S.nocell (by intro y hy; simp at hy) (fun h4 hns hsb => ?_) S.kind
  have hfl3 : ∀ b ∈ fp, b < (s2.heap.push { cls := .type "list", dict := none, data := .seq ([] : List Value).toArray }).objs.size := fun b hb => by
    rw [Heap.size_push]
    exact Nat.lt_succ_of_lt (hfl b hb)
  have keep4 : ∀ b o, (s2.heap.push { cls := .type "list", dict := none, data := .seq ([] : List Value).toArray }).get? b = some o → h4.get? b = some o := fun b o q =>
    (hsb.2 b (Nat.ne_of_lt (Heap.lt_size q))).trans (Heap.get?_push_of_some _ q)
  have I4 : Inv (cxC X N scope cl (s2.heap.push { cls := .type "list", dict := none, data := .seq ([] : List Value).toArray }).objs.size { s2 with heap := s2.heap.push { cls := .type "list", dict := none, data := .seq ([] : List Value).toArray } } (upd H2 s2.heap.objs.size (.lst [])) fp pins) [] (compSt2 σ fr none none) (upd H2 s2.heap.objs.size (.lst []))
      { s2 with heap := h4, toks := s2.toks + ([] : List (Str × Value)).length } := cxC_start2 S I3 f3 (Nat.le_refl _) hfl3 hns keep4 rfl rfl
  have st4 : tn 0 h4 := T.keep _ _ _ st2 fun b hb o q => keep4 b o (keep3 b o q)
  generalize hY : cxC X N scope cl (s2.heap.push { cls := .type "list", dict := none, data := .seq ([] : List Value).toArray }).objs.size { s2 with heap := s2.heap.push { cls := .type "list", dict := none, data := .seq ([] : List Value).toArray } } (upd H2 s2.heap.objs.size (.lst [])) fp pins = Y at I4
  have hel : PE Y elt te := hY ▸ he _ _ _ _ _
  have htl : PTs Y ifs tc := hY ▸ ht _ _ _ _ _
  have eA : Y.A = X.A := by rw [← hY]; rfl
  have eP : Y.prog = X.prog := by rw [← hY]; rfl
  have ew : Y.w = X.w := by rw [← hY]; rfl
  have eK : Y.K = X.K := by rw [← hY]; rfl
  have eC : Y.calm = true := by rw [← hY]; exact hc
  have eE : Y.env = compEnvC scope cl (s2.heap.push { cls := .type "list", dict := none, data := .seq ([] : List Value).toArray }).objs.size X.env := by rw [← hY]; rfl
  have eX : Y.xe = fun _ _ => False := by rw [← hY]; rfl
  have hg : PG Y (.Tuple [.Name x px, .Name x2 px2] kt tp) (gTup Y.K 2 (gCons (gName 0) (gCons (gName 1) gNil))) := by
    refine pg_tup eC (pgs_cons ?_ (pgs_cons ?_ pgs_nil)) (by rfl) (by rfl)
    · subst hY
      exact pg_name (i := 0) S.nd S.hN (.inl (lookup_relabel_local S.own)) (.inr (lookup_relabel_local S.own))
    · subst hY
      exact pg_name (i := 1) S.nd S.hN2 (.inl (lookup_relabel_local S.own2)) (.inr (lookup_relabel_local S.own2))
  have fY : ∀ {H' : Hp}, (∀ b ∈ fp, H' b = none) → ∀ b ∈ fp, FpOk Y [] H' b := fun {H'} hn b hb => by
    subst hY
    obtain ⟨_, g2, g3, g4, g5, g6⟩ := f3 b hb
    refine ⟨hn b hb, Nat.ne_of_lt (hfl3 b hb), fun z => ?_, .inl hb, fun y c q => g5 y c (S.sub _ _ q), fun p hp => ?_⟩
    · rcases List.mem_cons.mp (I3.stkSub b z) with q | q
      · exact g2 q
      · exact g3 q
    · rw [List.append_nil] at hp
      exact g6 p hp
  have loop : ∀ s5 : Shared, s5 = { s2 with heap := h4, toks := s2.toks + ([] : List (Str × Value)).length } →
      codeAny (model X.prog X.w) X.A (.compLoop (.ListComp elt [⟨.Tuple [.Name x px, .Name x2 px2] kt tp, iter, ifs, 0⟩] scope pos) 0 (.ref it) (.ref s2.heap.objs.size) (compEnvC scope cl (s2.heap.push { cls := .type "list", dict := none, data := .seq ([] : List Value).toArray }).objs.size X.env))
        (compPost (model X.prog X.w) X.A X.xe use R (.ref s2.heap.objs.size) (s2.heap.push { cls := .type "list", dict := none, data := .seq ([] : List Value).toArray }).objs.size) s5 := by
    rintro s5 rfl
    refine compLoop_pairIf (fun n s' => ∃ i v v2 H' vs, Inv Y [] (compSt2 σ fr v v2) H' s' ∧ tn i s'.heap ∧ (∀ b ∈ fp, H' b = none) ∧ W i n H' vs) ?_ m0 ⟨0, none, none, _, [], I4, st4, fun b hb => (f3 b hb).1, w0⟩
    rintro n s6 ⟨i, v6, v62, H6, vs, I6, st6, fr6, w6⟩
    obtain ⟨hacc, hgo⟩ := turn i n H6 vs w6
    rcases hgo with ⟨stop, qn⟩ | ⟨go, hz, step⟩
    · have hd := T.done Y eP ew eK eC i [] s6 _ H6 (fun _ _ => False) I6 (fY fr6) st6 stop
      rw [eA] at hd
      refine wpAny_mono hd (fun r s7 ⟨hr, I7⟩ => ?_) fun _ _ z => z.elim
      subst hr
      obtain ⟨m, hn, _⟩ := id I7.loc
      rw [eE] at hn
      have hend : ∀ h' : Heap, Heap.SameBut (s2.heap.push { cls := .type "list", dict := none, data := .seq ([] : List Value).toArray }).objs.size s7.heap h' → Inv X pins σ H6 { s7 with heap := h' } := fun h' hs' => by
        subst hY
        exact cxC_end I3 f3 (Nat.le_refl _) I7 hs'
      have cf : H6 (s2.heap.push { cls := .type "list", dict := none, data := .seq ([] : List Value).toArray }).objs.size = none := by
        subst hY
        exact I7.free
      have big : ∀ b o, s2.heap.get? b = some o → b ≠ (s2.heap.push { cls := .type "list", dict := none, data := .seq ([] : List Value).toArray }).objs.size := fun b o q => Nat.ne_of_lt (by rw [Heap.size_push]; exact Nat.lt_succ_of_lt (Heap.lt_size q))
      obtain ⟨m2, hn2, _⟩ := id I2.loc
      obtain ⟨oL, _, _, hoL, _⟩ := id hn2
      exact fin _ _ m H6 s7 qn hn hend cf (big _ _ hoL) (fun z c q => by
        obtain ⟨_, o, w1, _⟩ := I2.cell z c q
        exact big _ _ w1) (fun p hp => by
        obtain ⟨e, _⟩ := I2.pin p hp
        exact big _ _ e) (by
        rw [Heap.size_push]
        exact Nat.le_succ_of_le (Nat.le_trans (Nat.le_refl _) I2.sz))
    · have hd := T.item Y eP ew eK eC i [] s6 _ H6 (fun _ _ => False) I6 (fY fr6) st6 go
      rw [eA] at hd
      refine wpAny_mono hd (fun r s7 ⟨u, hr, h7⟩ => ?_) fun _ _ z => z.elim
      subst hr
      refine wpAny_mono h7 (fun _ s8 ⟨y, H8, I8, r8, y8, st8, fr8⟩ => ?_) fun _ _ z => z.elim
      have I8' := I8.pinned (fY fr8) (T.obj _ _ st8)
      obtain ⟨ta, va, vb, ey, hta, step'⟩ := step y _ y8
      have h9 := hg _ s8 _ H8 y u (fun σ9 H9 => σ9 = compSt2 σ fr (some va) (some vb) ∧ H9 = H8) I8' r8 ⟨ta, [va, vb], ey, by rw [eK]; exact hta, rfl, va, [vb], rfl, vb, [], rfl, rfl, rfl, rfl⟩
      rw [eA, eP, ew, eE, eX] at h9
      refine wpAny_mono h9 (fun _ s9 ⟨σ9, H9, I9, e9, e9'⟩ => ?_) fun _ _ z => z.elim
      subst e9 e9'
      have ht10 := htl _ s9 _ _ _ I9 step'
      rw [eA, eP, ew, eE, eX] at ht10
      refine wpAny_mono ht10 (fun ok s9t ⟨H9t, I9t, q9t⟩ => ?_) fun _ _ z => z.elim
      cases ok with
      | false =>
        rw [if_neg Bool.false_ne_true] at q9t
        rw [if_neg Bool.false_ne_true]
        obtain ⟨m', hm, w10⟩ := q9t
        refine ⟨m', hm, i + 1, some va, some vb, _, vs, I9t.unpinned, T.keep _ _ _ st8 fun b hb o q => (I9t.pin (b, o) (List.mem_append_right _ (List.mem_append_right _ (mem_pinsAt hb q)))).1, fun b hb => ?_, w10⟩
        obtain ⟨o, q, _⟩ := T.obj _ _ st8 b hb
        exact (I9t.pin (b, o) (List.mem_append_right _ (List.mem_append_right _ (mem_pinsAt hb q)))).2.1
      | true =>
      rw [if_pos rfl] at q9t
      rw [if_pos rfl]
      have h10 := hel _ s9t _ _ _ I9t q9t
      rw [eA, eP, ew, eE, eX] at h10
      refine wpAny_mono h10 (fun u10 s10 ⟨z10, H10, I10, r10, a10, m', hm, w10⟩ => ?_) fun _ _ z => z.elim
      have h11 := mt_append _ s10 _ H10 (.ref s2.heap.objs.size) [z10] (.ref s2.heap.objs.size) [u10] (fun _ H11 => H11 = upd H10 s2.heap.objs.size (.lst (vs ++ [z10]))) I10 rfl (.cons r10 .nil) ⟨_, vs, z10, rfl, rfl, a10, hz, rfl⟩
      rw [eA, eP, ew, eX] at h11
      refine wpAny_mono h11 (fun _ s11 ⟨_, H11, I11, _, e11⟩ => ?_) fun _ _ z => z.elim
      subst e11
      refine ⟨m', hm, i + 1, some va, some vb, _, vs ++ [z10], I11.unpinned, T.keep _ _ _ st8 fun b hb o q => (I11.pin (b, o) (List.mem_append_right _ (List.mem_append_right _ (mem_pinsAt hb q)))).1, fun b hb => ?_, w10⟩
      obtain ⟨o, q, _⟩ := T.obj _ _ st8 b hb
      exact (I11.pin (b, o) (List.mem_append_right _ (List.mem_append_right _ (mem_pinsAt hb q)))).2.1
  exact codeAny_compStart_list (loop _ rfl) (T.self _ 0 _ _ _ st4 (loop _ rfl))
end
end L2

namespace L2
open PySem PySem.Spec PyProof.Rows

structure CompScopeK (X : Cx) (N : List Str) (fr : List Nat) (x : Str) (scope : Scope) (cl : List (Str × Addr)) : Prop where
  kind : scope.kind = .function
  hcf : ∀ n : Nat, cellsFrom n scope.names cl = (x, n) :: cl
  hpc : ∀ h : Heap, pushCells h scope.names = h.push { cls := .type "cell", data := .cell none }
  loc : ∀ y ∈ scope.names, y.2 = .local → scope.names.lookup y.1 = some .local
  own : (relabel scope X.env).names.lookup x = some .cell
  clos : closureFor scope X.env = pure cl
  sub : ∀ y c, cl.lookup y = some c → X.env.cells.lookup y = some c
  has : ∀ y, ((relabel scope X.env).names.lookup y = some .cell ∨ (relabel scope X.env).names.lookup y = some .free) → y = x ∨ ∃ c, cl.lookup y = some c
  nd : N.Nodup
  hN : N[0]? = some x
  len : N.length = fr.length + 1
  ownOnly : ∀ (j : Nat) (y : Str), N[j + 1]? = some y → (relabel scope X.env).names.lookup y ≠ some .local
  out : ∀ (j k : Nat), fr[j]? = some k → ∃ y, N[j + 1]? = some y ∧ X.N[k]? = some y ∧ X.env.kindOf y = some .cell
def cxK (X : Cx) (N : List Str) (x : Str) (scope : Scope) (cl : List (Str × Addr)) (C : Addr) (s0 : Shared) (H0 : Hp) (fp : List Addr) (pins : List (Addr × Obj)) : Cx :=
  { X with N := N, s₀ := s0, H₀ := H0, env := compEnvC scope ((x, C + 1) :: cl) C X.env, outer := X.stack, ex := fp, fn := fun y => y == x, pn := X.pn ++ pins, xe := fun _ _ => False }
section
variable {X : Cx} {N : List Str} {fr : List Nat} {x : Str} {scope : Scope} {cl : List (Str × Addr)} {elt iter : Expr} {px pos : Pos} {wi : TI} {te : TE}
end
end L2

namespace L2
open PySem PySem.Spec PyProof.Rows
end L2

namespace L2
open PySem PySem.Spec PyProof.Rows
section
variable {P : Program} {w : World} {A : Around} {E : Value → Shared → Prop} {s : Shared}
structure ZT (z TI TO j1 j2 a1 a2 : Addr) (us vs : Array Value) (i : Nat) (f0 : Value) (h : Heap) : Prop where
  zip : IsZip h z TI TO f0
  its : IsPair h TI (.ref j1) (.ref j2)
  to : ∃ a b, IsPair h TO a b
  i1 : h.IsTupleIter j1 a1 i
  i2 : h.IsTupleIter j2 a2 i
end
def Itz (K : PySem.W.Frag) (a b : Addr) : It :=
  ⟨fun i H => ∃ xs ys x y, SqT K H a xs ∧ SqT K H b ys ∧ xs[i]? = some x ∧ ys[i]? = some y,
   fun i H v H' => ∃ t x y, v = .ref t ∧ H t = none ∧ H' = upd H t (.tup [x, y]) ∧ (∀ xs, SqT K H a xs → xs[i]? = some x) ∧ ∀ ys, SqT K H b ys → ys[i]? = some y,
   fun i H => ∃ xs ys, SqT K H a xs ∧ SqT K H b ys ∧ xs.length ≤ i⟩
def iZip (K : PySem.W.Frag) (ta : TA) : TI := fun σ H R => ta σ H fun vs H1 => ∃ (a b : Addr) (xs ys : List V), vs = [.ref a, .ref b] ∧ SqT K H1 a xs ∧ SqT K H1 b ys ∧ R (Itz K a b) H1
end L2

namespace L2
open PySem PySem.Spec PyProof.Rows
def tSetCP (K : PySem.W.Frag) (wi : TI) (fr : List Nat) (te : TE) (k : Nat) : TS := fun D σ H => tCompP K wi fr te σ H fun v H' => D.nx (σ.set k (some v)) H'
section
variable {X : Cx} {N : List Str} {fr : List Nat} {x x2 : Str} {scope : Scope} {cl : List (Str × Addr)} {elt iter : Expr} {px px2 tp pos : Pos} {kt : Nat} {wi : TI} {te : TE}
end
theorem outs_ok {X : Cx} {own : List Str} {ys : List Str} {ks : List Nat} (hl : ks.length = ys.length) (hk : ∀ p ∈ ks.zip ys, X.N[p.1]? = some p.2 ∧ X.env.kindOf p.2 = some .cell) : ∀ (j k : Nat), ks[j]? = some k → ∃ y, (own ++ ys)[j + own.length]? = some y ∧ X.N[k]? = some y ∧ X.env.kindOf y = some .cell := by
  intro j k h
  have hj : j < ks.length := (List.getElem?_eq_some_iff.mp h).1
  have hj2 : j < ys.length := by omega
  refine ⟨ys[j], by rw [List.getElem?_append_right (by omega)]; simp [hj2], ?_⟩
  have m : (k, ys[j]) ∈ ks.zip ys := by
    refine List.mem_of_getElem? (i := j) ?_
    rw [List.getElem?_zip_eq_some]
    exact ⟨h, by simp [hj2]⟩
  exact hk _ m
theorem lookup_mem_all {cl : List (Str × Addr)} {P : Str → Addr → Prop} (h : ∀ p ∈ cl, P p.1 p.2) {y : Str} {c : Addr} (e : cl.lookup y = some c) : P y c := h _ (PySem.mem_of_lookup e)
theorem has_of {ns' : List (Str × NameKind)} {cl : List (Str × Addr)} (h : ∀ p ∈ ns', p.2 = .cell ∨ p.2 = .free → (cl.lookup p.1).isSome = true) (y : Str) (e : ns'.lookup y = some .cell ∨ ns'.lookup y = some .free) : ∃ c, cl.lookup y = some c := by
  have : (cl.lookup y).isSome = true := by
    rcases e with e | e
    · exact h _ (PySem.mem_of_lookup e) (.inl rfl)
    · exact h _ (PySem.mem_of_lookup e) (.inr rfl)
  exact Option.isSome_iff_exists.mp this
theorem CompScope.gen {X : Cx} {x : Str} {scope : Scope} {cl : List (Str × Addr)} (ys : List Str) (ks : List Nat) (ns' : List (Str × NameKind)) (kind : scope.kind = .function) (nocell : ∀ z ∈ scope.names, z.2 ≠ .cell) (loc : ∀ z ∈ scope.names, z.2 = .local → scope.names.lookup z.1 = some .local) (own : scope.names.lookup x = some .local)
    (clos : closureFor scope X.env = pure cl) (sub : ∀ p ∈ cl, X.env.cells.lookup p.1 = some p.2) (rl : (relabel scope X.env).names = ns') (only : ∀ p ∈ ns', p.2 = .cell ∨ p.2 = .free → (cl.lookup p.1).isSome = true) (nd : (x :: ys).Nodup) (ny : ∀ y ∈ ys, ns'.lookup y ≠ some .local) (hl : ks.length = ys.length)
    (hk : ∀ p ∈ ks.zip ys, X.N[p.1]? = some p.2 ∧ X.env.kindOf p.2 = some .cell) : CompScope X (x :: ys) ks x scope cl := by
  subst rl
  refine ⟨kind, nocell, loc, own, clos, fun y c h => lookup_mem_all (P := fun y c => X.env.cells.lookup y = some c) sub h, has_of only, nd, rfl, by simp [hl], fun j y h => ?_, fun j k h => outs_ok (own := [x]) hl hk j k h⟩
  exact ny y (List.mem_of_getElem? (by simpa using h))
theorem CompScope2.gen {X : Cx} {x x2 : Str} {scope : Scope} {cl : List (Str × Addr)} (ys : List Str) (ks : List Nat) (ns' : List (Str × NameKind)) (kind : scope.kind = .function) (nocell : ∀ z ∈ scope.names, z.2 ≠ .cell) (loc : ∀ z ∈ scope.names, z.2 = .local → scope.names.lookup z.1 = some .local) (own : scope.names.lookup x = some .local) (own2 : scope.names.lookup x2 = some .local)
    (clos : closureFor scope X.env = pure cl) (sub : ∀ p ∈ cl, X.env.cells.lookup p.1 = some p.2) (rl : (relabel scope X.env).names = ns') (only : ∀ p ∈ ns', p.2 = .cell ∨ p.2 = .free → (cl.lookup p.1).isSome = true) (nd : (x :: x2 :: ys).Nodup) (ny : ∀ y ∈ ys, ns'.lookup y ≠ some .local) (hl : ks.length = ys.length)
    (hk : ∀ p ∈ ks.zip ys, X.N[p.1]? = some p.2 ∧ X.env.kindOf p.2 = some .cell) : CompScope2 X (x :: x2 :: ys) ks x x2 scope cl := by
  subst rl
  refine ⟨kind, nocell, loc, own, own2, clos, fun y c h => lookup_mem_all (P := fun y c => X.env.cells.lookup y = some c) sub h, has_of only, nd, rfl, rfl, by simp [hl], fun j y h => ?_, fun j k h => outs_ok (own := [x, x2]) hl hk j k h⟩
  exact ny y (List.mem_of_getElem? (by simpa using h))
end L2

namespace L2
open PySem PySem.Spec PyProof.Rows
def Laid (row : Nat → HO) (i : Nat) (vs : List V) (H : Hp) : Prop := ∃ rs : List Addr, vs = rs.map V.ref ∧ rs.length = i ∧ ∀ (j : Nat) (r : Addr), rs[j]? = some r → H r = some (row j)
end L2

namespace L2
open PySem PySem.Spec PyProof.Rows
section
variable {P : Program} {w : World} {A : Around} {E : Value → Shared → Prop}
end
def gLst (K : PySem.W.Frag) (n : Nat) (t : TGs) : TG := fun v σ H Q => ∃ a xs, v = .ref a ∧ SqL K H a xs ∧ xs.length = n ∧ t xs σ H Q
end L2

namespace L2
open PySem PySem.Spec PySem.Calls PyProof.Rows
section
variable {X : Cx} {N : List Str} {fr : List Nat} {x x2 : Str} {scope : Scope} {cl : List (Str × Addr)} {elt iter : Expr} {px px2 tp pos : Pos} {kt : Nat} {wi : TI} {te : TE}
theorem pe_compPairIf {cnd : Expr} {tc : TT} (hc : X.calm = true) (S : CompScope2 X N fr x x2 scope cl) (hi : PI X (.Tuple [.Name x px, .Name x2 px2] kt tp) iter wi) (ht : ∀ (C : Addr) (s0 : Shared) (H0 : Hp) (fp : List Addr) (pins : List (Addr × Obj)), PT (cxC X N scope cl C s0 H0 fp pins) cnd tc) (he : ∀ (C : Addr) (s0 : Shared) (H0 : Hp) (fp : List Addr) (pins : List (Addr × Obj)), PE (cxC X N scope cl C s0 H0 fp pins) elt te)
    (hs : ∀ y, foldedSetIterable iter X.env y = pure y := by intro _; rfl) : PE X (.ListComp elt [⟨.Tuple [.Name x px, .Name x2 px2] kt tp, iter, [cnd], 0⟩] scope pos) (tCompPI X.K wi fr tc te) := by
  intro pins s σ H Q I h
  rw [eval_ListComp]
  exact comp_core2 (use := none) hc S hi (fun _ _ _ _ _ => pts_one (ht _ _ _ _ _)) he hs I h fun acc C m H6 s7 qn hn hend _ _ _ _ _ => ⟨m, hn, fun h' hs' => ⟨.ref acc, H6, hend h' hs', rfl, qn⟩⟩
end
theorem compPI_list {K : PySem.W.Frag} {a : Addr} {rs : List Addr} {xs : List (Int × Int)} {tc : TT} {te : TE} {σ : V → V → St} {H : Hp} {Q : VK} (hn : xs.length < sizeLine) (hl : rs.length = xs.length) (hK : ∀ H', Same H H' → SqL K H' a (rs.map V.ref)) (hx : ∀ (i : Nat) (r : Addr) (x : Int × Int), rs[i]? = some r → xs[i]? = some x → H r = some (.tup [.int x.1, .int x.2])) (p : Int → Bool)
    (ht : ∀ (x : Int × Int) (H' : Hp) (Q' : Bool → Hp → Prop), Same H H' → Q' (p x.1) H' → tc (σ (.int x.1) (.int x.2)) H' Q')
    (he : ∀ (x : Int × Int) (H' : Hp) (Q' : VK), Same H H' → Q' (.int x.1) H' → te (σ (.int x.1) (.int x.2)) H' Q')
    (q : ∀ l H', Same H H' → H l = none → H' l = some (.lst (((xs.map (·.1)).filter p).map V.int)) → Q (.ref l) H') : CompPIEnd K (Itl K a) Q H tc te σ := by
  intro acc hacc
  refine ⟨fun i m H' vs => i ≤ xs.length ∧ m = xs.length - i ∧ Same H H' ∧ H' acc = some (.lst vs) ∧ vs = ((((xs.take i).map (·.1)).filter p).map V.int), ⟨xs.length, Nat.zero_le _, by simp, same_new hacc _, upd_same, by simp⟩, ?_⟩
  rintro i m H' vs ⟨hi, rfl, g, ha, rfl⟩
  refine ⟨ha, ?_⟩
  by_cases h : i = xs.length
  · refine .inl ⟨⟨_, hK _ g, by rw [List.length_map]; omega⟩, q acc H' g hacc ?_⟩
    rw [ha, h, List.take_length]
  · have hlt : i < xs.length := by omega
    have hlr : i < rs.length := by omega
    refine .inr ⟨⟨_, .ref rs[i], hK _ g, by rw [List.getElem?_map, List.getElem?_eq_getElem hlr]; rfl⟩, ?_, ?_⟩
    · rw [List.length_map]
      have h1 := List.length_filter_le p ((xs.take i).map (·.1))
      rw [List.length_map, List.length_take] at h1
      omega
    rintro z H2 ⟨rfl, hz⟩
    have hz' := hz _ (hK _ g)
    rw [List.getElem?_map, List.getElem?_eq_getElem hlr] at hz'
    obtain rfl := Option.some.inj hz'
    have hr := hx i rs[i] xs[i] (List.getElem?_eq_getElem hlr) (List.getElem?_eq_getElem hlt)
    refine ⟨rs[i], .int xs[i].1, .int xs[i].2, rfl, SqT.of (g _ _ hr), ht xs[i] H2 _ g ?_⟩
    have ts : (xs.take (i + 1)).map (·.1) = (xs.take i).map (·.1) ++ [xs[i].1] := by rw [List.take_succ, List.getElem?_eq_getElem hlt, List.map_append]; rfl
    cases e : p xs[i].1 with
    | true =>
      rw [if_pos rfl]
      refine he xs[i] H2 _ g ⟨ha, xs.length - (i + 1), by omega, by omega, rfl, same_upd g hacc, upd_same, ?_⟩
      rw [ts, List.filter_append, List.map_append]
      have : [xs[i].1].filter p = [xs[i].1] := by simp [e]
      rw [this]
      rfl
    | false =>
      rw [if_neg Bool.false_ne_true]
      refine ⟨xs.length - (i + 1), by omega, by omega, rfl, g, ha, ?_⟩
      rw [ts, List.filter_append, List.map_append]
      have : [xs[i].1].filter p = [] := by simp [e]
      rw [this]
      simp
end L2

namespace L2
open PySem PySem.Spec PyProof.Rows
def tPar3 (i j k : Nat) (ta : TA) : TS := fun D σ H => ta σ H fun vs H1 => ∃ v w z, vs = [v, w, z] ∧ D.nx (((σ.set i (some v)).set j (some w)).set k (some z)) H1
def tSetCI (wi : TI) (fr : List Nat) (tc : TT) (te : TE) (k : Nat) : TS := fun D σ H => tCompIfC wi fr tc te σ H fun v H' => D.nx (σ.set k (some v)) H'
end L2

namespace SetM
open PySem PySem.SetTable
def Up (xs : Array Nat) : Prop := ∀ i j, (hij : i < j) → (h : j < xs.size) → xs[i]'(Nat.lt_trans hij h) < xs[j]
theorem below_go {xs : Array Nat} (u : Up xs) (j : Nat) : ∀ (f lo hi : Nat), hi ≤ xs.size → hi - lo ≤ f → lo ≤ hi → (∀ i, i < lo → (h : i < xs.size) → xs[i] < j) → (∀ i, hi ≤ i → (h : i < xs.size) → j ≤ xs[i]) →
    let r := below.go xs j f lo hi
    r ≤ xs.size ∧ (∀ i, i < r → (h : i < xs.size) → xs[i] < j) ∧ (∀ i, r ≤ i → (h : i < xs.size) → j ≤ xs[i])
  | 0, lo, hi, h1, h2, h3, ha, hb => by
    have e : lo = hi := by omega
    subst e
    exact ⟨h1, ha, hb⟩
  | f + 1, lo, hi, h1, h2, h3, ha, hb => by
    unfold below.go
    by_cases c : lo < hi
    · rw [if_pos c]
      have hm : (lo + hi) / 2 < xs.size := by omega
      have e : xs.getD ((lo + hi) / 2) j = xs[(lo + hi) / 2] := by
        rw [Array.getD_eq_getD_getElem?, Array.getElem?_eq_getElem hm]
        rfl
      dsimp only
      rw [e]
      by_cases d : xs[(lo + hi) / 2] < j
      · rw [if_pos d]
        refine below_go u j f _ hi h1 (by omega) (by omega) (fun i hi' h => ?_) hb
        by_cases q : i = (lo + hi) / 2
        · subst q; exact d
        · have := u i ((lo + hi) / 2) (by omega) hm
          omega
      · rw [if_neg d]
        refine below_go u j f lo _ (by omega) (by omega) (by omega) ha (fun i hi' h => ?_)
        by_cases q : i = (lo + hi) / 2
        · subst q; omega
        · have := u ((lo + hi) / 2) i (by omega) h
          omega
    · rw [if_neg c]
      have e : lo = hi := by omega
      subst e
      exact ⟨h1, ha, hb⟩
theorem below_spec {xs : Array Nat} (u : Up xs) (j : Nat) : below xs j ≤ xs.size ∧ (∀ i, i < below xs j → (h : i < xs.size) → xs[i] < j) ∧ (∀ i, below xs j ≤ i → (h : i < xs.size) → j ≤ xs[i]) :=
  below_go u j xs.size 0 xs.size (Nat.le_refl _) (by omega) (by omega) (fun i h => absurd h (Nat.not_lt_zero i)) fun i h h' => by omega
theorem below_next {xs : Array Nat} (u : Up xs) {i : Nat} (h : i < xs.size) : below xs (xs[i] + 1) = i + 1 := by
  obtain ⟨a, b, c⟩ := below_spec u (xs[i] + 1)
  have h1 : ¬ below xs (xs[i] + 1) ≤ i := fun z => by have := c i z h; omega
  have h2 : ¬ i + 1 < below xs (xs[i] + 1) := fun z => by
    have h3 : i + 1 < xs.size := by omega
    have := b (i + 1) z h3
    have := u i (i + 1) (by omega) h3
    omega
  omega
theorem below_zero {xs : Array Nat} (u : Up xs) : below xs 0 = 0 := by
  obtain ⟨a, b, c⟩ := below_spec u 0
  by_cases z : below xs 0 = 0
  · exact z
  · have := b 0 (by omega) (by omega)
    omega
theorem insertAt_toList {α : Type} (xs : Array α) (p : Nat) (x : α) : (insertAt xs p x).toList = xs.toList.take p ++ x :: xs.toList.drop p := by
  unfold insertAt
  simp
  exact List.take_of_length_le (by simp)
theorem up_iff {xs : Array Nat} : Up xs ↔ xs.toList.Pairwise (· < ·) := by
  rw [List.pairwise_iff_getElem]
  constructor
  · intro u i j hi hj hij
    exact u i j hij (by simpa using hj)
  · intro u i j hij h
    exact u i j (by simpa using Nat.lt_trans hij h) (by simpa using h) hij
theorem up_insert {xs : Array Nat} (u : Up xs) {j : Nat} (hj : xs[below xs j]? ≠ some j) : Up (insertAt xs (below xs j) j) := by
  obtain ⟨a, b, c⟩ := below_spec u j
  have ul := up_iff.mp u
  rw [up_iff, insertAt_toList]
  have c' : ∀ y ∈ xs.toList.drop (below xs j), j < y := fun y hy => by
    obtain ⟨i, hi, rfl⟩ := List.getElem_of_mem hy
    rw [List.getElem_drop]
    have hs : below xs j + i < xs.size := by
      rw [List.length_drop, Array.length_toList] at hi
      omega
    have h1 := c (below xs j + i) (by omega) hs
    by_cases z : i = 0
    · subst z
      have h2 : xs[below xs j] ≠ j := fun z => hj (by rw [Array.getElem?_eq_getElem (by omega), z])
      have h3 := c (below xs j) (by omega) (by omega)
      have h4 : xs[below xs j] = xs[below xs j + 0] := rfl
      show j < xs[below xs j + 0]
      omega
    · have h2 := u (below xs j) (below xs j + i) (by omega) hs
      have h3 := c (below xs j) (by omega) (by omega)
      show j < xs[below xs j + i]
      omega
  have b' : ∀ y ∈ xs.toList.take (below xs j), y < j := fun y hy => by
    obtain ⟨i, hi, rfl⟩ := List.getElem_of_mem hy
    rw [List.getElem_take]
    rw [List.length_take, Array.length_toList] at hi
    exact b i (by omega) (by omega)
  rw [List.pairwise_append]
  refine ⟨ul.take, List.pairwise_cons.mpr ⟨c', ul.drop⟩, fun x hx y hy => ?_⟩
  rcases List.mem_cons.mp hy with rfl | hy
  · exact b' x hx
  · exact Nat.lt_trans (b' x hx) (c' y hy)
structure Good (b : Bool) (t : SetTable) : Prop where
  up : Up t.place
  no : t.dummies = #[]
  led : t.led = b
theorem good_fresh (f m : Nat) (b : Bool) : Good b (.fresh f m b) := ⟨fun i j hij h => absurd h (Nat.not_lt_zero j), rfl, rfl⟩
theorem up_range (n : Nat) : Up (Array.range n) := by
  rw [up_iff, Array.toList_range]
  exact List.pairwise_lt_range
theorem good_standIn {b : Bool} {t : SetTable} (g : Good b t) (n : Nat) : Good b (t.standIn n) := ⟨up_range n, rfl, g.led⟩
theorem good_orStandIn {b : Bool} {t : SetTable} (g : Good b t) (n : Nat) : Good b (t.orStandIn n) := by
  unfold SetTable.orStandIn
  split
  · exact g
  · exact good_standIn g n
theorem good_plain {b : Bool} {t : SetTable} (g : Good b t) (p : Bool) : Good b { t with plain := p } := ⟨g.up, g.no, g.led⟩
theorem has_none (j : Nat) : SetTable.has #[] j = false := rfl
theorem good_put {b : Bool} {t : SetTable} (g : Good b t) {j : Nat} (hj : t.slot j = .empty) : Good b (t.put j).1 := by
  have hn : t.place[below t.place j]? ≠ some j := fun z => by
    unfold SetTable.slot at hj
    dsimp only at hj
    rw [if_pos (by rw [z]; exact beq_self_eq_true _)] at hj
    cases hj
  refine ⟨up_insert g.up hn, ?_, g.led⟩
  unfold SetTable.put
  dsimp only
  rw [g.no, has_none]
  rfl
theorem probe_go {b : Bool} {t : SetTable} (g : Good b t) {f : Nat → Int} {h : Int} : ∀ (n : Nat) (p : Probe), p.dummy = none → ∀ j d, probe.go t f h n p = some (.empty j d) → d = none ∧ t.slot j = .empty
  | 0, p, _, j, d, e => by cases e
  | n + 1, p, hp, j, d, e => by
    unfold probe.go at e
    have hadv : (t.advance p).dummy = none := by
      unfold SetTable.advance
      split
      · exact hp
      · exact hp
    cases hs : t.slot p.j with
    | empty =>
      rw [hs] at e
      cases e
      exact ⟨hp, hs⟩
    | dummy =>
      unfold SetTable.slot at hs
      dsimp only at hs
      rw [g.no, has_none] at hs
      split at hs <;> cases hs
    | live i =>
      rw [hs] at e
      dsimp only at e
      split at e
      · cases e
      · exact probe_go g n _ hadv j d e
theorem free_slot {b : Bool} {t : SetTable} (g : Good b t) {h : Int} {j : Nat} {d : Bool} (e : t.freeSlot h = some (j, d)) : t.slot j = .empty := by
  unfold SetTable.freeSlot at e
  split at e
  · rename_i j' d' hp
    obtain ⟨rfl, z⟩ := probe_go g _ _ rfl _ _ hp
    cases e
    exact z
  · cases e
theorem good_layNew {b : Bool} {t : SetTable} (g : Good b t) (es : Array (Int × Value)) (h : Int) (x : Value) : Good b (layNew t es h x).2.1 := by
  unfold layNew
  split
  · rename_i slot d e
    exact good_orStandIn (good_put g (free_slot g e)) _
  · exact good_standIn g _
theorem good_relaid {b : Bool} {t : SetTable} (g : Good b t) {hs : Array Int} {n : Nat} {t' : SetTable} {o : Array Nat} (e : t.relaid hs n = some (t', o)) : Good b t' := by
  unfold SetTable.relaid SetTable.laid at e
  cases q : layClean (sizeAbove n - 1) hs with
  | none => rw [q] at e; cases e
  | some owner =>
    rw [q] at e
    cases e
    refine ⟨?_, rfl, g.led⟩
    rw [up_iff]
    dsimp only
    rw [List.pairwise_map, List.pairwise_filterMap]
    refine List.Pairwise.imp (fun {a c} hac x hx y hy => ?_) List.pairwise_lt_range
    obtain ⟨v, _, rfl⟩ := Option.map_eq_some_iff.mp hx
    obtain ⟨v', _, rfl⟩ := Option.map_eq_some_iff.mp hy
    exact hac
theorem good_relayAll {b : Bool} {t : SetTable} (g : Good b t) (es : Array (Int × Value)) (n : Nat) : Good b (relayAll t es n).2.1 := by
  unfold relayAll
  split
  · rename_i t' o e
    dsimp only
    split
    · exact good_relaid g e
    · exact good_standIn g _
  · exact good_standIn g _
end SetM

namespace SetM
open PySem
def SetG (prog : Program) (w : World) (b : Bool) (h : Heap) (a : Addr) (S : Int → Bool) (n : Nat) : Prop :=
  ∃ o es ep t, h.get? a = some o ∧ o.ExactSet ∧ o.data = .set es ep t ∧ ElemsOf (intKind prog w) es.toList ∧ (∀ k, S k = true ↔ ∃ e ∈ es.toList, (intKind prog w).is k e.2 = true) ∧ es.size < scanBound ∧ t.fits es.size = true ∧ es.size = n ∧ Good b t
section
variable {prog : Program} {w : World} {A : Around} {E : Value → Shared → Prop} {s : Shared} {b : Bool}
theorem setG_store {h : Heap} {a : Addr} {o : Obj} {es : Array (Int × Value)} {ep : Nat} {t : SetTable} (ho : h.get? a = some o) (hex : o.ExactSet) (hd : o.data = .set es ep t)
    {es' : Array (Int × Value)} {t' : SetTable} {S' : Int → Bool} (hel : ElemsOf (intKind prog w) es'.toList) (hmem : ∀ k, S' k = true ↔ ∃ e ∈ es'.toList, (intKind prog w).is k e.2 = true) (hb : es'.size < scanBound) (hf : t'.fits es'.size = true) (g : Good b t') :
    (h.update a (Obj.putSet es' t')).get? a = some { o with data := .set es' (ep + 1) t' } ∧ SetG prog w b (h.update a (Obj.putSet es' t')) a S' es'.size := by
  obtain ⟨h1, _⟩ := SetOf_store (knd := intKind prog w) (S' := S') ho hex hd hel hmem hb hf
  exact ⟨h1, _, es', ep + 1, t', h1, hex, rfl, hel, hmem, hb, hf, rfl, g⟩
theorem tailG {q : Bool → Sem Unit} (hq : ∀ (c : Bool) (s₁ : Shared) (Q' : Unit → Shared → Prop), Q' () s₁ → wpAny (model prog w) A (q c) Q' E s₁)
    {a : Addr} {o : Obj} {es : Array (Int × Value)} {ep : Nat} {t : SetTable} (ho : s.heap.get? a = some o) (hex : o.ExactSet) (hd : o.data = .set es ep t)
    {es1 : Array (Int × Value)} {t2 : SetTable} {S' : Int → Bool} (hel1 : ElemsOf (intKind prog w) es1.toList) (hmem1 : ∀ k', S' k' = true ↔ ∃ e ∈ es1.toList, (intKind prog w).is k' e.2 = true)
    (hb1 : es1.size < scanBound) (hf2 : t2.fits es1.size = true) (g2 : Good b t2) {wasDummy : Bool} {R : Option Bool → Shared → Prop}
    (h : ∀ h', Heap.SameBut a s.heap h' → SetG prog w b h' a S' es1.size → R (some true) { s with heap := h' }) :
    wpAny (model prog w) A (do
        storeSet a es1 t2
        if (!wasDummy && t2.tooFull) = true then do
            q (relayAll t2 es1 (SetTable.grown es1.size)).2.2
            storeSet a (relayAll t2 es1 (SetTable.grown es1.size)).1 (relayAll t2 es1 (SetTable.grown es1.size)).2.1
            pure (some true)
          else pure (some true)) R E s := by
  refine wpAny_bind (wpAny_storeSet_of ho hd ?_ (fits_of_scanBound hb1))
  obtain ⟨ho1, hS1⟩ := setG_store ho hex hd hel1 hmem1 hb1 hf2 g2
  have sb1 := Heap.SameBut.update s.heap a (Obj.putSet es1 t2)
  split
  · have hp := relayAll_perm t2 es1 (SetTable.grown es1.size)
    have hfr := relayAll_fits t2 es1 (SetTable.grown es1.size)
    have gr := good_relayAll g2 es1 (SetTable.grown es1.size)
    generalize relayAll t2 es1 (SetTable.grown es1.size) = Rl at hp hfr gr ⊢
    obtain ⟨es2, t3, gave⟩ := Rl
    dsimp only at hp hfr gr ⊢
    have hsz : es2.size = es1.size := by rw [← Array.length_toList, hp.length_eq, Array.length_toList]
    refine wpAny_bind (hq _ _ _ (wpAny_bind (wpAny_storeSet_of ho1 rfl ?_ (fits_of_scanBound (by rw [hsz]; exact hb1)))))
    obtain ⟨_, hS2⟩ := setG_store (S' := S') ho1 hex rfl (hel1.perm hp) (fun k' => (hmem1 k').trans ⟨fun ⟨e, he, z⟩ => ⟨e, hp.mem_iff.mpr he, z⟩, fun ⟨e, he, z⟩ => ⟨e, hp.mem_iff.mp he, z⟩⟩) (by rw [hsz]; exact hb1) hfr gr
    rw [hsz] at hS2
    exact wpAny_pure (h _ (sb1.trans (Heap.SameBut.update _ a _)) hS2)
  · exact wpAny_pure (h _ sb1 hS1)
theorem addG {a : Addr} {S : Int → Bool} {n : Nat} {k : Int} {x : Value} {Q : Bool → Shared → Prop} (hkey : (intKind prog w).is k x = true) (hsc : x.scannable = true) (hS : SetG prog w b s.heap a S n) (hroom : n + 1 < scanBound)
    (h : ∀ h', Heap.SameBut a s.heap h' → SetG prog w b h' a (fun k' => S k' || decide (k' = k)) (if S k then n else n + 1) → Q (!S k) { s with heap := h' }) :
    wpAny (model prog w) A (setAddHashed a x ((intKind prog w).hash k)) Q E s := by
  obtain ⟨o, es, ep, t, ho, hex, hd, hel, hmem, hb, hf, hn, g⟩ := hS
  unfold setAddHashed setAddHashedIn
  refine wpAny_holding (wpAny_bind (wpAny_setState_of ho hd hf ?_))
  dsimp only
  rw [byScan_of hsc hb hel]
  simp only [↓reduceIte]
  unfold setAddByScan
  refine wpAny_bind (wpAny_bind (wpAny_rule (wpAny_bind (wpAny_setScan_of hkey ho hd hf hel ?_))))
  cases hr : List.findIdx? (fun e => (intKind prog w).is k e.2) es.toList with
  | some j =>
    dsimp only
    obtain ⟨hj, hpj, _⟩ := List.findIdx?_eq_some_iff_getElem.mp hr
    have hk : S k = true := (hmem k).mpr ⟨es.toList[j], List.getElem_mem hj, hpj⟩
    have z := h s.heap (Heap.SameBut.refl a s.heap) ⟨o, es, ep, t, ho, hex, hd, hel, fun k' => by
      rw [Bool.or_eq_true, decide_eq_true_eq, ← hmem k']
      exact ⟨fun y => y.elim id (fun e => e ▸ hk), .inl⟩, hb, hf, by rw [hk]; exact hn, g⟩
    rw [hk] at z
    exact wpAny_pure (wpAny_pure z)
  | none =>
    dsimp only
    have hk : S k = false := by
      cases c : S k with
      | false => rfl
      | true =>
        obtain ⟨e, he, hp⟩ := (hmem k).mp c
        have := List.findIdx?_eq_none_iff.mp hr e he
        rw [hp] at this
        cases this
    have hperm := layNew_perm t es ((intKind prog w).hash k) x
    have hfits := layNew_fits t es ((intKind prog w).hash k) x
    have gl := good_layNew g es ((intKind prog w).hash k) x
    generalize layNew t es ((intKind prog w).hash k) x = L at hperm hfits gl ⊢
    obtain ⟨es1, t1, wasDummy, gave⟩ := L
    dsimp only at hperm hfits gl ⊢
    rw [Array.toList_push] at hperm
    have sz : es1.size = n + 1 := by rw [← Array.length_toList, hperm.length_eq, List.length_append, Array.length_toList, hn]; rfl
    have hb1 : es1.size < scanBound := by rw [sz]; exact hroom
    have fin : ∀ h', Heap.SameBut a s.heap h' → SetG prog w b h' a (fun k' => S k' || decide (k' = k)) es1.size → Q true { s with heap := h' } := fun h' sb z => by
      have y := h h' sb
      rw [hk] at y
      rw [sz] at z
      exact y z
    have hq : ∀ (c : Bool) (s₁ : Shared) (Q' : Unit → Shared → Prop), Q' () s₁ → wpAny (model prog w) A (match c with | true => rule "set.scan.the-table-gave-way" | false => pure ()) Q' E s₁ := fun c s₁ Q' y => by
      cases c
      · exact wpAny_pure y
      · exact wpAny_rule y
    refine wpAny_bind (hq _ _ _ ?_)
    split
    · refine wpAny_bind ?_
      rw [hashByValue_scannable 8 hsc]
      refine wpAny_pure ?_
      refine tailG hq ho hex hd ((hel.push hkey hsc).perm hperm) (mem_push_iff hkey hmem hperm) hb1 ?_ ?_ fun h' sb z => wpAny_pure (fin h' sb z)
      · split
        · exact hfits
        · exact SetTable.fits_plain_off hfits
      · split
        · exact gl
        · exact good_plain gl false
    · refine wpAny_bind (wpAny_pure ?_)
      simp only [↓reduceIte]
      exact tailG hq ho hex hd ((hel.push hkey hsc).perm hperm) (mem_push_iff hkey hmem hperm) hb1 hfits gl fun h' sb z => wpAny_pure (fin h' sb z)
end
end SetM

namespace SetM
open PySem PyProof.Rows
abbrev byT (w : World) : Bool := w.params.followText "set-order"
abbrev newO (w : World) : Obj := { cls := .type "set", dict := none, data := .set #[] 0 (.fresh 0 0 (!byT w)) }
theorem SetG.congr {prog : Program} {w : World} {b : Bool} {h : Heap} {a : Addr} {S S' : Int → Bool} {n n' : Nat} (g : SetG prog w b h a S n) (e : ∀ k, S k = S' k) (en : n = n') : SetG prog w b h a S' n' := by
  have : S = S' := funext e
  subst this en
  exact g
theorem SetG.keeps {prog : Program} {w : World} {b : Bool} {h h' : Heap} {a : Addr} {S : Int → Bool} {n : Nat} (g : SetG prog w b h a S n) (k : ∀ o, h.get? a = some o → h'.get? a = some o) : SetG prog w b h' a S n :=
  let ⟨o, es, ep, t, h1, r⟩ := g; ⟨o, es, ep, t, k _ h1, r⟩
section
variable {prog : Program} {w : World} {A : Around} {E : Value → Shared → Prop} {s : Shared} {b : Bool}
theorem loopG {R : Result → Shared → Prop} {I : Addr} {fp wr : List Addr} {G : Array GenState → Array GenState → Prop} {n : Nat} {P : Nat → Value → Prop} {St : Nat → Shared → Prop}
    (W : WalksS prog w A.in1 I fp wr G n P St) (S : Addr) (hSf : S ∉ fp) (val : Nat → Int) (hval : ∀ i v, P i v → ∃ t, v = .int (val i) t) (hb : n + 1 < scanBound) : ∀ (k i : Nat) (s : Shared), n - i = k → i ≤ n → St i s →
      SetG prog w b s.heap S (fun k' => (firstMet val i).any (· == k')) (firstMet val i).length →
      (∀ s', Moved (S :: wr) G s s' → SetG prog w b s'.heap S (fun k' => (firstMet val n).any (· == k')) (firstMet val n).length → R (.ok (.ret .none)) s') →
      codeAny (model prog w) A (.builtin "set.update.loop" ⟨[.ref S, .ref I], []⟩) R s
  | 0, i, s, hk, hi, st, hS, hR => by
    obtain rfl : i = n := by omega
    refine codeAny_builtin F.entry_set_update_loop ?_
    rw [Around.under_plainId F.plain_set_update_loop _]
    show wpAny _ A.in1 (pyNext (.ref I) >>= _) _ _ s
    refine wpAny_bind (W.done s _ _ st fun s' hm => ?_)
    show wpAny _ A.in1 (ret Value.none) _ _ s'
    exact wpAny_pure (hR s' (hm.mono fun b hb => List.mem_cons_of_mem _ hb) (hS.keeps fun o e => hm.heap S o (fun z => hSf (W.sub _ z)) e))
  | k + 1, i, s, hk, hi, st, hS, hR => by
    have lt : i < n := by omega
    refine codeAny_builtin F.entry_set_update_loop ?_
    rw [Around.under_plainId F.plain_set_update_loop _]
    show wpAny _ A.in1 (pyNext (.ref I) >>= _) _ _ s
    refine wpAny_bind (W.item i s _ _ lt st fun v s' hP st' hm => ?_)
    obtain ⟨t, rfl⟩ := hval i v hP
    have hS' := hS.keeps (h' := s'.heap) fun o e => hm.heap S o (fun z => hSf (W.sub _ z)) e
    show wpAny _ A.in1 (holding [Value.int (val i) t] (setAdd S (.int (val i) t)) >>= _) _ _ s'
    refine wpAny_bind (wpAny_holding ?_)
    unfold setAdd
    refine wpAny_holding (wpAny_bind ((intKind prog w).pyHash (k := val i) (intKind_is _ _ _ _) ?_))
    have room : (firstMet val i).length + 1 < scanBound := by have := firstMet_length_le val i; omega
    refine addG (s := { s' with toks := s'.toks + 1 }) (intKind_is _ _ _ _) rfl hS' room fun h' sb hS2 => ?_
    have hSi := hS2.congr (S' := fun k' => (firstMet val (i + 1)).any (· == k')) (n' := (firstMet val (i + 1)).length) (fun k' => by rw [firstMet_succ, step_any]) (by rw [firstMet_succ, step_length])
    refine wpAny_pure ⟨plainId_quiet F.plain_set_update_loop _, loopG W S hSf val hval hb k (i + 1) _ (by omega) lt (W.frame _ s' _ _ st' (Nat.le_succ _) fun b hb o e => ?_) hSi fun s'' hm'' hS'' => ?_⟩
    · rw [sb.2 b fun z => hSf (by rw [← z]; exact hb)]
      exact e
    · refine hR s'' (Moved.trans W.gtrans ((hm.mono fun b hb => List.mem_cons_of_mem _ hb).then_heap (Nat.le_succ _) fun b o hb e => ?_) hm'') hS''
      rw [sb.2 b fun z => hb (by rw [z]; exact List.mem_cons_self)]
      exact e
theorem newG (a : Value) {Q₁ : Value → Shared → Prop} (h : Q₁ (.ref s.heap.objs.size) { s with heap := s.heap.push (newO w) }) :
    codeAny (model prog w) A (.call (.builtin "set.__new__") ⟨[.type "set", a], []⟩) (wants Q₁ E) s := by
  refine codeAny_of_tree ?_
  show wpAny _ A.in1 (do checkBuiltinCall "set.__new__" ⟨[.type "set", a], []⟩; again (.builtin "set.__new__" ⟨[.type "set", a], []⟩)) _ _ s
  refine wpAny_bind (wpAny_of_eq (PySem.F.newCall_set_1 a) (wpAny_pure ⟨plainId_quiet PySem.F.plain_set_new _, codeAny_builtin PySem.F.entry_set_new ?_⟩))
  rw [Around.under_plainId PySem.F.plain_set_new _]
  unfold Builtin.«set.__new__» Builtin.Frozenset.newClass
  have hsub := sub_set_self
  obtain ⟨hp, g, d, tk, os⟩ := s
  dsimp only
  wp_walk
  refine wpAny_askSetting (wpAny_pure ?_)
  dsimp only
  simp only [newObj]
  exact wpAny_bind (wpAny_alloc (wpAny_pure (wpAny_pure h)))
theorem call_setG {l : Addr} {items : Array Value} {ns : List Int} {Q : Value → Shared → Prop} (hh : A.handled = none) (hl : s.heap.IsList l items) (hi : IntsAre items.toList ns) (hb : items.size + 1 < scanBound)
    (h : ∀ (h' : Heap) (tk : Nat), SetG prog w (!byT w) h' s.heap.objs.size (fun k' => (firstMet (fun i => ns.getD i 0) items.size).any (· == k')) (firstMet (fun i => ns.getD i 0) items.size).length →
      (∀ b o, b < s.heap.objs.size → s.heap.get? b = some o → h'.get? b = some o) → Q (.ref s.heap.objs.size) { s with heap := h', toks := tk }) :
    wpAny (model prog w) A (call (.type "set") [.ref l]) Q E s := by
  obtain ⟨c, tl, hmro⟩ := PySem.F.called_set.mro
  have hmade := PySem.F.called_set.made
  have hsub := PySem.F.called_set.sub
  refine wpAny_call (codeAny_of_tree ?_)
  show wpAny _ _ (callAny (.type "set") _) _ _ _
  refine wpAny_pure ⟨Code.quiet_builtin _ (by decide +kernel), codeAny_builtin PySem.F.entry_type_call ?_⟩
  rw [Around.under_plain (weight_type_call_type "set" [.ref l] []) rfl]
  have h1 := PySem.F.called_set.notType
  have h2 := PySem.F.called_set.canCreate
  have hct := PySem.F.typeCall_set_1 (.ref l)
  repeat (any_goals (first | assumption | wp_step))
  refine codeAny_mono (newG (.ref l) (E := E) (Q₁ := fun obj s₁ => obj = .ref s.heap.objs.size ∧ s₁ = { s with heap := s.heap.push (newO w) }) ⟨rfl, rfl⟩) fun r s₁ hr => ?_
  cases r with
  | error e => exact hr
  | ok fl =>
    cases fl with
    | ret obj =>
      obtain ⟨rfl, rfl⟩ := hr
      have hS : (s.heap.push (newO w)).get? s.heap.objs.size = some (newO w) := Heap.get?_push_size _ rfl
      have hT : Shared.TypeIs { s with heap := s.heap.push (newO w) } (.ref s.heap.objs.size) "set" := ⟨_, hS, rfl⟩
      have hli := PySem.F.called_set.init.lookup
      have hbi := PySem.F.called_set.init.bind (.ref s.heap.objs.size)
      repeat (any_goals (first | assumption | wp_step))
      refine codeAny_mono (codeAny_call_builtin (R := wants (fun r s₂ => r = .none ∧ ∃ h' tk, s₂ = { s with heap := h', toks := tk } ∧
          SetG prog w (!byT w) h' s.heap.objs.size (fun k' => (firstMet (fun i => ns.getD i 0) items.size).any (· == k')) (firstMet (fun i => ns.getD i 0) items.size).length ∧
          (∀ b o, b < s.heap.objs.size → s.heap.get? b = some o → h'.get? b = some o)) E) PySem.F.called_set.init.plain PySem.F.entry_set_init (check_set_init_1 hT ?_)) fun r₂ s₂ hr₂ => ?_
      · obtain ⟨ol, hol, hcl, nl, hdl⟩ := hl
        obtain ⟨ocls, odict, odata, oslots⟩ := ol
        simp only at hcl hdl
        subst hcl hdl
        have hol' : (s.heap.push (newO w)).get? l = some { cls := .type "list", dict := odict, data := .seq items nl, slots := oslots } := Heap.get?_push_of_some _ hol
        have hsls := PySem.F.sub_list_set
        have hslf := PySem.F.sub_list_frozenset
        have hne : (Value.type "list" == Value.type "dict") = false := by decide
        have hl1 : (s.heap.push (newO w)).IsList l items := ⟨_, hol', rfl, nl, rfl⟩
        unfold Builtin.«set.__init__» noKeywords Builtin.Frozenset.updateFrom
        generalize hPI : pyIter = PI
        wp_walk
        subst hPI
        refine wpAny_pyIter_list hl1 (wpAny_bind (wpAny_runValue ?_))
        have lS : l < s.heap.objs.size := Heap.lt_size hol
        have hh3 : A.in1.in1.in1.handled = none := by simp [hh]
        have neI : l ≠ (s.heap.push (newO w)).objs.size := by rw [Heap.size_push]; exact Nat.ne_of_lt (Nat.lt_succ_of_lt lS)
        have hSf : s.heap.objs.size ∉ [(s.heap.push (newO w)).objs.size, l] := by
          rw [Heap.size_push]
          simp only [List.mem_cons, List.not_mem_nil, or_false, not_or]
          exact ⟨Nat.ne_of_lt (Nat.lt_succ_self _), Nat.ne_of_gt lS⟩
        have hval : ∀ (i : Nat) (v : Value), items[i]? = some v → ∃ t, v = .int ((fun i => ns.getD i 0) i) t := fun i v hv => IntsAre.int_at hi i v (by rw [Array.getElem?_toList]; exact hv)
        refine loopG (b := !byT w) ((Walks.list hh3 _ l neI items).toS) s.heap.objs.size hSf (fun i => ns.getD i 0) hval hb (items.size - 0) 0 _ (by omega) (Nat.zero_le _) ⟨⟨_, Heap.get?_push_size _ rfl, rfl, rfl⟩, (hl1.push _)⟩ ?hS0 ?hR
        case hS0 => exact ⟨_, #[], 0, _, Heap.get?_push_of_some _ hS, ⟨rfl, rfl, rfl⟩, rfl, fun e he => by simp at he, fun k => by simp [firstMet], by decide, by rfl, rfl, good_fresh 0 0 _⟩
        case hR =>
          intro s' hm hS'
          obtain ⟨h', g', d', tk', os'⟩ := s'
          have eg : g' = s.gens := hm.gens
          have ed : d' = s.drawn := hm.drawn
          have eo : os' = s.os := hm.os
          subst eg ed eo
          show wpAny _ _ _ _ _ _
          refine wpAny_pure ?_
          show wpAny _ _ (ret Value.none) _ _ _
          refine wpAny_pure ⟨rfl, h', tk', rfl, hS', fun b o hb e => ?_⟩
          exact hm.heap b o (by
            rw [Heap.size_push]
            simp only [List.mem_cons, List.not_mem_nil, or_false, not_or]
            exact ⟨Nat.ne_of_lt hb, Nat.ne_of_lt (Nat.lt_succ_of_lt hb)⟩) (Heap.get?_push_of_some _ (Heap.get?_push_of_some _ e))
      · cases r₂ with
        | error e => exact hr₂
        | ok fl₂ =>
          cases fl₂ with
          | ret r =>
            obtain ⟨rfl, h', tk, rfl, hS', hk'⟩ := hr₂
            repeat (any_goals (first | assumption | wp_step))
            exact h _ _ hS' hk'
          | _ => exact hr₂.elim
    | _ => exact hr.elim
end
end SetM

namespace SetM
open PySem PyProof.Rows
theorem sl_next : Slot "set_iterator" "__next__" "set_iterator.__next__" :=
  .of (owner := "set_iterator") (n := "__next__") (by rw [typeLookup_type, builtinLookup_eq_fast]; kernel_rfl) (by decide +kernel) (by decide +kernel) (by decide +kernel)
    (by first | exact .inl (by decide +kernel) | exact .inr (by decide +kernel)) (by rw [isSubtype_type]; kernel_rfl)
theorem en_next : entryFor table "set_iterator.__next__" = some Builtin.«set_iterator.__next__» := entryFor_of_tree (by kernel_rfl)
theorem ow_si : Manifest.owners.lookup (String.ofList ['r', 'o', 't', 'a', 'r', 'e', 't', 'i', '_', 't', 'e', 's'].reverse) = some Manifest.sig_set_iterator := by kernel_rfl
theorem ar_next (a : Value) : argsOk "set_iterator.__next__" ⟨[a], []⟩ := by
  unfold argsOk; rw [signature?_of (id := "set_iterator.__next__") (n := ['_', '_', 't', 'x', 'e', 'n', '_', '_']) (o := ['r', 'o', 't', 'a', 'r', 'e', 't', 'i', '_', 't', 'e', 's']) (by kernel_rfl) ow_si]; kernel_rfl
theorem en_iter : entryFor table "set.__iter__" = some Builtin.«frozenset.__iter__» := entryFor_alias (id' := "frozenset.__iter__") (by kernel_rfl) rfl (by decide +kernel) (by kernel_rfl)
theorem sl_self : Slot "set_iterator" "__iter__" "set_iterator.__iter__" :=
  .of (owner := "set_iterator") (n := "__iter__") (by rw [typeLookup_type, builtinLookup_eq_fast]; kernel_rfl) (by decide +kernel) (by decide +kernel) (by decide +kernel)
    (by first | exact .inl (by decide +kernel) | exact .inr (by decide +kernel)) (by rw [isSubtype_type]; kernel_rfl)
def SetAt (h : Heap) (a : Addr) (es : Array (Int × Value)) (ep : Nat) (t : SetTable) : Prop := ∃ o, h.get? a = some o ∧ o.ExactSet ∧ o.data = .set es ep t ∧ t.fits es.size = true
def IterAt (h : Heap) (it a : Addr) (first : Value) (i n ep : Nat) : Prop := ∃ o, h.get? it = some o ∧ o.cls = .type "set_iterator" ∧ o.data = .fields #[first, .int i 0, .ref a, .int n 0, .int ep 0]
theorem SetAt.keeps {h h' : Heap} {a : Addr} {es : Array (Int × Value)} {ep : Nat} {t : SetTable} (x : SetAt h a es ep t) (k : ∀ o, h.get? a = some o → h'.get? a = some o) : SetAt h' a es ep t := let ⟨o, p, r⟩ := x; ⟨o, k _ p, r⟩
theorem IterAt.keeps {h h' : Heap} {it a : Addr} {f : Value} {i n ep : Nat} (x : IterAt h it a f i n ep) (k : ∀ o, h.get? it = some o → h'.get? it = some o) : IterAt h' it a f i n ep := let ⟨o, p, r⟩ := x; ⟨o, k _ p, r⟩
section
variable {prog : Program} {w : World} {A : Around} {E : Value → Shared → Prop} {s : Shared} {it a : Addr} {es : Array (Int × Value)} {ep i : Nat} {t : SetTable} {first : Value}
theorem IterAt.type {n : Nat} (x : IterAt s.heap it a first i n ep) : s.TypeIs (.ref it) "set_iterator" := let ⟨o, p, c, _⟩ := x; ⟨o, p, c⟩
theorem choose_ok {src : Source} {n : Nat} {Q : Nat → Shared → Prop} (hn : n ≠ 0) (h : ∀ k d, k < n → Q k { s with drawn := d }) : wpAny (model prog w) A (choose src n) Q E s := fun _ _ _ => ⟨hn, h _ _ (Nat.mod_lt _ (Nat.pos_of_ne_zero hn))⟩
theorem next_int {sl nx : Nat} {x : Value} {Q : Option Value → Shared → Prop} (hi : IterAt s.heap it a (.int sl 0) i es.size ep) (hs : SetAt s.heap a es ep t) (hne : a ≠ it)
    (hn : ∀ (A' : Around) (Q' : Option (Value × Nat) → Shared → Prop) (E' : Value → Shared → Prop), Q' (some (x, nx)) s → wpAny (model prog w) A' (setNext a sl i ep) Q' E' s)
    (hQ : ∀ h', IterAt h' it a (.int nx 0) (i + 1) es.size ep → Heap.SameBut it s.heap h' → Q (some x) { s with heap := h' }) :
    wpAny (model prog w) A (pyNext (.ref it)) Q E s := by
  obtain ⟨o, ho, hc, hd⟩ := id hi
  obtain ⟨os, hos, hex, hds, hf⟩ := id hs
  unfold pyNext
  refine wpAny_bind (wpAny_attempt (wpAny_callSpecial?_slot (name := Str.ofString "__next__") hi.type sl_next (wpAny_call_entry sl_next hi.type en_next ?_ (ar_next _))))
  unfold Builtin.«set_iterator.__next__»
  refine wpAny_bind (wpAny_pure ?_)
  refine wpAny_bind (wpAny_fieldsOf ho hd ?_)
  dsimp only
  refine wpAny_bind (wpAny_setEntries_of hos hds hf ?_)
  rw [if_neg (by simp)]
  refine wpAny_bind ?_
  simp only [Int.toNat_natCast]
  refine hn _ _ _ ?_
  dsimp only
  refine wpAny_bind (wpAny_setField ho hd (by simp) ?_)
  have h1 : (s.heap.update it (Obj.mapFields (·.setIfInBounds 0 (rawInt (nx : Int))))).get? it = some (Obj.mapFields (·.setIfInBounds 0 (rawInt (nx : Int))) o) := Heap.get?_update_self _ ho (Obj.isFreed_of_fields (Obj.data_mapFields hd _))
  refine wpAny_bind (wpAny_setField (s := { s with heap := s.heap.update it (Obj.mapFields (·.setIfInBounds 0 (rawInt (nx : Int)))) }) h1 (Obj.data_mapFields hd _) (by simp) ?_)
  refine wpAny_pure ⟨_, rfl, wpAny_pure (hQ _ ⟨_, Heap.get?_update_self _ h1 (Obj.isFreed_of_fields (Obj.data_mapFields (Obj.data_mapFields hd _) _)), ?_, ?_⟩ ((Heap.SameBut.update ..).trans (Heap.SameBut.update ..)))⟩
  · rw [Obj.cls_mapFields, Obj.cls_mapFields]
    exact hc
  · rw [Obj.data_mapFields (Obj.data_mapFields hd _)]
    simp [rawInt]
theorem stopped {o : Obj} {vs : Array Value} {k : Nat} {Q : Option Value → Shared → Prop} (hh : A.handled = none) (ho : s.heap.get? it = some o) (hd : o.data = .fields vs) (hk : k < vs.size) (x : Value) (hQ : ∀ h', Heap.ExtBut it s.heap h' → Q none { s with heap := h' }) :
    wpAny (model prog w) A.in1 (do setField (.ref it) k x; raiseNew (← newExc (.type "StopIteration") [])) (fun fin s' => ∃ v, fin = Fin.done (Flow.ret v) ∧ wpAny (model prog w) A (pure (some v)) Q E s')
      (fun e s' => wpAny (model prog w) A (do if ← isInstance e (.type "StopIteration") then pure none else throw e) Q E s') s := by
  refine wpAny_bind (wpAny_setField ho hd hk ?_)
  refine wpAny_bind ?_
  simp only [newExc, newTuple]
  refine wpAny_bind (wpAny_newObj_type ?_ (by size_fits))
  refine wpAny_bind (m := firstArgMember _ _) (wpAny_of_eq (a := Value.none) (by first | rfl | (simp only [firstArgMember]; rfl)) ?_)
  refine wpAny_newObj_type ?_ (by size_fits)
  simp only [raiseNew]
  refine wpAny_bind (wpAny_handled ?_)
  rw [show A.in1.handled = none from hh]
  refine wpAny_bind (wpAny_pure (wpAny_throw ?_))
  refine wpAny_bind (wpAny_isInstance (T := "StopIteration") (b := true) ⟨_, Heap.get?_push_size _ rfl, rfl⟩ isSubtype_stop ?_)
  exact wpAny_pure (hQ _ (((Heap.SameBut.update ..).extBut.push _).push _))
theorem next_intE {sl : Nat} {Q : Option Value → Shared → Prop} (hh : A.handled = none) (hi : IterAt s.heap it a (.int sl 0) i es.size ep) (hs : SetAt s.heap a es ep t)
    (hn : ∀ (A' : Around) (Q' : Option (Value × Nat) → Shared → Prop) (E' : Value → Shared → Prop), Q' none s → wpAny (model prog w) A' (setNext a sl i ep) Q' E' s)
    (hQ : ∀ h', Heap.ExtBut it s.heap h' → Q none { s with heap := h' }) : wpAny (model prog w) A (pyNext (.ref it)) Q E s := by
  obtain ⟨o, ho, hc, hd⟩ := id hi
  obtain ⟨os, hos, hex, hds, hf⟩ := id hs
  unfold pyNext
  refine wpAny_bind (wpAny_attempt (wpAny_callSpecial?_slot (name := Str.ofString "__next__") hi.type sl_next (wpAny_call_entry sl_next hi.type en_next ?_ (ar_next _))))
  unfold Builtin.«set_iterator.__next__»
  refine wpAny_bind (wpAny_pure ?_)
  refine wpAny_bind (wpAny_fieldsOf ho hd ?_)
  dsimp only
  refine wpAny_bind (wpAny_setEntries_of hos hds hf ?_)
  rw [if_neg (by simp)]
  refine wpAny_bind ?_
  simp only [Int.toNat_natCast]
  refine hn _ _ _ ?_
  dsimp only
  exact stopped hh ho hd (by simp) _ hQ
theorem next_drawn {f : Addr} {ps : List Nat} {p : Nat} {e : Int × Value} {Q : Option Value → Shared → Prop} (hi : IterAt s.heap it a (.ref f) i es.size ep) (hs : SetAt s.heap a es ep t) (hf' : s.heap.IsTuple f (ps.map fun (i : Nat) => rawInt i).toArray)
    (hp : ps[i]? = some p) (he : es[p]? = some e) (hQ : ∀ h', IterAt h' it a (.ref f) (i + 1) es.size ep → Heap.SameBut it s.heap h' → Q (some e.2) { s with heap := h' }) :
    wpAny (model prog w) A (pyNext (.ref it)) Q E s := by
  obtain ⟨o, ho, hc, hd⟩ := id hi
  obtain ⟨os, hos, hex, hds, hf⟩ := id hs
  unfold pyNext
  refine wpAny_bind (wpAny_attempt (wpAny_callSpecial?_slot (name := Str.ofString "__next__") hi.type sl_next (wpAny_call_entry sl_next hi.type en_next ?_ (ar_next _))))
  unfold Builtin.«set_iterator.__next__»
  refine wpAny_bind (wpAny_pure ?_)
  refine wpAny_bind (wpAny_fieldsOf ho hd ?_)
  dsimp only
  refine wpAny_bind (wpAny_setEntries_of hos hds hf ?_)
  rw [if_neg (by simp)]
  obtain ⟨of, hof, hcf, nf, hdf⟩ := id hf'
  refine wpAny_bind (wpAny_seqItems hof hdf ?_)
  have hx : (ps.map fun (i : Nat) => rawInt i).toArray[(i : Int).toNat]? = some (.int p 0) := by
    rw [Int.toNat_natCast, List.getElem?_toArray, List.getElem?_map, hp]
    rfl
  dsimp only
  rw [hx]
  dsimp only
  refine wpAny_bind ?_
  unfold setNextDrawn
  refine wpAny_bind (wpAny_setState_of hos hds hf ?_)
  dsimp only
  rw [if_neg (by simp)]
  simp only [Int.toNat_natCast, he]
  refine wpAny_pure ?_
  refine wpAny_bind (wpAny_setField ho hd (by simp) ?_)
  refine wpAny_pure ⟨_, rfl, wpAny_pure (hQ _ ⟨_, Heap.get?_update_self _ ho (Obj.isFreed_of_fields (Obj.data_mapFields hd _)), (Obj.cls_mapFields ..).trans hc, ?_⟩ (Heap.SameBut.update ..))⟩
  rw [Obj.data_mapFields hd]
  simp [rawInt]
theorem next_drawnE {f : Addr} {ps : List Nat} {Q : Option Value → Shared → Prop} (hh : A.handled = none) (hi : IterAt s.heap it a (.ref f) i es.size ep) (hs : SetAt s.heap a es ep t) (hf' : s.heap.IsTuple f (ps.map fun (i : Nat) => rawInt i).toArray)
    (hp : ps[i]? = none) (hQ : ∀ h', Heap.ExtBut it s.heap h' → Q none { s with heap := h' }) : wpAny (model prog w) A (pyNext (.ref it)) Q E s := by
  obtain ⟨o, ho, hc, hd⟩ := id hi
  obtain ⟨os, hos, hex, hds, hf⟩ := id hs
  unfold pyNext
  refine wpAny_bind (wpAny_attempt (wpAny_callSpecial?_slot (name := Str.ofString "__next__") hi.type sl_next (wpAny_call_entry sl_next hi.type en_next ?_ (ar_next _))))
  unfold Builtin.«set_iterator.__next__»
  refine wpAny_bind (wpAny_pure ?_)
  refine wpAny_bind (wpAny_fieldsOf ho hd ?_)
  dsimp only
  refine wpAny_bind (wpAny_setEntries_of hos hds hf ?_)
  rw [if_neg (by simp)]
  obtain ⟨of, hof, hcf, nf, hdf⟩ := id hf'
  refine wpAny_bind (wpAny_seqItems hof hdf ?_)
  have hx : (ps.map fun (i : Nat) => rawInt i).toArray[(i : Int).toNat]? = none := by
    rw [Int.toNat_natCast, List.getElem?_toArray, List.getElem?_map, hp]
    rfl
  dsimp only
  rw [hx]
  dsimp only
  refine wpAny_bind (wpAny_setField ho hd (by simp) ?_)
  have h1 : (s.heap.update it (Obj.mapFields (·.setIfInBounds 0 (rawInt 0)))).get? it = some (Obj.mapFields (·.setIfInBounds 0 (rawInt 0)) o) := Heap.get?_update_self _ ho (Obj.isFreed_of_fields (Obj.data_mapFields hd _))
  exact stopped (s := { s with heap := s.heap.update it (Obj.mapFields (·.setIfInBounds 0 (rawInt 0))) }) hh h1 (Obj.data_mapFields hd _) (by simp) _ fun h' x => hQ h' fun b o' nb e => x b o' nb ((Heap.get?_update_ne _ _ _ _ nb).trans e)
theorem erase_perm {α : Type} : ∀ {l : List α} {i : Nat} (h : i < l.length), (l[i] :: l.eraseIdx i).Perm l
  | x :: xs, 0, h => .refl _
  | x :: xs, i + 1, h => by
    have h' : i < xs.length := by simpa using h
    show (xs[i] :: x :: xs.eraseIdx i).Perm (x :: xs)
    exact (List.Perm.swap x xs[i] _).trans ((erase_perm h').cons x)
theorem draw_ok {α : Type} : ∀ (n : Nat) (xs : List α) (s : Shared) (Q : List α → Shared → Prop), n = xs.length → (∀ ys d, ys.Perm xs → Q ys { s with drawn := d }) → wpAny (model prog w) A (drawOrder n xs) Q E s
  | 0, xs, s, Q, hl, h => by
    have : xs = [] := List.length_eq_zero_iff.mp hl.symm
    subst this
    exact wpAny_pure (h [] s.drawn .nil)
  | n + 1, [], s, Q, hl, h => by cases hl
  | n + 1, x :: xs, s, Q, hl, h => by
    unfold drawOrder
    refine wpAny_bind (choose_ok (by simp) fun k d hk => ?_)
    rw [List.getElem?_eq_getElem hk]
    dsimp only
    refine wpAny_bind (draw_ok n _ _ _ (by rw [List.length_eraseIdx_of_lt hk]; simp at hl ⊢; omega) fun ys d' hy => wpAny_pure ?_)
    exact h _ d' ((hy.cons _).trans (erase_perm hk))
theorem pick_go {α : Type} (nx : Nat → Nat) : ∀ (f k : Nat) (l : List α) (out : Array α), f = l.length → (pickOrder.go nx f k l out).toList.Perm (out.toList ++ l)
  | 0, k, l, out, hl => by
    have : l = [] := List.length_eq_zero_iff.mp hl.symm
    subst this
    unfold pickOrder.go
    rw [List.append_nil]
  | f + 1, k, l, out, hl => by
    have hp : nx k % l.length < l.length := Nat.mod_lt _ (by omega)
    unfold pickOrder.go
    rw [List.getElem?_eq_getElem hp]
    dsimp only
    refine (pick_go nx f (k + 1) _ _ (by rw [List.length_eraseIdx_of_lt hp]; omega)).trans ?_
    rw [Array.toList_push, List.append_assoc]
    exact (erase_perm hp).append_left out.toList
theorem pick_perm {α : Type} (nx : Nat → Nat) (xs : Array α) : (pickOrder nx xs).toList.Perm xs.toList := by
  have := pick_go nx xs.size 0 xs.toList #[] (by simp)
  simpa [pickOrder] using this
end
end SetM

namespace SetM
open PySem PyProof.Rows
def drw (es : Array (Int × Value)) (t : SetTable) : Bool := !t.plain && decide (es.size > 1)
def slotAt (t : SetTable) (i : Nat) : Nat := match i with
  | 0 => 0
  | i + 1 => t.place.getD i 0 + 1
section
variable {prog : Program} {w : World} {A : Around} {E : Value → Shared → Prop} {s : Shared} {it a : Addr} {es : Array (Int × Value)} {ep i : Nat} {t : SetTable}
theorem below_slot {t : SetTable} (u : Up t.place) {i : Nat} (h : i ≤ t.place.size) : SetTable.below t.place (slotAt t i) = i := by
  cases i with
  | zero => exact below_zero u
  | succ i =>
    have hi : i < t.place.size := h
    show SetTable.below t.place (t.place.getD i 0 + 1) = i + 1
    rw [Array.getD_eq_getD_getElem?, Array.getElem?_eq_getElem hi]
    exact below_next u hi
theorem fits_size {t : SetTable} {n : Nat} (h : t.fits n = true) : t.place.size = n := by
  unfold SetTable.fits at h
  simp only [Bool.and_eq_true, beq_iff_eq] at h
  exact h.1
theorem next_table {k : Nat} {Q : Option (Value × Nat) → Shared → Prop} (hs : SetAt s.heap a es ep t) (hT : byT w = false) (hD : drw es t = false) (g : Good true t) (hi : i < es.size) (hQ : Q (some ((es[i]).2, slotAt t (i + 1))) s) :
    wpAny (model prog w) A (setNext a (slotAt t i) k ep) Q E s := by
  obtain ⟨o, ho, hex, hd, hf⟩ := hs
  have hz := fits_size hf
  unfold setNext
  refine wpAny_bind (wpAny_setState_of ho hd hf ?_)
  refine wpAny_bind (wpAny_bind (wpAny_askSetting (wpAny_pure ?_)))
  show wpAny _ _ (if byT w = true then _ else _) _ _ _
  rw [if_neg (by rw [hT]; exact Bool.false_ne_true)]
  show wpAny _ _ (if drw es t = true then _ else _) _ _ _
  rw [if_neg (by rw [hD]; exact Bool.false_ne_true)]
  refine wpAny_bind ?_
  show wpAny _ _ (if (!t.led && !es.isEmpty) = true then _ else _) _ _ _
  rw [if_neg (by rw [g.led]; simp)]
  refine wpAny_pure (wpAny_pure ?_)
  rw [below_slot g.up (by omega), Array.getElem?_eq_getElem hi, Array.getElem?_eq_getElem (show i < t.place.size by omega)]
  have e : slotAt t (i + 1) = t.place[i]'(by omega) + 1 := by
    show t.place.getD i 0 + 1 = _
    rw [Array.getD_eq_getD_getElem?, Array.getElem?_eq_getElem (show i < t.place.size by omega)]
    rfl
  rw [e] at hQ
  exact hQ
theorem next_tableE {k : Nat} {Q : Option (Value × Nat) → Shared → Prop} (hs : SetAt s.heap a es ep t) (hT : byT w = false) (hD : drw es t = false) (g : Good true t) (hQ : Q none s) :
    wpAny (model prog w) A (setNext a (slotAt t es.size) k ep) Q E s := by
  obtain ⟨o, ho, hex, hd, hf⟩ := hs
  have hz := fits_size hf
  unfold setNext
  refine wpAny_bind (wpAny_setState_of ho hd hf ?_)
  refine wpAny_bind (wpAny_bind (wpAny_askSetting (wpAny_pure ?_)))
  show wpAny _ _ (if byT w = true then _ else _) _ _ _
  rw [if_neg (by rw [hT]; exact Bool.false_ne_true)]
  show wpAny _ _ (if drw es t = true then _ else _) _ _ _
  rw [if_neg (by rw [hD]; exact Bool.false_ne_true)]
  refine wpAny_bind ?_
  show wpAny _ _ (if (!t.led && !es.isEmpty) = true then _ else _) _ _ _
  rw [if_neg (by rw [g.led]; simp)]
  refine wpAny_pure (wpAny_pure ?_)
  rw [below_slot g.up (by omega), Array.getElem?_eq_none (Nat.le_refl es.size)]
  exact hQ
abbrev picked (w : World) (a : Addr) (ep : Nat) (es : Array (Int × Value)) : Array (Int × Value) := pickOrder (w.params.setOrder a ep) es
theorem next_text {sl : Nat} {Q : Option (Value × Nat) → Shared → Prop} (hs : SetAt s.heap a es ep t) (hT : byT w = true) (hQ : Q (((picked w a ep es)[i]?).map fun e => (e.2, sl)) s) :
    wpAny (model prog w) A (setNext a sl i ep) Q E s := by
  obtain ⟨o, ho, hex, hd, hf⟩ := hs
  unfold setNext
  refine wpAny_bind (wpAny_setState_of ho hd hf ?_)
  refine wpAny_bind (wpAny_bind (wpAny_askSetting (wpAny_pure ?_)))
  show wpAny _ _ (if byT w = true then _ else _) _ _ _
  rw [if_pos hT]
  rw [if_neg (by simp)]
  refine wpAny_bind ?_
  unfold setWalk
  refine wpAny_bind (wpAny_setState_of ho hd hf ?_)
  refine wpAny_bind (wpAny_bind (wpAny_askSetting (wpAny_pure ?_)))
  show wpAny _ _ (if byT w = true then _ else _) _ _ _
  rw [if_pos hT]
  exact wpAny_bind (wpAny_askSetting (wpAny_pure (wpAny_pure hQ)))
theorem iter_set {Q : Value → Shared → Prop} (hs : SetAt s.heap a es ep t) (hz : es.size ≤ sizeLine)
    (h1 : (!byT w && drw es t) = false → Q (.ref s.heap.objs.size) { s with heap := s.heap.push { cls := .type "set_iterator", data := .fields #[.int 0 0, .int 0 0, .ref a, .int es.size 0, .int ep 0] } })
    (h2 : (!byT w && drw es t) = true → ∀ (ps : List Nat) d, ps.Perm (List.range es.size) → Q (.ref (s.heap.objs.size + 1)) { s with
      heap := (s.heap.push { cls := .type "tuple", data := .seq (ps.map fun (i : Nat) => rawInt i).toArray }).push { cls := .type "set_iterator", data := .fields #[.ref s.heap.objs.size, .int 0 0, .ref a, .int es.size 0, .int ep 0] }, drawn := d }) :
    wpAny (model prog w) A (pyIter (.ref a)) Q E s := by
  obtain ⟨o, ho, hex, hd, hf⟩ := id hs
  have hT : s.TypeIs (.ref a) "set" := ⟨o, ho, hex.1⟩
  refine wpAny_pyIter_slot hT PySem.F.slot_set_iter (wpAny_call_entry PySem.F.slot_set_iter hT en_iter ?_ (PySem.F.args_set_iter_1 _))
  unfold Builtin.«frozenset.__iter__»
  refine wpAny_bind ?_
  unfold Builtin.Frozenset.slot0
  refine wpAny_bind (wpAny_pure ?_)
  show wpAny _ _ (pure a) _ _ _
  refine wpAny_pure (wpAny_bind ?_)
  unfold Builtin.Frozenset.sizeOf
  refine wpAny_bind (wpAny_setEntries_of ho hd hf (wpAny_pure (wpAny_bind ?_)))
  refine wpAny_bind (wpAny_setState_of ho hd hf ?_)
  refine wpAny_bind (wpAny_bind (wpAny_askSetting (wpAny_pure (wpAny_pure ?_))))
  show wpAny _ _ (if (!byT w && drw es t) = true then _ else _) _ _ _
  cases c : (!byT w && drw es t) with
  | false =>
    rw [if_neg Bool.false_ne_true]
    refine wpAny_bind (wpAny_pure (wpAny_bind (wpAny_setEpoch_of ho hd hf ?_)))
    refine wpAny_bind (wpAny_newObj_type (wpAny_pure ⟨_, rfl, "set_iterator", _, ⟨_, Heap.get?_push_size _ rfl, rfl⟩, sl_next.lookup, ?_⟩))
    simpa [rawInt] using h1 c
  | true =>
    rw [if_pos rfl]
    refine wpAny_bind (draw_ok _ _ _ _ (by simp) fun ps d hp => ?_)
    have hl : (ps.map fun (i : Nat) => rawInt (i : Int)).length ≤ sizeLine := by rw [List.length_map, hp.length_eq, List.length_range]; exact hz
    refine wpAny_bind (wpAny_newTuple ?_ hl)
    have ho2 : (s.heap.push { cls := .type "tuple", data := .seq (ps.map fun (i : Nat) => rawInt (i : Int)).toArray }).get? a = some o := Heap.get?_push_of_some _ ho
    refine wpAny_bind (wpAny_setEpoch_of ho2 hd hf ?_)
    refine wpAny_bind (wpAny_newObj_type (wpAny_pure ⟨_, rfl, "set_iterator", _, ⟨_, Heap.get?_push_size _ rfl, rfl⟩, sl_next.lookup, ?_⟩))
    have := h2 c ps d hp
    simpa [rawInt, Heap.size_push] using this
end
end SetM

namespace SetM
open PySem PyProof.Rows PySem.W
section
variable {prog : Program} {w : World} {A : Around} {E : Value → Shared → Prop} {s : Shared} {a : Addr} {es : Array (Int × Value)} {ep : Nat} {t : SetTable}
theorem en_self : entryFor table "set_iterator.__iter__" = some Builtin.«dict_keyiterator.__iter__» := entryFor_alias (id' := "dict_keyiterator.__iter__") (by kernel_rfl) rfl (by decide +kernel) (by kernel_rfl)
theorem ar_self (a : Value) : argsOk "set_iterator.__iter__" ⟨[a], []⟩ := by
  unfold argsOk; rw [signature?_of (id := "set_iterator.__iter__") (n := ['_', '_', 'r', 'e', 't', 'i', '_', '_']) (o := ['r', 'o', 't', 'a', 'r', 'e', 't', 'i', '_', 't', 'e', 's']) (by kernel_rfl) ow_si]; kernel_rfl
theorem iter_self {it : Addr} {f : Value} {i n : Nat} {Q : Value → Shared → Prop} (hi : IterAt s.heap it a f i n ep) (h : Q (.ref it) s) : wpAny (model prog w) A (pyIter (.ref it)) Q E s := by
  refine wpAny_pyIter_slot hi.type sl_self (wpAny_call_entry sl_self hi.type en_self ?_ (ar_self _))
  show wpAny _ _ (ret (.ref it)) _ _ s
  exact wpAny_pure ⟨_, rfl, "set_iterator", _, hi.type, sl_next.lookup, h⟩
theorem walk_table (hh : A.handled = none) (I : Addr) (hne : a ≠ I) (hT : byT w = false) (hD : drw es t = false) (g : Good true t) :
    Walks prog w A I [I, a] [I] es.size (fun i v => ∃ e, es[i]? = some e ∧ v = e.2) (fun i h => IterAt h I a (.int (slotAt t i) 0) i es.size ep ∧ SetAt h a es ep t) where
  sub := fun b hb => by simp at hb; simp [hb]
  frame := fun _ _ _ st hk => ⟨st.1.keeps fun o e => hk I (by simp) o e, st.2.keeps fun o e => hk a (by simp) o e⟩
  item := fun i s Q E hi st hQ => by
    refine next_int st.1 st.2 hne (fun A' Q' E' q => next_table st.2 hT hD g hi q) fun h' it' sb => ?_
    exact hQ _ h' s.toks ⟨es[i], Array.getElem?_eq_getElem hi, rfl⟩ ⟨it', st.2.keeps fun o e => (sb.2 a hne).trans e⟩ fun b o hb e => (sb.2 b fun z => hb (by simp [z])).trans e
  done := fun s Q E st hQ => next_intE hh st.1 st.2 (fun A' Q' E' q => next_tableE st.2 hT hD g q) fun h' x => hQ h' s.toks fun b o hb e => x b o (fun z => hb (by simp [z])) e
  self := fun _ _ _ _ st hQ => iter_self st.1 hQ
theorem walk_text (hh : A.handled = none) (I : Addr) (hne : a ≠ I) (hT : byT w = true) :
    Walks prog w A I [I, a] [I] es.size (fun i v => ∃ e, (picked w a ep es)[i]? = some e ∧ v = e.2) (fun i h => IterAt h I a (.int (0 : Nat) 0) i es.size ep ∧ SetAt h a es ep t) where
  sub := fun b hb => by simp at hb; simp [hb]
  frame := fun _ _ _ st hk => ⟨st.1.keeps fun o e => hk I (by simp) o e, st.2.keeps fun o e => hk a (by simp) o e⟩
  item := fun i s Q E hi st hQ => by
    have hz : (picked w a ep es).size = es.size := by rw [← Array.length_toList, (pick_perm _ es).length_eq, Array.length_toList]
    have hp : i < (picked w a ep es).size := by omega
    refine next_int (x := (picked w a ep es)[i].2) (nx := 0) st.1 st.2 hne (fun A' Q' E' q => next_text st.2 hT (by rw [Array.getElem?_eq_getElem hp]; exact q)) fun h' it' sb => ?_
    exact hQ _ h' s.toks ⟨_, Array.getElem?_eq_getElem hp, rfl⟩ ⟨it', st.2.keeps fun o e => (sb.2 a hne).trans e⟩ fun b o hb e => (sb.2 b fun z => hb (by simp [z])).trans e
  done := fun s Q E st hQ => by
    have hz : (picked w a ep es).size = es.size := by rw [← Array.length_toList, (pick_perm _ es).length_eq, Array.length_toList]
    exact next_intE hh st.1 st.2 (fun A' Q' E' q => next_text st.2 hT (by rw [Array.getElem?_eq_none (by omega)]; exact q)) fun h' x => hQ h' s.toks fun b o hb e => x b o (fun z => hb (by simp [z])) e
  self := fun _ _ _ _ st hQ => iter_self st.1 hQ
theorem walk_drawn {f : Addr} {ps : List Nat} (hh : A.handled = none) (I : Addr) (hne : a ≠ I) (hnf : f ≠ I) (hp : ps.Perm (List.range es.size)) :
    Walks prog w A I [I, a, f] [I] es.size (fun i v => ∃ p e, ps[i]? = some p ∧ es[p]? = some e ∧ v = e.2) (fun i h => IterAt h I a (.ref f) i es.size ep ∧ SetAt h a es ep t ∧ h.IsTuple f (ps.map fun (i : Nat) => rawInt i).toArray) where
  sub := fun b hb => by simp at hb; simp [hb]
  frame := fun _ _ _ st hk => ⟨st.1.keeps fun o e => hk I (by simp) o e, st.2.1.keeps fun o e => hk a (by simp) o e, let ⟨o, p, r⟩ := st.2.2; ⟨o, hk f (by simp) o p, r⟩⟩
  item := fun i s Q E hi st hQ => by
    have hl : ps.length = es.size := by rw [hp.length_eq, List.length_range]
    have h1 : i < ps.length := by omega
    have h2 : ps[i] < es.size := List.mem_range.mp (hp.mem_iff.mp (List.getElem_mem h1))
    refine next_drawn st.1 st.2.1 st.2.2 (List.getElem?_eq_getElem h1) (Array.getElem?_eq_getElem h2) fun h' it' sb => ?_
    exact hQ _ h' s.toks ⟨_, _, List.getElem?_eq_getElem h1, Array.getElem?_eq_getElem h2, rfl⟩ ⟨it', st.2.1.keeps fun o e => (sb.2 a hne).trans e, let ⟨o, p, r⟩ := st.2.2; ⟨o, (sb.2 f hnf).trans p, r⟩⟩ fun b o hb e => (sb.2 b fun z => hb (by simp [z])).trans e
  done := fun s Q E st hQ => by
    have hl : ps.length = es.size := by rw [hp.length_eq, List.length_range]
    exact next_drawnE hh st.1 st.2.1 st.2.2 (List.getElem?_eq_none (by omega)) fun h' x => hQ h' s.toks fun b o hb e => x b o (fun z => hb (by simp [z])) e
  self := fun _ _ _ _ st hQ => iter_self st.1 hQ
def vAt (es : Array (Int × Value)) (p : Nat) : Value := (es.getD p (0, .none)).2
theorem vAt_lt {es : Array (Int × Value)} {p : Nat} (h : p < es.size) : vAt es p = es[p].2 := by
  unfold vAt
  rw [Array.getD_eq_getD_getElem?, Array.getElem?_eq_getElem h]
  rfl
theorem vals_range (es : Array (Int × Value)) : es.toList.map (·.2) = (List.range es.size).map (vAt es) := by
  refine List.ext_getElem (by simp) fun i h1 h2 => ?_
  have h : i < es.size := by simpa using h1
  rw [List.getElem_map, List.getElem_map, List.getElem_range, vAt_lt h]
  simp
theorem items_table {es : Array (Int × Value)} {acc : Array Value} {n : Nat} (hn : es.size = n) (h : ItemsOf (fun i v => ∃ e, es[i]? = some e ∧ v = e.2) acc n) : acc.toList = es.toList.map (·.2) := by
  refine List.ext_getElem (by simp [h.1, hn]) fun i h1 h2 => ?_
  have h3 : i < acc.size := by simpa using h1
  obtain ⟨e, he, hv⟩ := h.2 i acc[i] (Array.getElem?_eq_getElem h3)
  have h4 : i < es.size := by simpa using h2
  rw [Array.getElem?_eq_getElem h4] at he
  cases he
  simpa using hv
theorem items_drawn {es : Array (Int × Value)} {acc : Array Value} {ps : List Nat} (hp : ps.Perm (List.range es.size)) (h : ItemsOf (fun i v => ∃ p e, ps[i]? = some p ∧ es[p]? = some e ∧ v = e.2) acc es.size) : acc.toList.Perm (es.toList.map (·.2)) := by
  have hl : ps.length = es.size := by rw [hp.length_eq, List.length_range]
  have e : acc.toList = ps.map (vAt es) := by
    refine List.ext_getElem (by simp [h.1, hl]) fun i h1 h2 => ?_
    have h3 : i < acc.size := by simpa using h1
    obtain ⟨p, e, hp', he, hv⟩ := h.2 i acc[i] (Array.getElem?_eq_getElem h3)
    have h4 : i < ps.length := by simpa using h2
    rw [List.getElem?_eq_getElem h4] at hp'
    cases hp'
    obtain ⟨h5, h6⟩ := Array.getElem?_eq_some_iff.mp he
    rw [List.getElem_map, vAt_lt h5, h6, ← hv]
    simp
  rw [e, vals_range]
  exact hp.map _
structure Pk (prog : Program) (w : World) (A : Around) (s s1 : Shared) (a I : Addr) (es : Array (Int × Value)) (fp : List Addr) (P : Nat → Value → Prop) (St : Nat → Heap → Prop) : Prop where
  walk : Walks prog w A I fp [I] es.size P St
  at0 : St 0 s1.heap
  old : ∀ b o, s.heap.get? b = some o → s1.heap.get? b = some o
  new : s.heap.get? I = none
  fps : ∀ b ∈ fp, b = a ∨ s.heap.get? b = none
  same : s1 = { s with heap := s1.heap, drawn := s1.drawn }
  perm : ∀ acc, ItemsOf P acc es.size → acc.toList.Perm (es.toList.map (·.2))
theorem iterG {Q : Value → Shared → Prop} (hh : A.handled = none) (hs : SetAt s.heap a es ep t) (hz : es.size ≤ sizeLine) (g : Good (!byT w) t)
    (h : ∀ I s1 fp P St, Pk prog w A s s1 a I es fp P St → Q (.ref I) s1) : wpAny (model prog w) A (pyIter (.ref a)) Q E s := by
  have la : a < s.heap.objs.size := let ⟨o, p, _⟩ := hs; Heap.lt_size p
  refine iter_set (t := t) hs hz (fun c => ?_) (fun c ps d hp => ?_)
  · have hne : a ≠ s.heap.objs.size := Nat.ne_of_lt la
    have st : IterAt (s.heap.push { cls := .type "set_iterator", data := .fields #[.int 0 0, .int 0 0, .ref a, .int es.size 0, .int ep 0] }) s.heap.objs.size a (.int (0 : Nat) 0) 0 es.size ep := ⟨_, Heap.get?_push_size _ rfl, rfl, rfl⟩
    have hs1 : SetAt (s.heap.push { cls := .type "set_iterator", data := .fields #[.int 0 0, .int 0 0, .ref a, .int es.size 0, .int ep 0] }) a es ep t := hs.keeps fun o e => Heap.get?_push_of_some _ e
    have nn : s.heap.get? s.heap.objs.size = none := Heap.get?_none_of_le (Nat.le_refl _)
    have fp : ∀ b ∈ [s.heap.objs.size, a], b = a ∨ s.heap.get? b = none := fun b hb => by
      rcases List.mem_cons.mp hb with rfl | hb
      · exact .inr nn
      · exact .inl (List.mem_singleton.mp hb)
    cases hT : byT w with
    | true =>
      exact h _ _ _ _ _ ⟨walk_text (t := t) (ep := ep) hh _ hne hT, ⟨st, hs1⟩, fun b o e => Heap.get?_push_of_some _ e, nn, fp, rfl, fun acc x => by
        have hz : (picked w a ep es).size = es.size := by rw [← Array.length_toList, (pick_perm _ es).length_eq, Array.length_toList]
        rw [items_table hz x]
        exact (pick_perm _ es).map _⟩
    | false =>
      rw [hT] at g c
      have hD : drw es t = false := by simpa using c
      exact h _ _ _ _ _ ⟨walk_table (t := t) (ep := ep) hh _ hne hT hD g, ⟨st, hs1⟩, fun b o e => Heap.get?_push_of_some _ e, nn, fp, rfl, fun acc x => by rw [items_table rfl x]⟩
  · have sz : (s.heap.push { cls := .type "tuple", data := .seq (ps.map fun (i : Nat) => rawInt i).toArray }).objs.size = s.heap.objs.size + 1 := Heap.size_push ..
    have n1 : s.heap.get? (s.heap.objs.size + 1) = none := Heap.get?_none_of_le (Nat.le_succ _)
    have n0 : s.heap.get? s.heap.objs.size = none := Heap.get?_none_of_le (Nat.le_refl _)
    have st : IterAt ((s.heap.push { cls := .type "tuple", data := .seq (ps.map fun (i : Nat) => rawInt i).toArray }).push { cls := .type "set_iterator", data := .fields #[.ref s.heap.objs.size, .int 0 0, .ref a, .int es.size 0, .int ep 0] }) (s.heap.objs.size + 1) a (.ref s.heap.objs.size) 0 es.size ep :=
      ⟨{ cls := .type "set_iterator", data := .fields #[.ref s.heap.objs.size, .int 0 0, .ref a, .int es.size 0, .int ep 0] }, by rw [← sz]; exact Heap.get?_push_size _ rfl, rfl, rfl⟩
    refine h _ _ _ _ _ ⟨walk_drawn (t := t) (ep := ep) (f := s.heap.objs.size) hh (s.heap.objs.size + 1) (Nat.ne_of_lt (Nat.lt_succ_of_lt la)) (Nat.ne_of_lt (Nat.lt_succ_self _)) hp, ⟨st, hs.keeps fun o e => Heap.get?_push_of_some _ (Heap.get?_push_of_some _ e), _, Heap.get?_push_of_some _ (Heap.get?_push_size _ rfl), rfl, _, rfl⟩, fun b o e => Heap.get?_push_of_some _ (Heap.get?_push_of_some _ e), n1, fun b hb => ?_, rfl, fun acc x => items_drawn hp x⟩
    rcases List.mem_cons.mp hb with rfl | hb
    · exact .inr n1
    · rcases List.mem_cons.mp hb with rfl | hb
      · exact .inl rfl
      · rw [List.mem_singleton.mp hb]
        exact .inr n0
end
end SetM

namespace SetM
open PySem PyProof.Rows PySem.W
section
variable {prog : Program} {w : World} {A : Around} {E : Value → Shared → Prop} {s : Shared} {a : Addr} {es : Array (Int × Value)} {ep : Nat} {t : SetTable}
theorem hint_set {Q : Bool → Shared → Prop} (hT : s.TypeIs (.ref a) "set") (h : Q false s) : wpAny (model prog w) A (Builtin.List.listLengthHint (.ref a)) Q E s := by
  unfold Builtin.List.listLengthHint
  refine wpAny_bind (wpAny_specialOf hT PySem.F.slot_set_len.lookup ?_)
  generalize hid : ("set.__len__" : String) = id0
  wp_delta
  rw [show splitId id0 = some ("set", "__len__") from by subst hid; decide +kernel]
  subst hid
  refine wpAny_bind (wpAny_isInstance (T := "set") (b := true) hT (by rw [isSubtype_type]; kernel_rfl) ?_)
  refine wpAny_ite_split (fun hab => absurd hab (by decide)) (fun _ => ?_)
  refine wpAny_ite_split (fun _ => ?_) (fun hab => absurd (by decide +kernel) hab)
  refine wpAny_bind (wpAny_typeOf hT ?_)
  exact wpAny_pure h
theorem extendG {R : Result → Shared → Prop} (hh : A.handled = none) (hs : SetAt s.heap a es ep t) (hz : es.size ≤ sizeLine) (g : Good (!byT w) t) (S : Addr) (hSa : S ≠ a) (res : Value) (c₀ : Nat) (hS : s.heap.get? S = some { cls := .type "list", data := .seq #[] c₀ })
    (hR : ∀ h' tk d acc' c', (∀ b o, b ≠ S → s.heap.get? b = some o → h'.get? b = some o) → h'.get? S = some { cls := .type "list", dict := none, data := .seq acc' c', slots := #[] } → acc'.toList.Perm (es.toList.map (·.2)) → R (.ok (.ret res)) { s with heap := h', toks := tk, drawn := d }) :
    wpAny (model prog w) A.in1 (Builtin.List.listExtendWith (.ref S) (.ref a) res)
      (fun fin s' => match fin with | .done f => R (.ok f) s' | .again c' => c'.quiet = true ∧ codeAny (model prog w) A c' R s') (fun e s' => R (.error e) s') s := by
  obtain ⟨o, ho, hex, hd, hf⟩ := id hs
  have hT : s.TypeIs (.ref a) "set" := ⟨o, ho, hex.1⟩
  unfold Builtin.List.listExtendWith
  refine wpAny_bind (wpAny_typeOf (T := "set") hT ?_)
  have h1 : Builtin.List.listSameRef (.ref S) (.ref a) = false := by simp [Builtin.List.listSameRef, hSa]
  have h2 : (Value.type "set" == Value.type "list") = false := by decide
  have h3 : (Value.type "set" == Value.type "tuple") = false := by decide
  simp only [h1, h2, h3, Bool.or_false, Bool.false_eq_true, if_false]
  refine wpAny_bind (iterG (A := A.in1) hh hs hz g fun I s1 fp P St pk => ?_)
  have e1 := pk.same
  have hSf : S ∉ fp := fun z => by
    rcases pk.fps S z with y | y
    · exact hSa y
    · rw [hS] at y; cases y
  have hSI : S ≠ I := fun z => by
    have := pk.new
    rw [← z, hS] at this
    cases this
  have hS1 := pk.old _ _ hS
  have key : ∀ (h : Heap) (c₁ tk : Nat), St 0 h → (∀ b o, b ≠ S → s.heap.get? b = some o → h.get? b = some o) → h.get? S = some { cls := .type "list", data := .seq #[] c₁ } →
      codeAny (model prog w) A (.builtin "list.extend.loop" ⟨[.ref S, .ref I, res], []⟩) R { s1 with heap := h, toks := tk } := by
    intro h c₁ tk hst hk hS₁
    refine codeAny_extend_loopS pk.walk.toS hz S hSf res es.size 0 _ #[] c₁ rfl (Nat.zero_le _) hst hS₁ (ItemsOf.nil _) fun s' acc' c' hm hS' hacc => ?_
    rw [Moved.eq_with hm, e1]
    refine hR s'.heap s'.toks s1.drawn acc' c' (fun b o hb e => hm.heap b o (fun hmem => ?_) (hk b o hb e)) hS' (pk.perm _ hacc)
    rcases List.mem_cons.mp hmem with z | z
    · exact hb z
    · have := pk.new
      rw [← List.mem_singleton.mp z, e] at this
      cases this
  have hT1 : s1.TypeIs (.ref a) "set" := ⟨o, pk.old _ _ ho, hex.1⟩
  refine wpAny_bind (wpAny_holding (hint_set hT1 ?_))
  refine wpAny_ite_split (fun _ => ?_) (fun _ => wpAny_pure ⟨plainId_quiet PySem.F.plain_extend_loop _, key _ c₀ _ pk.at0 (fun b o _ e => pk.old _ _ e) hS1⟩)
  refine wpAny_bind (wpAny_rule ?_)
  refine wpAny_bind ?_
  show wpAny _ _ (updateSeq S (·.push .none) >>= fun _ => updateSeq S (·.pop)) _ _ _
  refine wpAny_bind (wpAny_updateSeq hS1 rfl ?_)
  have hS₂ := Heap.get?_update_self (Obj.mapSeq (·.push Value.none)) hS1 rfl
  refine wpAny_updateSeq (hz := by seq_fits) hS₂ rfl ?_
  have hS₃ := Heap.get?_update_self (Obj.mapSeq (·.pop)) hS₂ rfl
  refine wpAny_pure ⟨plainId_quiet PySem.F.plain_extend_loop _, key _ _ _ ?_ (fun b o hb e => ?_) hS₃⟩
  · refine pk.walk.frame 0 _ _ pk.at0 fun b hb o e => ?_
    have hbS : b ≠ S := fun h => hSf (h ▸ hb)
    exact (Heap.get?_update_other _ _ (Ne.symm hbS)).trans ((Heap.get?_update_other _ _ (Ne.symm hbS)).trans e)
  · exact (Heap.get?_update_other _ _ (Ne.symm hb)).trans ((Heap.get?_update_other _ _ (Ne.symm hb)).trans (pk.old _ _ e))
theorem collectG {R : List Value → Shared → Prop} (hh : A.handled = none) (hs : SetAt s.heap a es ep t) (hz : es.size ≤ sizeLine) (g : Good (!byT w) t)
    (h : ∀ (h' : Heap) (tk : Nat) d (acc : Array Value), (∀ b o, s.heap.get? b = some o → h'.get? b = some o) → acc.toList.Perm (es.toList.map (·.2)) → R acc.toList { s with heap := h', toks := tk, drawn := d }) :
    wpAny (model prog w) A (collect (.ref a)) R E s := by
  have la : a < s.heap.objs.size := let ⟨o, p, _⟩ := hs; Heap.lt_size p
  unfold collect
  refine wpAny_bind (wpAny_runValue (codeAny_builtin entry_proto_collect' ?_))
  rw [Around.under_plainId PySem.F.plain_proto_collect _]
  show wpAny _ A.in1 (newList [] >>= fun l => again (.builtin "list.__iadd__" ⟨[l, .ref a], []⟩)) _ _ s
  refine wpAny_bind (wpAny_newObj_type ?_)
  refine wpAny_pure ⟨plainId_quiet PySem.F.plain_list_iadd _, codeAny_builtin entry_list_iadd' ?_⟩
  rw [Around.under_plainId PySem.F.plain_list_iadd _]
  have hS₁ : (s.heap.push { cls := .type "list", data := .seq ([] : List Value).toArray }).get? s.heap.objs.size = some { cls := .type "list", data := .seq #[] } := Heap.get?_push_size _ rfl
  show wpAny _ A.in1 (Builtin.List.listExtendWith (.ref s.heap.objs.size) (.ref a) (.ref s.heap.objs.size)) _ _ _
  have key := extendG (A := A) (prog := prog) (w := w) (s := { s with heap := s.heap.push { cls := .type "list", data := .seq ([] : List Value).toArray } })
    (R := fun (q : Result) (s' : Shared) => ∃ (h' : Heap) (tk : Nat) (d : Drawn) (acc' : Array Value) (c' : Nat), q = .ok (.ret (.ref s.heap.objs.size)) ∧ s' = { s with heap := h', toks := tk, drawn := d } ∧
      (∀ b o, s.heap.get? b = some o → h'.get? b = some o) ∧ h'.get? s.heap.objs.size = some { cls := .type "list", dict := none, data := .seq acc' c', slots := #[] } ∧ acc'.toList.Perm (es.toList.map (·.2)))
    hh (hs.keeps fun o e => Heap.get?_push_of_some _ e) hz g s.heap.objs.size (Nat.ne_of_gt la) (.ref s.heap.objs.size) 0 hS₁
    (fun h' tk d acc' c' hk hS' hacc => ⟨h', tk, d, acc', c', rfl, rfl, fun b o e => hk b o (Nat.ne_of_lt (Heap.lt_size e)) (Heap.get?_push_of_some _ e), hS', hacc⟩)
  refine wpAny_mono key (fun fin s' x => ?_) fun e s' x => ?_
  · cases fin with
    | done f =>
      obtain ⟨h', tk, d, acc', c', e, rfl, hk, hS', hacc⟩ := x
      cases e
      show wpAny _ A (load s.heap.objs.size >>= _) _ _ _
      exact wpAny_bind (wpAny_load hS' (wpAny_pure (h h' tk d acc' hk hacc)))
    | again c₁ =>
      refine ⟨x.1, codeAny_mono x.2 fun q s₂ y => ?_⟩
      obtain ⟨h', tk, d, acc', c', rfl, rfl, hk, hS', hacc⟩ := y
      show wpAny _ A (load s.heap.objs.size >>= _) _ _ _
      exact wpAny_bind (wpAny_load hS' (wpAny_pure (h h' tk d acc' hk hacc)))
  · obtain ⟨_, _, _, _, _, e', _⟩ := x
    cases e'
end
end SetM

namespace L2
open PySem PySem.Spec PyProof.Rows PySem.W SetM
theorem nodup_ofS : ∀ (L D : List Int), D.Nodup → (∀ x ∈ D, x ∈ L) → L.length ≤ D.length → L.Nodup
  | [], D, _, _, _ => List.nodup_nil
  | x :: L, D, hd, hs, hl => by
    have no : ¬ (∀ y ∈ D, y ∈ L) := fun h => by
      have := List.Nodup.length_le_of_subset hd h
      simp only [List.length_cons] at hl
      omega
    have hx : x ∈ D := by
      by_cases c : x ∈ D
      · exact c
      · exact absurd (fun y hy => (List.mem_cons.mp (hs y hy)).elim (fun e => absurd (e ▸ hy) c) id) no
    have ih := nodup_ofS L (D.erase x) (hd.erase x) (fun y hy => by
      have := (hd.mem_erase_iff).mp hy
      exact (List.mem_cons.mp (hs y this.2)).elim (fun e => absurd e this.1) id) (by
      rw [List.length_erase_of_mem hx]
      simp only [List.length_cons] at hl
      omega)
    refine List.nodup_cons.mpr ⟨fun c => no fun y hy => ?_, ih⟩
    exact (List.mem_cons.mp (hs y hy)).elim (fun e => e ▸ c) id
theorem firstMet_nodupS (val : Nat → Int) : ∀ i, (firstMet val i).Nodup
  | 0 => List.nodup_nil
  | i + 1 => by
    rw [firstMet_succ]
    unfold step_dedup
    split
    · exact firstMet_nodupS val i
    · rename_i h
      refine List.nodup_append.mpr ⟨firstMet_nodupS val i, List.nodup_cons.mpr ⟨by simp, List.nodup_nil⟩, fun a ha b hb e => h ?_⟩
      rw [List.mem_singleton.mp hb] at e
      exact List.any_eq_true.mpr ⟨a, ha, by rw [e]; exact beq_self_eq_true _⟩
theorem range_getDS (ns : List Int) : (List.range ns.length).map (fun i => ns.getD i 0) = ns := by
  refine List.ext_getElem (by simp) fun i h1 h2 => ?_
  rw [List.getElem_map, List.getElem_range, List.getD_eq_getElem?_getD, List.getElem?_eq_getElem h2]
  rfl
theorem any_memS {l : List Int} {k : Int} : l.any (· == k) = true ↔ k ∈ l := by
  rw [List.any_eq_true]
  exact ⟨fun ⟨x, h, e⟩ => (beq_iff_eq.mp e) ▸ h, fun h => ⟨k, h, beq_self_eq_true _⟩⟩
def SetE (P : Program) (w : World) (p : Addr) (ns : List Int) (h : Heap) : Prop := ∃ D : List Int, D.Nodup ∧ (∀ k, k ∈ D ↔ k ∈ ns) ∧ SetG P w (!byT w) h p (fun k => D.any (· == k)) D.length
theorem ints_of_valsS : ∀ {ns : List Int} {us : List Value}, Vals (ns.map V.int) us → IntsAre us ns
  | [], _, r => by cases r; exact .nil
  | n :: ns, _, r => by
    cases r with
    | cons r1 r2 =>
      obtain ⟨t, rfl⟩ := r1
      exact .cons n t (ints_of_valsS r2)
theorem call_setL {X : Cx} (hc : X.calm = true) : CallR X (.type "set") (fun xs H Q => ∃ (l : Addr) (ns : List Int), xs = [.ref l] ∧ SqL X.K H l (ns.map V.int) ∧ ns.length < 4000 ∧ ∀ p, H p = none → Q (.ref p) (upd H p (.ext (SetE X.prog X.w p ns)))) := by
  intro pins s σ H xs us Q I rv h
  obtain ⟨l, ns, rfl, hl, hz, q⟩ := h
  obtain ⟨u, rfl, ru⟩ := rv.one
  cases ru
  obtain ⟨its, r', pl, _⟩ := I.list hl
  have hI := ints_of_valsS r'
  have hlen : its.length = ns.length := by rw [← r'.length, List.length_map]
  refine call_setG (items := its.toArray) (ns := ns) (show X.A.handled = none from I.ok.hd hc) pl.isList (by simpa using hI) (by rw [List.size_toArray, hlen]; unfold scanBound; omega) fun h' tk g kp => ?_
  have sz : its.toArray.size = ns.length := by rw [List.size_toArray, hlen]
  rw [sz] at g
  have e : SetE X.prog X.w s.heap.objs.size ns h' := ⟨_, firstMet_nodupS _ _, fun k => by rw [← any_memS, firstMet_any, range_getDS, any_memS], g⟩
  have I2 := I.laid (a := s.heap.objs.size) (o := .ext (SetE X.prog X.w s.heap.objs.size ns)) (h' := h') (t' := tk) (fun b o z => kp b o (Heap.lt_size z) z) (Nat.le_refl _) ⟨e, let ⟨_, _, _, o, _, _, _, p, _⟩ := e; ⟨o, p⟩, fun _ _ ⟨D, d1, d2, d3⟩ k => ⟨D, d1, d2, d3.keeps fun o z => k _ z⟩⟩
  exact ⟨.ref s.heap.objs.size, _, I2, rfl, q _ (I.hok.fresh (Nat.le_refl _))⟩
theorem intKind_shapeS {P : Program} {w : World} {k : Int} {v : Value} (h : (intKind P w).is k v = true) : ∃ t, v = .int k t := by
  have h' : Value.isInt k v = true := h
  cases v with
  | int i t =>
    have e : i = k := by simpa [Value.isInt] using h'
    exact ⟨t, by rw [e]⟩
  | _ => simp [Value.isInt] at h'
theorem ints_allS : ∀ (vs : List Value), (∀ v ∈ vs, ∃ k t, v = Value.int k t) → ∃ ks, IntsAre vs ks
  | [], _ => ⟨[], .nil⟩
  | v :: vs, h => by
    obtain ⟨k, t, rfl⟩ := h v (.head _)
    obtain ⟨ks, r⟩ := ints_allS vs fun v hv => h v (.tail _ hv)
    exact ⟨k :: ks, .cons k t r⟩
theorem ints_memS : ∀ {vs : List Value} {ks : List Int}, IntsAre vs ks → ∀ k, k ∈ ks ↔ ∃ t, Value.int k t ∈ vs
  | _, _, .nil, k => by simp
  | _, _, .cons n t r, k => by
    rw [List.mem_cons, ints_memS r k]
    constructor
    · rintro (rfl | ⟨t', h⟩)
      · exact ⟨t, .head _⟩
      · exact ⟨t', .tail _ h⟩
    · rintro ⟨t', h⟩
      rcases List.mem_cons.mp h with h | h
      · cases h; exact .inl rfl
      · exact .inr ⟨t', h⟩
theorem lt_of_le_nodupS : ∀ {l : List Int}, l.Pairwise (· ≤ ·) → l.Nodup → l.Pairwise (· < ·)
  | [], _, _ => .nil
  | x :: l, h, d => by
    rw [List.pairwise_cons] at h ⊢
    rw [List.nodup_cons] at d
    refine ⟨fun y hy => ?_, lt_of_le_nodupS h.2 d.2⟩
    have := h.1 y hy
    have : x ≠ y := fun e => d.1 (e ▸ hy)
    omega
theorem call_sortedS {X : Cx} (hc : X.calm = true) : CallR X (.builtin "sorted") (fun xs H Q => ∃ (p : Addr) (ns : List Int), xs = [.ref p] ∧ H p = some (.ext (SetE X.prog X.w p ns)) ∧ ns.length < 64 ∧
    ∀ (q : Addr) (ks : List Int), H q = none → ks.Pairwise (· < ·) → (∀ k, k ∈ ks ↔ k ∈ ns) → Q (.ref q) (upd H q (.lst (ks.map V.int)))) := by
  intro pins s σ H xs us Q I rv h
  obtain ⟨p, ns, rfl, hH, h64, q⟩ := h
  obtain ⟨u, rfl, ru⟩ := rv.one
  cases ru
  obtain ⟨⟨D, dn, dm, o, es, ep, t, ho, hex, hd, hel, hmem, hb, hf, hn, g⟩, _, _⟩ := (show ObjOk X.prog X.w H s.heap p (.ext (SetE X.prog X.w p ns)) from I.hok p _ hH)
  have dl : D.length ≤ ns.length := List.Nodup.length_le_of_subset dn fun k hk => (dm k).mp hk
  have sz : es.size ≤ sizeLine := fits_of_scanBound hb
  refine Calls.call_function_entry kind_sorted plain_sorted entry_sorted (args_sorted1 _) ?_
  unfold Builtin.«sorted»
  refine wpAny_bind (m := checkCount "sorted" 1 1 _) (wpAny_pure ?_)
  refine wpAny_bind (collectG (A := X.A.in1) (show X.A.in1.handled = none from I.ok.hd hc) (⟨o, ho, hex, hd, hf⟩ : SetAt s.heap p es ep t) sz g fun h' tk d acc hk hacc => ?_)
  have lacc : acc.toList.length = D.length := by rw [hacc.length_eq, List.length_map, Array.length_toList, hn]
  refine wpAny_bind (wpAny_newList ?_ (by rw [lacc, ← hn]; exact sz))
  obtain ⟨ks, hI⟩ := ints_allS acc.toList fun v hv => by
    obtain ⟨e, he, rfl⟩ := List.mem_map.mp (hacc.mem_iff.mp hv)
    obtain ⟨⟨k, hk, _⟩, _⟩ := hel e he
    obtain ⟨t, ht⟩ := intKind_shapeS hk
    exact ⟨k, t, ht⟩
  have kmem : ∀ k, k ∈ ks ↔ k ∈ D := fun k => by
    rw [ints_memS hI k, ← any_memS (l := D), hmem k]
    constructor
    · rintro ⟨t, ht⟩
      obtain ⟨e, he, e2⟩ := List.mem_map.mp (hacc.mem_iff.mp ht)
      exact ⟨e, he, by rw [e2]; exact intKind_is _ _ _ _⟩
    · rintro ⟨e, he, hk⟩
      obtain ⟨t, ht⟩ := intKind_shapeS hk
      exact ⟨t, hacc.mem_iff.mpr (List.mem_map.mpr ⟨e, he, ht⟩)⟩
  have kl : ks.length = D.length := by rw [← hI.length, lacc]
  have knd : ks.Nodup := nodup_ofS ks D dn (fun x hx => (kmem x).mpr hx) (by omega)
  have hoL : (h'.push (seqObj "list" acc.toList.toArray 0)).get? h'.objs.size = some (seqObj "list" acc.toList.toArray 0) := Heap.get?_push_size _ rfl
  refine wpAny_bind (wpAny_holding (wpAny_call_entry slot_list_sort ⟨_, hoL, rfl⟩ entry_list_sort (list_sort_tree hoL hI (by omega) fun out ns' a1 a2 a3 => ⟨_, rfl, ?_⟩) (args_list_sort _)))
  have I2 : Inv X pins σ H { s with heap := h', toks := tk, drawn := d } := I.call' (s' := { s with heap := h', toks := tk, drawn := d }) (ch := []) rfl (Un.kept hk) (I.hok.kept hk) I.bare fun b z => absurd z (by simp)
  refine wpAny_pure ⟨_, rfl, .ref h'.objs.size, upd H h'.objs.size (.lst (ns'.map V.int)), ?_, rfl, ?_⟩
  · obtain ⟨e, he⟩ := sortedHeap_at (out := out) hoL
    refine I2.laid (t' := tk) (fun b o e => ?_) (Nat.le_refl _) ⟨?_, out.toList, e, vals_intsOf a1, ?_⟩
    · have hlt : b < h'.objs.size := Heap.lt_size e
      rw [sortedHeap_old (Nat.ne_of_lt hlt) (by rw [size_push']; exact Nat.lt_succ_of_lt hlt)]
      exact Heap.get?_push_of_some _ e
    · rw [List.length_map, a2.length_eq, kl, ← hn]; exact sz
    · rw [Array.toArray_toList]; exact he
  · exact q _ ns' (I2.hok.fresh (Nat.le_refl _)) (lt_of_le_nodupS a3 (a2.nodup_iff.mpr knd)) fun k => by rw [a2.mem_iff, kmem k, dm k]
end L2

namespace L2
open PySem PySem.Spec PyProof.Rows
def Ho (b : Bool) (xs : List V) : HO := match b with
  | true => .lst xs
  | false => .tup xs
def Sq (K : PySem.W.Frag) (H : Hp) (b : Bool) (a : Addr) (xs : List V) : Prop := match b with
  | true => SqL K H a xs
  | false => SqT K H a xs
def Itb (K : PySem.W.Frag) (b : Bool) (a : Addr) : It := match b with
  | true => Itl K a
  | false => Itt K a
def iSeq (K : PySem.W.Frag) (tl : TE) : TI := fun σ H R => tl σ H fun x H1 => ∃ a b xs, x = .ref a ∧ Sq K H1 b a xs ∧ R (Itb K b a) H1
def Its (lo st : Int) (n : Nat) : It := ⟨fun i _ => i < n, fun i H x H' => H' = H ∧ x = .int (lo + (i : Int) * st), fun i _ => n ≤ i⟩
section
variable {X : Cx} {tg : Expr}
def iRng3 (ta : TA) : TI := fun σ H R => ta σ H fun vs H1 => ∃ i j c : Int, vs = [.int i, .int j, .int c] ∧ c ≠ 0 ∧ Builtin.divisionGoesByPylong (j - i) c = false ∧ Builtin.Range.small i j c = true ∧ R (Its i c (Builtin.Range.rangeSize i j c).toNat) H1
end
def TupK (K : PySem.W.Frag) (a : Addr) (xs : List V) : Prop := ∃ (o : Obj) (its : Array Value) (n : Nat), K.lookup a = some o ∧ o.cls = .type "tuple" ∧ o.data = .seq its n ∧ its.size ≤ sizeLine ∧ Vals xs its.toList
end L2

namespace K32
open PySem L2
def top (i : Nat) : Stmt := PySem.Challenge.pw_conicplaces_k32_point_or_place.main.body.getD i (.Pass ⟨0, 0, 0, 0⟩)
abbrev s_prime_parts : Stmt := top 18
abbrev s_divisor_after : Stmt := top 19
abbrev s_taken_out : Stmt := top 20
abbrev s_core_of : Stmt := top 21
abbrev s_is_without_squares : Stmt := top 22
abbrev s_power_by : Stmt := top 24
abbrev s_sign_by : Stmt := top 25
abbrev s_sign_of_two : Stmt := top 26
abbrev s_sign_of_turn : Stmt := top 27
abbrev s_shares_of : Stmt := top 29
abbrev s_row_less : Stmt := top 30
abbrev s_places_without_point : Stmt := top 32
abbrev s_places_in_question : Stmt := top 33
abbrev s_sign_at : Stmt := top 34
abbrev s_sign_at_odd : Stmt := top 35
abbrev s_sign_at_two : Stmt := top 36
abbrev s_joined_rests : Stmt := top 38
abbrev s_root_or_prime : Stmt := top 40
abbrev s_has_root : Stmt := top 41
abbrev s_root_by_prime : Stmt := top 42
abbrev s_root_by_odd_prime : Stmt := top 43
abbrev s_least_without_root : Stmt := top 44
abbrev s_lowest_point : Stmt := top 46
abbrev s_pair_point : Stmt := top 48
abbrev s_walked_down : Stmt := top 49
abbrev s_point_of_last : Stmt := top 50
abbrev s_turn : Stmt := top 51
abbrev s_point_of_turned : Stmt := top 52
abbrev s_step_down : Stmt := top 53
abbrev s_point_of_lower : Stmt := top 54
abbrev s_cell_at : Stmt := top 56
abbrev s_churn : Stmt := top 57
abbrev s_whole : Stmt := top 58
abbrev s_lowest : Stmt := top 59
abbrev s_point : Stmt := top 60
abbrev s_picked : Stmt := top 61
abbrev s_root : Stmt := top 62
abbrev s_none_by_16 : Stmt := top 63
abbrev s_no_point : Stmt := top 64
abbrev s_alone : Stmt := top 65
abbrev s_refused : Stmt := top 66
abbrev s_law : Stmt := top 67
structure Adr where
  (ce c0 c1 c2 c3 c4 c5 c6 c7 c8 c9 c10 c11 c12 c13 c14 : Addr)
structure Txt (K : PySem.W.Frag) (mg : Str → Option Value) (t : Adr) : Prop where
  m_CurveError : mg "CurveError" = some (.ref t.ce)
  m_BadPlace : mg "BadPlace" = some (.ref t.c0)
  m_Flat : mg "Flat" = some (.ref t.c1)
  m_NoBack : mg "NoBack" = some (.ref t.c2)
  m_NoJoin : mg "NoJoin" = some (.ref t.c3)
  m_NoLine : mg "NoLine" = some (.ref t.c4)
  m_NoName : mg "NoName" = some (.ref t.c5)
  m_NoNumber : mg "NoNumber" = some (.ref t.c6)
  m_NoPair : mg "NoPair" = some (.ref t.c7)
  m_NoPlace : mg "NoPlace" = some (.ref t.c8)
  m_NoRow : mg "NoRow" = some (.ref t.c9)
  m_NoSign : mg "NoSign" = some (.ref t.c10)
  m_NoText : mg "NoText" = some (.ref t.c11)
  m_NoVertex : mg "NoVertex" = some (.ref t.c12)
  m_NotPlain : mg "NotPlain" = some (.ref t.c13)
  m_OffCurve : mg "OffCurve" = some (.ref t.c14)
  i_ce : PySem.W.kitOne K (.ref t.c13) (.ref t.ce) = some true
  i_0 : PySem.W.kitOne K (.ref t.c13) (.ref t.c0) = some false
  i_1 : PySem.W.kitOne K (.ref t.c13) (.ref t.c1) = some false
  i_2 : PySem.W.kitOne K (.ref t.c13) (.ref t.c2) = some false
  i_3 : PySem.W.kitOne K (.ref t.c13) (.ref t.c3) = some false
  i_4 : PySem.W.kitOne K (.ref t.c13) (.ref t.c4) = some false
  i_5 : PySem.W.kitOne K (.ref t.c13) (.ref t.c5) = some false
  i_6 : PySem.W.kitOne K (.ref t.c13) (.ref t.c6) = some false
  i_7 : PySem.W.kitOne K (.ref t.c13) (.ref t.c7) = some false
  i_8 : PySem.W.kitOne K (.ref t.c13) (.ref t.c8) = some false
  i_9 : PySem.W.kitOne K (.ref t.c13) (.ref t.c9) = some false
  i_10 : PySem.W.kitOne K (.ref t.c13) (.ref t.c10) = some false
  i_11 : PySem.W.kitOne K (.ref t.c13) (.ref t.c11) = some false
  i_12 : PySem.W.kitOne K (.ref t.c13) (.ref t.c12) = some false
  i_13 : PySem.W.kitOne K (.ref t.c13) (.ref t.c13) = some true
  i_14 : PySem.W.kitOne K (.ref t.c13) (.ref t.c14) = some false
  i_ve : PySem.W.kitOne K (.ref t.c13) (.type "ValueError") = some true
  e0 : (PySem.W.clsIn K t.c13).isSome = true
  e1 : PySem.W.findIn K (.ref t.c13) "__getattribute__" = some (some (.builtin "BaseException.__getattribute__"))
  e2 : PySem.W.findIn K (.ref t.c13) "__getattr__" = some none
  e3 : PySem.W.findIn K (.ref t.c13) "__class__" = some (some (.builtin "object.__class__"))
  e4 : PySem.W.specialIn K (.builtin "object.__class__") "__get__" = some (some (.builtin "getset_descriptor.__get__"))
  e5 : PySem.W.takesIn K (.builtin "object.__class__") = some true
  e6 : PySem.W.mroIn K t.c13 (.type "object") = some true
  e7 : PySem.W.mroIn K t.c13 (.type "BaseException") = some true
  x_NotPlain : PySem.W.excIn K t.c13 bmVE "ValueError.__new__" = true
  x_CurveError : PySem.W.excIn K t.ce bmVE "ValueError.__new__" = true
  u_NotPlain : PySem.W.mroIn K t.c13 (.ref t.ce) = some true
  i_ib : PySem.W.kitOne K (.type "int") (.type "bool") = some false
  z_isinstance : mg "isinstance" = none
  z_int : mg "int" = none
  z_bool : mg "bool" = none
  z_len : mg "len" = none
  z_range : mg "range" = none
  z_all : mg "all" = none
  z_abs : mg "abs" = none
  z_sorted : mg "sorted" = none
  z_list : mg "list" = none
  z_max : mg "max" = none
  z_min : mg "min" = none
  z_set : mg "set" = none
  z_sum : mg "sum" = none
  z_tuple : mg "tuple" = none
  z_ValueError : mg "ValueError" = none
theorem Txt.exc {K : PySem.W.Frag} {mg : Str → Option Value} {t : Adr} (T : Txt K mg t) : ExcCls K t.c13 := ⟨T.e0, T.e1, T.e2, T.e3, T.e4, T.e5, T.e6, T.e7⟩
theorem b_isi : bootBuiltins "isinstance" = some (.builtin "isinstance") := by decide +kernel
theorem b_int : bootBuiltins "int" = some (.type "int") := by decide +kernel
theorem b_bool : bootBuiltins "bool" = some (.type "bool") := by decide +kernel
theorem b_all : bootBuiltins "all" = some (.builtin "all") := by decide +kernel
theorem b_abs : bootBuiltins "abs" = some (.builtin "abs") := by decide +kernel
theorem b_sorted : bootBuiltins "sorted" = some (.builtin "sorted") := by decide +kernel
theorem b_list : bootBuiltins "list" = some (.type "list") := by decide +kernel
theorem b_min : bootBuiltins "min" = some (.builtin "min") := by decide +kernel
theorem b_set : bootBuiltins "set" = some (.type "set") := by decide +kernel
theorem b_tuple : bootBuiltins "tuple" = some (.type "tuple") := by decide +kernel
theorem b_ValueError : bootBuiltins "ValueError" = some (.type "ValueError") := by decide +kernel
theorem byL0 {P : List Value → Prop} (h : P []) : ∀ us : List Value, us.length = 0 → P us := fun us hl => match us, hl with | [], _ => h
theorem byL1 {P : List Value → Prop} (h : ∀ a0 : Value, P [a0]) : ∀ us : List Value, us.length = 1 → P us := fun us hl => match us, hl with | [a0], _ => h a0
theorem byL2 {P : List Value → Prop} (h : ∀ a0 a1 : Value, P [a0, a1]) : ∀ us : List Value, us.length = 2 → P us := fun us hl => match us, hl with | [a0, a1], _ => h a0 a1
theorem byL3 {P : List Value → Prop} (h : ∀ a0 a1 a2 : Value, P [a0, a1, a2]) : ∀ us : List Value, us.length = 3 → P us := fun us hl => match us, hl with | [a0, a1, a2], _ => h a0 a1 a2
theorem byL4 {P : List Value → Prop} (h : ∀ a0 a1 a2 a3 : Value, P [a0, a1, a2, a3]) : ∀ us : List Value, us.length = 4 → P us := fun us hl => match us, hl with | [a0, a1, a2, a3], _ => h a0 a1 a2 a3
theorem iteDF {c A B : Prop} [Decidable c] (hc : ¬ c) (h : B) : if decide c = true then A else B := by
  rw [decide_eq_false hc]
  exact iteF h
theorem neT {c : Prop} [Decidable c] (h : (!decide c) = true) : ¬ c := by
  intro z
  rw [decide_eq_true z] at h
  cases h
theorem neF {c : Prop} [Decidable c] (h : ¬ (!decide c) = true) : c := by
  by_cases z : c
  · exact z
  · exact absurd (by rw [decide_eq_false z]; rfl) h
theorem mulS {a b : Int} (h1 : -(2 ^ 64) < b) (h2 : b < 2 ^ 64) : IntMulOk a b := IntMulOk.of_right (intBits_le_64 h1 h2)
theorem blT {Q : VK} {c : Prop} [Decidable c] {H : Hp} (h : c) (q : Q (.bl true) H) : Q (.bl (decide c)) H := by
  rw [decide_eq_true h]
  exact q
theorem iteE {b : Bool} {A B : Prop} (h : b = true) (hA : A) : if b = true then A else B := by
  subst h
  exact iteT hA
@[irreducible] def Rt : Nat := 2 ^ 500
@[irreducible] def Lm : Nat := 2 ^ 1000
theorem Lm_eq : Lm = 2 ^ 1000 := by unfold Lm; rfl
theorem Lm_pos : 1 ≤ Lm := by rw [Lm_eq]; decide +kernel
theorem Lm_bits {x : Int} (h : x.natAbs ≤ 8 * Lm) : Builtin.Int.intBits x ≤ 1004 := intBits_le_iff.mpr (Nat.lt_of_le_of_lt h (by rw [Lm_eq]; decide +kernel))
theorem Lm_log {x : Int} (h : x.natAbs ≤ 8 * Lm) : x.natAbs.log2 < 9000 := Nat.lt_of_lt_of_le (log2_lt_of (k := 1004) (Nat.lt_of_le_of_lt h (by rw [Lm_eq]; decide +kernel)) (by decide)) (by decide)
theorem mulL {a b : Int} (ha : a.natAbs ≤ 8 * Lm) (hb : b.natAbs ≤ 8 * Lm) : IntMulOk a b := IntMulOk.of_le (Lm_bits ha) (Lm_bits hb) (by decide)
theorem fdiv_rest (a b : Int) : a - a.fdiv b * b = a.fmod b := by rw [Int.fmod_def, Int.mul_comm]
def spRow : Sp := fun vs H Q _ => ∃ (pa pb : Addr) (x s t y u v k : Int), vs = [.ref pa, .ref pb, .int k] ∧ H pa = some (.tup [.int x, .int s, .int t]) ∧ H pb = some (.tup [.int y, .int u, .int v]) ∧ IntMulOk k y ∧ IntMulOk k u ∧ IntMulOk k v ∧
  ∀ (p : Addr) (H' : Hp), Same H H' → H' p = some (.tup [.int (x - k * y), .int (s - k * u), .int (t - k * v)]) → Q (.ref p) H'
def spShares : Sp := fun vs H Q _ => ∃ (x y : Int), vs = [.int x, .int y] ∧ x.natAbs ≤ Lm ∧ y.natAbs ≤ Lm ∧
  ∀ (p : Addr) (H' : Hp) (g s t : Int), Same H H' → H' p = some (.tup [.int g, .int s, .int t]) → 0 ≤ g → g = s * x + t * y → (∃ k, x = k * g) → (∃ k, y = k * g) → s.natAbs ≤ 8 * Lm → t.natAbs ≤ 8 * Lm → Q (.ref p) H'
def spTaken : Sp := fun vs H Q _ => ∃ (x p : Int), vs = [.int x, .int p] ∧ x ≠ 0 ∧ 2 ≤ p ∧ p.natAbs.log2 < 9000 ∧ ∀ (r : Addr) (H' : Hp) (o l : Int), Same H H' → H' r = some (.tup [.int o, .int l]) → Pr.Inn x p l o → 0 ≤ o → l.fmod p ≠ 0 → l ≠ 0 → l.natAbs ≤ x.natAbs → (0 < x → 0 < l) → (x < 0 → l < 0) → Q (.ref r) H'
theorem taken_less {l p : Int} (h2 : 2 ≤ p) (l0 : l ≠ 0) (hz : l.fmod p = 0) : l.fdiv p ≠ 0 ∧ (l.fdiv p).natAbs < l.natAbs ∧ (0 < l → 0 < l.fdiv p) ∧ (l < 0 → l.fdiv p < 0) := by
  have q := Pr.quot l p
  rw [hz] at q
  have e : l = p * l.fdiv p := by omega
  generalize l.fdiv p = k at e
  have k0 : k ≠ 0 := fun z => l0 (by rw [e, z, Int.mul_zero])
  have ea : l.natAbs = p.natAbs * k.natAbs := by rw [e, Int.natAbs_mul]
  have pa : 2 ≤ p.natAbs := by omega
  have ka : 1 ≤ k.natAbs := by omega
  refine ⟨k0, ?_, fun h => ?_, fun h => ?_⟩
  · have := Nat.mul_le_mul_right k.natAbs pa
    omega
  · rcases Int.lt_trichotomy k 0 with z | z | z
    · have := Int.mul_neg_of_pos_of_neg (show 0 < p by omega) z
      omega
    · exact absurd z k0
    · exact z
  · rcases Int.lt_trichotomy k 0 with z | z | z
    · exact z
    · exact absurd z k0
    · have := Int.mul_pos (show 0 < p by omega) z
      omega

theorem in35 (z : Int) : inV (.int z) [.int 3, .int 5] = decide (z = 3 ∨ z = 5) := by
  show ((3 : Int) == z || ((5 : Int) == z || false)) = _
  by_cases h3 : z = 3
  · subst h3; rfl
  · by_cases h5 : z = 5
    · subst h5; rfl
    · have e3 : ((3 : Int) == z) = false := by simpa using fun e => h3 (Eq.symm e)
      have e5 : ((5 : Int) == z) = false := by simpa using fun e => h5 (Eq.symm e)
      rw [e3, e5, decide_eq_false (by simp [h3, h5])]
      rfl
theorem twoI_or (b : Int) : Jc.twoI b = 1 ∨ Jc.twoI b = -1 := by unfold Jc.twoI; split <;> simp
theorem turnI_or (a b : Int) : Jc.turnI a b = 1 ∨ Jc.turnI a b = -1 := by unfold Jc.turnI; split <;> simp
def spTwoI : Sp := fun vs H Q _ => ∃ x : Int, vs = [.int x] ∧ ∀ H', Same H H' → Q (.int (Jc.twoI x)) H'
def spTurnI : Sp := fun vs H Q _ => ∃ a b : Int, vs = [.int a, .int b] ∧ Q (.int (Jc.turnI a b)) H
def spSign : Sp := fun vs H Q _ => ∃ x n : Int, vs = [.int x, .int n] ∧ 0 < n ∧ n % 2 = 1 ∧ n < 2 ^ 64 ∧ ∀ H', Same H H' → Q (.int (Jc.J x n)) H'
def WS (x n : Int) (H : Hp) (m : Nat) (σ : St) (H' : Hp) : Prop := ∃ (sg top bot : Int) (tw od : Option V), σ = [some (.int x), some (.int n), some (.int sg), some (.int top), some (.int bot), tw, od] ∧ Same H H' ∧ 0 ≤ top ∧ 0 < bot ∧ bot % 2 = 1 ∧ bot < 2 ^ 64 ∧ top < 2 ^ 64 ∧ (sg = 1 ∨ sg = -1) ∧ sg * Jc.J top bot = Jc.J x n ∧ m = top.toNat

abbrev TupL (H : Hp) (rs : List Addr) (xs : List (Int × Int)) : Prop := Paired (fun (r : Addr) (x : Int × Int) => H r = some (.tup [.int x.1, .int x.2])) rs xs
theorem TupL.same {H H' : Hp} (g : Same H H') : ∀ {rs : List Addr} {xs : List (Int × Int)}, TupL H rs xs → TupL H' rs xs
  | _, _, .nil => .nil
  | _, _, .cons h t => .cons (g _ _ h) (TupL.same g t)
theorem TupL.app {H : Hp} {r : Addr} {x : Int × Int} (h : H r = some (.tup [.int x.1, .int x.2])) : ∀ {rs : List Addr} {xs : List (Int × Int)}, TupL H rs xs → TupL H (rs ++ [r]) (xs ++ [x])
  | _, _, .nil => .cons h .nil
  | _, _, .cons h' t => .cons h' (TupL.app h t)
theorem TupL.upd {H : Hp} {a : Addr} {o : HO} : ∀ {rs : List Addr} {xs : List (Int × Int)}, TupL H rs xs → (∀ ys, H a ≠ some (.tup ys)) → TupL (upd H a o) rs xs
  | _, _, .nil, _ => .nil
  | _, _, .cons h t, n => .cons (by rw [upd_ne (fun z => by subst z; exact n _ h)]; exact h) (TupL.upd t n)
theorem TupL.len {H : Hp} : ∀ {rs : List Addr} {xs : List (Int × Int)}, TupL H rs xs → rs.length = xs.length
  | _, _, .nil => rfl
  | _, _, .cons _ t => by rw [List.length_cons, List.length_cons, TupL.len t]
theorem TupL.get {H : Hp} : ∀ {rs : List Addr} {xs : List (Int × Int)} {i : Nat} {r : Addr}, TupL H rs xs → rs[i]? = some r → ∃ x, xs[i]? = some x ∧ H r = some (.tup [.int x.1, .int x.2])
  | _, _, _, _, .nil, e => by simp at e
  | _, _, 0, _, .cons h _, e => by simp at e; subst e; exact ⟨_, rfl, h⟩
  | _, _, i + 1, _, .cons _ t, e => by
    obtain ⟨x, h1, h2⟩ := TupL.get (i := i) t (by simpa using e)
    exact ⟨x, by simpa using h1, h2⟩
def spAfter : Sp := fun vs H Q _ => ∃ d : Int, vs = [.int d] ∧ Q (.int (if d = 2 then 3 else d + 2)) H
def spParts (C : Addr) : Sp := fun vs H Q E => ∃ n : Int, vs = [.int n] ∧ ((n < 1 ∧ E (.ref C) none H) ∨ (1 ≤ n ∧ n ≤ 10000000000 ∧
  ∀ (p : Addr) (rs : List Addr) (xs : List (Int × Int)) (H' : Hp), Same H H' → H p = none → H' p = some (.lst (rs.map V.ref)) → TupL H' rs xs → Pr.Told n xs → Q (.ref p) H'))
def W1 (n : Int) (pl : Addr) (H : Hp) (m : Nat) (σ : St) (H' : Hp) : Prop := ∃ (left d : Int) (xs : List (Int × Int)) (rs : List Addr) (of : Option V), σ = [some (.int n), some (.ref pl), some (.int left), some (.int d), of] ∧ Same H H' ∧ H' pl = some (.lst (rs.map V.ref)) ∧
  TupL H' rs xs ∧ Pr.Out n left d xs ∧ 2 ≤ d ∧ d ≤ 10000000002 ∧ 1 ≤ left ∧ m = (left + 1 - d).toNat
theorem le_sq {g : Int} (h : 1 ≤ g) : g ≤ g * g := by
  have := Int.mul_le_mul_of_nonneg_right h (show 0 ≤ g by omega)
  omega
theorem short {n : Int} {xs : List (Int × Int)} (h : ∀ x ∈ xs, Pr.Part x) (hn : Pr.prodP xs ≤ n) (n1 : n ≤ 10000000000) : xs.length < 40 := by
  have h1 := Pr.len_le h
  rcases Nat.lt_or_ge xs.length 40 with h2 | h2
  · exact h2
  · have h3 := Pr.pow_mono h2
    have : (2 : Int) ^ 40 = 1099511627776 := by decide
    omega
theorem out_prod {n left d : Int} {xs : List (Int × Int)} (h : Pr.Out n left d xs) (l1 : 1 ≤ left) : Pr.prodP xs ≤ n := by
  have e := h.prod
  have := Pr.mul_ge l1 (Int.le_refl (Pr.prodP xs)) (by have := Pr.prodP_pos h.all; omega)
  omega
theorem grown {H H1 : Hp} {pl p : Addr} {rs : List Addr} {xs : List (Int × Int)} {x : Int × Int} (g : Same H H1) (hn : H pl = none) (hp : H1 p = none) (h1 : H1 pl = some (.lst (rs.map V.ref))) (h2 : TupL H1 rs xs) :
    Same H (upd (upd H1 p (.tup [.int x.1, .int x.2])) pl (.lst (rs.map V.ref ++ [.ref p]))) ∧ (upd (upd H1 p (.tup [.int x.1, .int x.2])) pl (.lst (rs.map V.ref ++ [.ref p]))) pl = some (.lst ((rs ++ [p]).map V.ref)) ∧
    TupL (upd (upd H1 p (.tup [.int x.1, .int x.2])) pl (.lst (rs.map V.ref ++ [.ref p]))) (rs ++ [p]) (xs ++ [x]) := by
  have npl : p ≠ pl := fun z => by subst z; rw [h1] at hp; cases hp
  have g2 := same_new hp (.tup [.int x.1, .int x.2])
  refine ⟨fun b o q => ?_, ?_, ?_⟩
  · rw [upd_ne (ne_of_none q hn)]
    exact g2 b o (g b o q)
  · rw [upd_same, List.map_append]
    rfl
  · have t : TupL (L2.upd H1 p (.tup [.int x.1, .int x.2])) (rs ++ [p]) (xs ++ [x]) := TupL.app upd_same (TupL.same g2 h2)
    exact t.upd fun ys z => by
      rw [upd_ne npl.symm, h1] at z
      cases z

def spParts0 : Sp := fun vs H Q E => ∃ n : Int, vs = [.int n] ∧ 1 ≤ n ∧ n ≤ 10000000000 ∧
  ∀ (p : Addr) (rs : List Addr) (xs : List (Int × Int)) (H' : Hp), Same H H' → H p = none → H' p = some (.lst (rs.map V.ref)) → TupL H' rs xs → Pr.Told n xs → Q (.ref p) H'
theorem small1000 {n : Nat} (h : n < 1000) : n < sizeLine := Nat.lt_of_lt_of_le h (by decide)
def spPower : Sp := fun vs H Q _ => ∃ (x k n : Int), vs = [.int x, .int k, .int n] ∧ 0 ≤ k ∧ 0 < n ∧ n.natAbs ≤ Lm ∧ Q (.int (Pw.PM x k.toNat n)) H
theorem half_toNat (l : Int) (h : 0 ≤ l) : (l / 2).toNat = l.toNat / 2 := by omega

theorem hu64_of {A : Around} {k : Nat} (hr : Room k A) : A.units + 64 < cLine := by
  have := hr.un
  omega
def spIsPrime : Sp := fun vs H Q _ => ∃ n : Int, vs = [.int n] ∧ n ≤ 10000000000 ∧ ∀ (b : Bool) (H' : Hp), Same H H' → (b = true ↔ Pr.Prm n) → Q (.bl b) H'
def spAtTwo : Sp := fun vs H Q _ => ∃ (r1 r2 : Addr) (o1 l1 o2 l2 : Int), vs = [.ref r1, .ref r2] ∧ H r1 = some (.tup [.int o1, .int l1]) ∧ H r2 = some (.tup [.int o2, .int l2]) ∧ ∀ H', Same H H' → Q (.int (Jc.two4 o1 l1 o2 l2)) H'
def spAtOdd : Sp := fun vs H Q _ => ∃ (r1 r2 : Addr) (o1 l1 o2 l2 p : Int), vs = [.ref r1, .ref r2, .int p] ∧ H r1 = some (.tup [.int o1, .int l1]) ∧ H r2 = some (.tup [.int o2, .int l2]) ∧ 0 < p ∧ p % 2 = 1 ∧ p < 2 ^ 64 ∧ l2.natAbs < 2 ^ 64 ∧ ∀ H', Same H H' → Q (.int (Jc.odd4 p o1 l1 o2 l2)) H'
def At (a b p v : Int) : Prop := (p = 0 ∧ v = if a < 0 ∧ b < 0 then -1 else 1) ∨ (Pr.Prm p ∧ p < 10000000000 ∧ ∃ o1 l1 o2 l2, Jc.Dec a p l1 o1 ∧ Jc.Dec b p l2 o2 ∧ v = Jc.hs p o1 l1 o2 l2)
def spAt : Sp := fun vs H Q _ => ∃ a b p v : Int, vs = [.int a, .int b, .int p] ∧ a ≠ 0 ∧ b ≠ 0 ∧ b.natAbs < 2 ^ 64 ∧ At a b p v ∧ ∀ H', Same H H' → Q (.int v) H'
theorem prm_odd {p : Int} (h : Pr.Prm p) (n2 : p ≠ 2) : p % 2 = 1 := by
  rcases (show p % 2 = 0 ∨ p % 2 = 1 by omega) with z | z
  · have := h.two
    exact absurd (Int.dvd_of_emod_eq_zero z) (h.no 2 (by omega) (by omega))
  · exact z

theorem take_more {xs : List (Int × Int)} {i : Nat} {x : Int × Int} (h : xs[i]? = some x) : xs.take (i + 1) = xs.take i ++ [x] := by
  rw [List.take_succ, h]
  rfl
def absI (n : Int) : Int := if n < 0 then -n else n
def sgn (n : Int) : Int := if n < 0 then -1 else 1
theorem abs_sgn (n : Int) : sgn n * absI n = n := by
  unfold sgn absI
  split <;> omega
def spCore0 : Sp := fun vs H Q _ => ∃ n : Int, vs = [.int n] ∧ n ≠ 0 ∧ -10000000000 ≤ n ∧ n ≤ 10000000000 ∧
  ∀ (p : Addr) (xs : List (Int × Int)) (H' : Hp), Same H H' → Pr.Told (absI n) xs → H' p = some (.tup [.int (sgn n * Pr.coreP xs), .int (Pr.rootP xs)]) → Q (.ref p) H'
theorem core_more {xs : List (Int × Int)} {i : Nat} {p o : Int} (h : xs[i]? = some (p, o)) : Pr.coreP (xs.take (i + 1)) = Pr.coreP (xs.take i) * (if o % 2 = 1 then p else 1) := by
  rw [take_more h, Pr.coreP_app]
  simp [Pr.coreP]
theorem root_more {xs : List (Int × Int)} {i : Nat} {p o : Int} (h : xs[i]? = some (p, o)) : Pr.rootP (xs.take (i + 1)) = Pr.rootP (xs.take i) * p ^ (o / 2).toNat := by
  rw [take_more h, Pr.rootP_app]
  simp [Pr.rootP]
open Pl
def Sm6 (n : Int) : Prop := n.natAbs ≤ 1000000
theorem abs_dvd {p n : Int} : p ∣ absI n ↔ p ∣ n := by
  unfold absI
  split
  · exact Int.dvd_neg
  · exact Iff.rfl
def spNoSq : Sp := fun vs H Q _ => ∃ n : Int, vs = [.int n] ∧ n ≠ 0 ∧ Sm6 n ∧ (∀ p, Pr.Prm p → ¬ p * p ∣ n) ∧ ∀ H', Same H H' → Q (.bl true) H'
def spPlain : Sp := fun vs H Q _ => ∃ a b c : Int, vs = [.int a, .int b, .int c] ∧ Pln a b c ∧ Sm6 a ∧ Sm6 b ∧ Sm6 c ∧ ∀ H', Same H H' → Q (.bl true) H'
def Odds (n : Int) (os : List Int) : Prop := os.Nodup ∧ ∀ p, p ∈ os ↔ Pr.Prm p ∧ p ≠ 2 ∧ p ∣ n
theorem odds_told {n : Int} {xs : List (Int × Int)} (h : Pr.Told (absI n) xs) : Odds n ((xs.map (·.1)).filter fun p => decide (2 < p)) := by
  refine ⟨?_, fun p => ?_⟩
  · show List.Pairwise (· ≠ ·) _
    exact (List.pairwise_map.mpr (h.rise.imp (fun hx e => by omega))).filter _
  · rw [List.mem_filter, told_mem h, abs_dvd]
    constructor
    · rintro ⟨⟨a, b⟩, c⟩
      have : 2 < p := of_decide_eq_true c
      exact ⟨a, by omega, b⟩
    · rintro ⟨a, b, c⟩
      have := a.two
      exact ⟨⟨a, c⟩, decide_eq_true (by omega)⟩
def spQuest : Sp := fun vs H Q _ => ∃ a b c : Int, vs = [.int a, .int b, .int c] ∧ Pln a b c ∧ Sm6 a ∧ Sm6 b ∧ Sm6 c ∧ ∀ (p : Addr) (ks : List Int) (H' : Hp), Same H H' → H p = none → H' p = some (.lst ((0 :: 2 :: ks).map V.int)) → (0 :: 2 :: ks).Pairwise (· < ·) → (0 :: 2 :: ks).length < 100 → (∀ x, x ∈ ks ↔ Pr.Prm x ∧ x ≠ 2 ∧ (x ∣ a ∨ x ∣ b ∨ x ∣ c)) → Q (.ref p) H'
def InPL (n : Int) : Prop := ∀ p : Int, Pr.Prm p → p ≠ 2 → p ∣ n → ∃ q : Nat, p = q ∧ q ∈ PL
def spBad : Sp := fun vs H Q _ => ∃ a b c : Int, vs = [.int a, .int b, .int c] ∧ Pln a b c ∧ Sm6 a ∧ Sm6 b ∧ Sm6 c ∧ InPL a ∧ InPL b ∧ InPL c ∧ ∀ (p : Addr) (bs : List Int) (H' : Hp), Same H H' → H p = none → H' p = some (.lst (bs.map V.int)) → bs.Pairwise (· < ·) → bs.length < 100 → (∀ x, x ∈ bs ↔ Bad a b c x) → Q (.ref p) H'
theorem told_len {n : Int} {xs : List (Int × Int)} (h : Pr.Told (absI n) xs) (hn : Sm6 n) : xs.length < 21 := by
  have h1 := Pr.len_le h.all
  rw [h.prod] at h1
  have h2 : absI n ≤ 1000000 := by
    unfold absI Sm6 at *
    split <;> omega
  by_cases c : xs.length < 21
  · exact c
  · have := Pr.pow_mono (show 21 ≤ xs.length by omega)
    have : (2 : Int) ^ 21 = 2097152 := by decide
    omega
theorem fdiv_one (x : Int) : x.fdiv 1 = x := by rw [Int.fdiv_eq_ediv_of_nonneg x (by decide), Int.ediv_one]
theorem Lm_big : 2 ^ 64 ≤ Lm := by rw [Lm_eq]; decide +kernel
def Q6 (p : Int) : Prop := Pr.Prm p ∧ p ≤ 1000000
theorem q6 {p : Int} (h : Q6 p) : Pr.Prm p ∧ p ≤ 1000000 ∧ (p ≠ 2 → ∃ z : Int, 2 ≤ z ∧ z < p ∧ Jc.J z p = -1) := ⟨h.1, h.2, fun n2 => Jc.non_ex h.1 n2⟩
def spJoin : Sp := fun vs H Q _ => ∃ r n s p : Int, vs = [.int r, .int n, .int s, .int p] ∧ 1 ≤ n ∧ n ≤ 1000000 ∧ Pr.Prm p ∧ p ≤ 1000000 ∧ ¬ p ∣ n ∧ r.natAbs ≤ 1000000 ∧ s.natAbs ≤ 1000000 ∧
  ∀ (t : Addr) (H' : Hp) (x : Int), Same H H' → H' t = some (.tup [.int x, .int (n * p)]) → 0 ≤ x → x < n * p → x % n = r % n → x % p = s % p → Q (.ref t) H'
def spHas : Sp := fun vs H Q _ => ∃ x p : Int, vs = [.int x, .int p] ∧ Pr.Prm p ∧ p ≤ 1000000 ∧ ∀ (b : Bool) (H' : Hp), Same H H' → (b = true ↔ p = 2 ∨ Jc.J x p ≠ -1) → Q (.bl b) H'
def spLeast : Sp := fun vs H Q _ => ∃ p : Int, vs = [.int p] ∧ Q6 p ∧ p ≠ 2 ∧ ∀ (z : Int) (H' : Hp), Same H H' → Jc.J z p = -1 → Q (.int z) H'
def spRootO : Sp := fun vs H Q _ => ∃ x p : Int, vs = [.int x, .int p] ∧ Q6 p ∧ p ≠ 2 ∧ Jc.J x p = 1 ∧ ∀ (w : Int) (H' : Hp), Same H H' → 0 ≤ w → w < p → (w * w - x) % p = 0 → Q (.int w) H'
def spRootP : Sp := fun vs H Q _ => ∃ x p : Int, vs = [.int x, .int p] ∧ Q6 p ∧ (p = 2 ∨ Jc.J x p ≠ -1) ∧ ∀ (w : Int) (H' : Hp), Same H H' → 0 ≤ w → w < p → (w * w - x) % p = 0 → Q (.int w) H'
def spRoot : Sp := fun vs H Q _ => ∃ x n : Int, vs = [.int x, .int n] ∧ 1 ≤ n ∧ n ≤ 1000000 ∧ Jc.Sf n ∧ (∀ p, Pr.Prm p → p ∣ n → p = 2 ∨ Jc.J x p ≠ -1) ∧ ∀ (t : Addr) (w : Int) (H' : Hp), Same H H' →
  H' t = some (.tup [.str ("root" : Str), .int w]) → 0 ≤ w → 2 * w ≤ n → (w * w - x) % n = 0 → Q (.ref t) H'
theorem once6 {n : Int} {xs : List (Int × Int)} (h : Jc.Sf n) (nb : n ≤ 1000000) (n1 : 1 ≤ n) (t : Pr.Told n xs) {x : Int × Int} (hx : x ∈ xs) : x.2 = 1 ∧ Q6 x.1 ∧ x.1 ∣ n := by
  have pt := t.all x hx
  have dv : x.1 ^ x.2.toNat ∣ n := by
    obtain ⟨a, b, e⟩ := List.append_of_mem hx
    have := t.prod
    rw [e, Pr.prodP_app] at this
    exact ⟨Pr.prodP a * Pr.prodP b, by rw [← this]; simp only [Pr.prodP]; grind⟩
  have o1 := pt.often
  have d1 : x.1 ∣ n := by
    obtain ⟨k, hk⟩ : ∃ k, x.2.toNat = k + 1 := ⟨x.2.toNat - 1, by omega⟩
    rw [hk, Int.pow_succ] at dv
    exact Int.dvd_trans (Int.dvd_mul_left _ _) dv
  refine ⟨?_, ⟨pt.prime, by have := Int.le_of_dvd (by omega) d1; omega⟩, d1⟩
  rcases (show x.2 = 1 ∨ 2 ≤ x.2 by omega) with z | z
  · exact z
  · obtain ⟨k, hk⟩ : ∃ k, x.2.toNat = k + 2 := ⟨x.2.toNat - 2, by omega⟩
    rw [hk, Int.pow_succ, Int.pow_succ, Int.mul_assoc] at dv
    exact absurd (Int.dvd_trans (Int.dvd_mul_left _ _) dv) (h.sq _ pt.prime)
open Lw
def Sq3 (H : Hp) (p : Addr) (x y z : Int) : Prop := H p = some (.tup [.int x, .int y, .int z])
def In3 (M : Int) (x y z : Int) : Prop := (-M ≤ x ∧ x ≤ M) ∧ (-M ≤ y ∧ y ≤ M) ∧ (-M ≤ z ∧ z ≤ M)
def NZ (x y z : Int) : Prop := x ≠ 0 ∨ y ≠ 0 ∨ z ≠ 0
@[irreducible] def Top : Int := 2 ^ 900
theorem Top_eq : Top = 2 ^ 900 := by unfold Top; rfl
theorem Top_Lm : Top ≤ Lm := by rw [Top_eq, Lm_eq]; decide +kernel
theorem in3_abs {x y z : Int} (h : In3 Top x y z) : x.natAbs ≤ Lm ∧ y.natAbs ≤ Lm ∧ z.natAbs ≤ Lm := by
  have := Top_Lm
  obtain ⟨⟨a, b⟩, ⟨c, d⟩, ⟨e, f⟩⟩ := h
  omega
theorem get3 {x y z : Int} {i : Nat} {v : V} (h : [V.int x, .int y, .int z][i]? = some v) : ∃ n, v = .int n ∧ [x, y, z][i]? = some n := by
  match i, h with
  | 0, h => exact ⟨x, (Option.some.inj h).symm, rfl⟩
  | 1, h => exact ⟨y, (Option.some.inj h).symm, rfl⟩
  | 2, h => exact ⟨z, (Option.some.inj h).symm, rfl⟩
  | i + 3, h => cases h
theorem mem3 {x y z n : Int} {i : Nat} (h : [x, y, z][i]? = some n) : n = x ∨ n = y ∨ n = z := by
  have := List.mem_of_getElem? h
  simpa using this
def spLowest : Sp := fun vs H Q _ => ∃ (p : Addr) (x y z : Int), vs = [.ref p] ∧ Sq3 H p x y z ∧ In3 Top x y z ∧ NZ x y z ∧
  ∀ (r : Addr) (H' : Hp) (a b c d : Int), Same H H' → Sq3 H' r a b c → One3 a b c → Pos3 a b c → d ≠ 0 → x = d * a → y = d * b → z = d * c → Q (.ref r) H'
def nz : V → Bool
  | .int n => !decide (V.int n = V.int 0)
  | _ => false
def fst3 (x y z : Int) : Int := if x ≠ 0 then x else if y ≠ 0 then y else z
theorem nz_t {n : Int} (h : n ≠ 0) : nz (.int n) = true := by
  show (!decide (V.int n = V.int 0)) = true
  rw [decide_eq_false (fun z => h (V.int.inj z))]
  rfl
theorem nz_f {n : Int} (h : n = 0) : nz (.int n) = false := by
  subst h
  show (!decide (V.int 0 = V.int 0)) = false
  rw [decide_eq_true rfl]
  rfl
theorem at0 {α : Type} {v : α} {l : List α} : atI (v :: l) (0 : Int) = some v := by
  have : atI (v :: l) ((0 : Nat) : Int) = some v := atI_nat rfl
  exact this
theorem fst_ok {x y z : Int} (h : NZ x y z) : atI (([V.int x, .int y, .int z].filter nz).map id) (0 : Int) = some (.int (fst3 x y z)) := by
  unfold fst3
  by_cases h1 : x ≠ 0
  · rw [if_pos h1, List.filter_cons, nz_t h1, if_pos rfl]
    exact at0
  · rw [if_neg h1, List.filter_cons, nz_f (Decidable.not_not.mp h1), if_neg Bool.false_ne_true]
    by_cases h2 : y ≠ 0
    · rw [if_pos h2, List.filter_cons, nz_t h2, if_pos rfl]
      exact at0
    · rw [if_neg h2, List.filter_cons, nz_f (Decidable.not_not.mp h2), if_neg Bool.false_ne_true, List.filter_cons, nz_t (show z ≠ 0 by unfold NZ at h; omega), if_pos rfl]
      exact at0
theorem pos_nz {x y z : Int} (h : Pos3 x y z) : NZ x y z := by
  unfold Pos3 at h
  unfold NZ
  omega
theorem pos_of {x y z a b c d : Int} (hd : d ≠ 0) (hx : x = d * a) (hy : y = d * b) (hz : z = d * c) (n : NZ x y z) (h : (0 < d ∧ 0 < fst3 x y z) ∨ (d < 0 ∧ fst3 x y z < 0)) : Pos3 a b c := by
  have key : ∀ {x a : Int}, x = d * a → ((x = 0 ↔ a = 0) ∧ ((0 < d ∧ 0 < x) ∨ (d < 0 ∧ x < 0) → 0 < a)) := by
    intro x a e
    subst e
    refine ⟨⟨fun z => ?_, fun z => by rw [z, Int.mul_zero]⟩, fun z => ?_⟩
    · rcases Int.mul_eq_zero.mp z with w | w
      · exact absurd w hd
      · exact w
    · rcases z with ⟨h1, h2⟩ | ⟨h1, h2⟩
      · exact Int.pos_of_mul_pos_left (by rw [Int.mul_comm]; exact h2) h1
      · have h3 : 0 < (-d) * a := by rw [Int.neg_mul]; omega
        exact Int.pos_of_mul_pos_left (by rw [Int.mul_comm]; exact h3) (show 0 < -d by omega)
  obtain ⟨x1, x2⟩ := key hx
  obtain ⟨y1, y2⟩ := key hy
  obtain ⟨z1, z2⟩ := key hz
  unfold fst3 at h
  unfold Pos3
  unfold NZ at n
  by_cases c1 : x = 0
  · rw [if_neg (by omega)] at h
    by_cases c2 : y = 0
    · rw [if_neg (by omega)] at h
      exact .inr (.inr ⟨x1.mp c1, y1.mp c2, z2 h⟩)
    · rw [if_pos c2] at h
      exact .inr (.inl ⟨x1.mp c1, y2 h⟩)
  · rw [if_pos c1] at h
    exact .inl (x2 h)
theorem fst_nz {x y z : Int} (h : NZ x y z) : fst3 x y z ≠ 0 := by
  unfold fst3
  unfold NZ at h
  split
  · assumption
  · split
    · assumption
    · omega
theorem gcd_le {g s t x y k1 k2 : Int} (hx : x.natAbs ≤ Lm) (hy : y.natAbs ≤ Lm) (eg : g = s * x + t * y) (e1 : x = k1 * g) (e2 : y = k2 * g) : g.natAbs ≤ Lm := by
  by_cases h1 : x = 0
  · by_cases h2 : y = 0
    · subst h1 h2
      rw [Int.mul_zero, Int.mul_zero] at eg
      subst eg
      exact Nat.zero_le _
    · refine Nat.le_trans (Nat.le_of_dvd (by omega) (Int.natAbs_dvd_natAbs.mpr ⟨k2, ?_⟩)) hy
      rw [Int.mul_comm]
      exact e2
  · refine Nat.le_trans (Nat.le_of_dvd (by omega) (Int.natAbs_dvd_natAbs.mpr ⟨k1, ?_⟩)) hx
    rw [Int.mul_comm]
    exact e1
structure N3 (a b c : Int) : Prop where
  a0 : a ≠ 0
  b0 : b ≠ 0
  c0 : c ≠ 0
def Qs (a b c : Int) (ks : List Int) : Prop := (∀ x, x ∈ ks ↔ Pr.Prm x ∧ x ≠ 2 ∧ (x ∣ a ∨ x ∣ b ∨ x ∣ c)) ∧ (0 :: 2 :: ks).Pairwise (· < ·)
noncomputable def bads (a b c : Int) (ks : List Int) : List Int := (0 :: 2 :: ks).filter fun x => decide (Jc.At0 (-a * c) (-b * c) x = -1)
def spQuestN : Sp := fun vs H Q _ => ∃ a b c : Int, vs = [.int a, .int b, .int c] ∧ N3 a b c ∧ Sm6 a ∧ Sm6 b ∧ Sm6 c ∧ ∀ (p : Addr) (ks : List Int) (H' : Hp), Same H H' → H p = none → H' p = some (.lst ((0 :: 2 :: ks).map V.int)) → (0 :: 2 :: ks).Pairwise (· < ·) → (0 :: 2 :: ks).length < 100 → (∀ x, x ∈ ks ↔ Pr.Prm x ∧ x ≠ 2 ∧ (x ∣ a ∨ x ∣ b ∨ x ∣ c)) → Q (.ref p) H'
def spBadH : Sp := fun vs H Q _ => ∃ a b c : Int, vs = [.int a, .int b, .int c] ∧ N3 a b c ∧ Sm6 a ∧ Sm6 b ∧ Sm6 c ∧ ∀ (p : Addr) (ks : List Int) (H' : Hp), Same H H' → H p = none → Qs a b c ks → ks.length < 100 → H' p = some (.lst ((bads a b c ks).map V.int)) → Q (.ref p) H'
def Pq (a b x : Int) : Prop := x = 0 ∨ x = 2 ∨ (Pr.Prm x ∧ x ≠ 2 ∧ (x ∣ a ∨ x ∣ b))
theorem at0_or {a b x : Int} (a0 : a ≠ 0) (b0 : b ≠ 0) (h : x = 0 ∨ Pr.Prm x) : Jc.At0 a b x = 1 ∨ Jc.At0 a b x = -1 := by
  unfold Jc.At0
  rcases h with rfl | h
  · rw [if_pos rfl]
    unfold Jc.inf
    split <;> simp
  · rw [if_neg (by have := h.two; omega)]
    exact Jc.H_or h a0 b0
theorem pq_or {a b x : Int} (h : Pq a b x) : x = 0 ∨ Pr.Prm x := by
  rcases h with h | h | h
  · exact .inl h
  · rw [h]; exact .inr Jc.prm_2
  · exact .inr h.1
theorem good_iff {a b : Int} (a0 : a ≠ 0) (b0 : b ≠ 0) : Jc.Good a b ↔ ∀ x, Pq a b x → Jc.At0 a b x ≠ -1 := by
  constructor
  · intro g x h e
    rcases pq_or h with rfl | hp
    · have e0 : Jc.At0 a b 0 = Jc.inf a b := if_pos rfl
      rw [e0, g.i] at e
      cases e
    · have e0 : Jc.At0 a b x = Jc.H x a b := if_neg (by have := hp.two; omega)
      rw [e0, g.h x hp] at e
      cases e
  · intro h
    refine Jc.good_of a0 b0 ?_ fun p hp n2 => ?_
    · have := h 0 (.inl rfl)
      rcases at0_or a0 b0 (.inl rfl) with e | e
      · have e0 : Jc.At0 a b 0 = Jc.inf a b := if_pos rfl
        rw [← e0]
        exact e
      · exact absurd e this
    · have e0 : Jc.At0 a b p = Jc.H p a b := if_neg (by have := hp.two; omega)
      by_cases c : p ∣ a ∨ p ∣ b
      · have := h p (.inr (.inr ⟨hp, n2, c⟩))
        rcases at0_or a0 b0 (.inr hp) with e | e
        · rw [← e0]
          exact e
        · exact absurd e this
      · exact Jc.H_out hp n2 (fun z => c (.inl z)) (fun z => c (.inr z))
theorem prm_dvd_neg1 {x : Int} (hp : Pr.Prm x) : ¬ x ∣ -1 := Jc.not_neg hp
theorem bads_pq {a b : Int} {ks : List Int} (hq : Qs a b (-1) ks) (x : Int) : x ∈ bads a b (-1) ks ↔ Pq a b x ∧ Jc.At0 a b x = -1 := by
  have ea : -a * -1 = a := by omega
  have eb : -b * -1 = b := by omega
  unfold bads
  rw [List.mem_filter, decide_eq_true_iff, ea, eb, List.mem_cons, List.mem_cons, hq.1]
  refine and_congr_left' ?_
  unfold Pq
  constructor
  · rintro (h | h | ⟨hp, n2, h⟩)
    · exact .inl h
    · exact .inr (.inl h)
    · refine .inr (.inr ⟨hp, n2, ?_⟩)
      rcases h with h | h | h
      · exact .inl h
      · exact .inr h
      · exact absurd h (prm_dvd_neg1 hp)
  · rintro (h | h | ⟨hp, n2, h⟩)
    · exact .inl h
    · exact .inr (.inl h)
    · refine .inr (.inr ⟨hp, n2, ?_⟩)
      rcases h with h | h
      · exact .inl h
      · exact .inr (.inl h)
theorem bads_nil {a b : Int} {ks : List Int} (a0 : a ≠ 0) (b0 : b ≠ 0) (hq : Qs a b (-1) ks) (h : bads a b (-1) ks = []) : Jc.Good a b :=
  (good_iff a0 b0).mpr fun x hx e => by
    have := (bads_pq hq x).mpr ⟨hx, e⟩
    rw [h] at this
    cases this
inductive Stp where
  | turn : Stp
  | down : Int → Int → Int → Stp
inductive StepsAt (H : Hp) : List V → List Stp → Prop where
  | nil : StepsAt H [] []
  | turn {r : Addr} {vs : List V} {ss : List Stp} : H r = some (.tup [.str ("turn" : Str)]) → StepsAt H vs ss → StepsAt H (.ref r :: vs) (.turn :: ss)
  | down {r : Addr} {vs : List V} {ss : List Stp} {w c u : Int} : H r = some (.tup [.str ("down" : Str), .int w, .int c, .int u]) → StepsAt H vs ss → StepsAt H (.ref r :: vs) (.down w c u :: ss)
theorem StepsAt.mono {H H' : Hp} {vs : List V} {ss : List Stp} (g : Same H H') (h : StepsAt H vs ss) : StepsAt H' vs ss := by
  induction h with
  | nil => exact .nil
  | turn h _ ih => exact .turn (g _ _ h) ih
  | down h _ ih => exact .down (g _ _ h) ih
theorem StepsAt.len {H : Hp} {vs : List V} {ss : List Stp} (h : StepsAt H vs ss) : vs.length = ss.length := by
  induction h with
  | nil => rfl
  | turn _ _ ih => simp [ih]
  | down _ _ ih => simp [ih]
def Last (a b : Int) : Prop := a = 1 ∨ b = 1 ∨ a + b = 0
inductive Chain : Int → Int → List Stp → Int → Int → Int → Prop where
  | one {b : Int} : Chain 1 b [] 1 1 0
  | two {a : Int} : a ≠ 1 → Chain a 1 [] 1 0 1
  | neg {a b : Int} : a ≠ 1 → b ≠ 1 → a + b = 0 → Chain a b [] 0 1 1
  | turn {a b x y z : Int} {ss : List Stp} : ¬ Last a b → Chain b a ss x y z → Chain a b (.turn :: ss) x z y
  | down {a b c w u x y z : Int} {ss : List Stp} : ¬ Last a b → w * w - a = b * c * (u * u) → 1 ≤ u → Jc.Sf c → 2 * c.natAbs ≤ b.natAbs → 4 * (c.natAbs * u.natAbs) ≤ b.natAbs + 4 → w.natAbs ≤ 500000 → Chain a c ss x y z → Chain a b (.down w c u :: ss) (w * x + a * y) (x + w * y) (c * u * z)
theorem Chain.eq {a b x y z : Int} {ss : List Stp} (h : Chain a b ss x y z) : x * x = a * (y * y) + b * (z * z) := by
  induction h with
  | one => omega
  | two _ => omega
  | neg _ _ h => omega
  | turn _ _ ih => rw [ih, Int.add_comm]
  | @down a b c w u x y z ss _ e _ _ _ _ _ _ ih =>
    have e1 : (w * x + a * y) * (w * x + a * y) - a * ((x + w * y) * (x + w * y)) = (w * w - a) * (x * x - a * (y * y)) := by grind
    have e2 : x * x - a * (y * y) = c * (z * z) := by omega
    rw [e2, e] at e1
    have e3 : b * c * (u * u) * (c * (z * z)) = b * (c * u * z * (c * u * z)) := by grind
    omega
theorem Chain.nz {a b x y z : Int} {ss : List Stp} (h : Chain a b ss x y z) (a0 : a ≠ 0) (b0 : b ≠ 0) : NZ x y z := by
  induction h with
  | one => exact .inl (by decide)
  | two _ => exact .inl (by decide)
  | neg _ _ _ => exact .inr (.inl (by decide))
  | turn _ _ ih =>
    rcases ih b0 a0 with h | h | h
    · exact .inl h
    · exact .inr (.inr h)
    · exact .inr (.inl h)
  | @down a b c w u x y z ss _ e u1 sc _ _ _ _ ih =>
    have hn := ih a0 sc.n0
    by_cases h3 : z = 0
    · by_cases h2 : x + w * y = 0
      · refine .inl fun h1 => ?_
        have hx : x = -(w * y) := by omega
        rw [hx] at h1
        have hy : (w * w - a) * y = 0 := by grind
        have wa : w * w - a ≠ 0 := by
          rw [e]
          exact Int.mul_ne_zero (Int.mul_ne_zero b0 sc.n0) (Int.mul_ne_zero (by omega) (by omega))
        have y0 : y = 0 := (Int.mul_eq_zero.mp hy).resolve_left wa
        rw [y0, Int.mul_zero] at hx
        rcases hn with h | h | h
        · exact h (by omega)
        · exact h y0
        · exact h h3
      · exact .inr (.inl h2)
    · refine .inr (.inr (Int.mul_ne_zero (Int.mul_ne_zero sc.n0 (by omega)) h3))
def lg (a : Int) : Nat := Nat.log2 a.natAbs
def ms (a b : Int) : Nat := 2 * (lg a + lg b) + (if b.natAbs < a.natAbs then 1 else 0)
def bd2 (a b : Int) : Nat := 2 ^ (21 * (lg a + lg b))
theorem lg_le {a : Int} (a0 : a ≠ 0) (h : a.natAbs ≤ 1000000) : lg a ≤ 19 := by
  unfold lg
  have : Nat.log2 a.natAbs < 20 := (Nat.log2_lt (by omega)).mpr (by omega)
  omega
theorem lg_half {b c : Int} (c0 : c ≠ 0) (b0 : b ≠ 0) (h : 2 * c.natAbs ≤ b.natAbs) : lg c + 1 ≤ lg b := by
  unfold lg
  refine (Nat.le_log2 (by omega)).mpr ?_
  have h1 : 2 ^ c.natAbs.log2 ≤ c.natAbs := (Nat.le_log2 (by omega)).mp (Nat.le_refl _)
  rw [Nat.pow_succ]
  omega
theorem ms_turn {a b : Int} (h : b.natAbs < a.natAbs) : ms b a + 1 = ms a b := by
  unfold ms
  rw [if_pos h, if_neg (by omega)]
  omega
theorem ms_down {a b c : Int} (c0 : c ≠ 0) (b0 : b ≠ 0) (h : 2 * c.natAbs ≤ b.natAbs) : ms a c + 1 ≤ ms a b := by
  have := lg_half c0 b0 h
  unfold ms
  split <;> split <;> omega
theorem ms_le {a b : Int} (a0 : a ≠ 0) (b0 : b ≠ 0) (ha : a.natAbs ≤ 1000000) (hb : b.natAbs ≤ 1000000) : ms a b < 78 := by
  have := lg_le a0 ha
  have := lg_le b0 hb
  unfold ms
  split <;> omega
theorem bd2_sym (a b : Int) : bd2 a b = bd2 b a := by
  unfold bd2
  rw [Nat.add_comm]
theorem bd2_pos (a b : Int) : 1 ≤ bd2 a b := Nat.pow_pos (by decide)
theorem bd2_down {a b c : Int} (c0 : c ≠ 0) (b0 : b ≠ 0) (h : 2 * c.natAbs ≤ b.natAbs) : 2097152 * bd2 a c ≤ bd2 a b := by
  have h1 := lg_half c0 b0 h
  unfold bd2
  have e : 2097152 * 2 ^ (21 * (lg a + lg c)) = 2 ^ (21 * (lg a + lg c) + 21) := by rw [Nat.pow_add, Nat.mul_comm]
  rw [e]
  exact Nat.pow_le_pow_right (by decide) (by omega)
theorem bd2_top {a b : Int} (a0 : a ≠ 0) (b0 : b ≠ 0) (ha : a.natAbs ≤ 1000000) (hb : b.natAbs ≤ 1000000) : (bd2 a b : Int) ≤ Top := by
  have h1 := lg_le a0 ha
  have h2 := lg_le b0 hb
  have h3 : bd2 a b ≤ 2 ^ 900 := Nat.pow_le_pow_right (by decide) (by omega)
  rw [Top_eq]
  have e : ((2 ^ 900 : Nat) : Int) = 2 ^ 900 := by rw [Int.natCast_pow]; rfl
  rw [← e]
  exact Int.ofNat_le.mpr h3
theorem lin_bd {w a x y : Int} {M : Nat} (hw : w.natAbs ≤ 500000) (ha : a.natAbs ≤ 1000000) (hx : x.natAbs ≤ M) (hy : y.natAbs ≤ M) : (w * x + a * y).natAbs ≤ 2097152 * M ∧ (x + w * y).natAbs ≤ 2097152 * M := by
  have k : ∀ {u v : Int} {m : Nat}, u.natAbs ≤ m → v.natAbs ≤ M → (u * v).natAbs ≤ m * M := fun h1 h2 => by
    rw [Int.natAbs_mul]
    exact Nat.mul_le_mul h1 h2
  have h1 := k hw hx
  have h2 := k ha hy
  have h3 := k hw hy
  have h4 := Int.natAbs_add_le (w * x) (a * y)
  have h5 := Int.natAbs_add_le x (w * y)
  generalize (w * x + a * y).natAbs = A at *
  generalize (x + w * y).natAbs = B at *
  omega
structure Sm3 (M : Nat) (x y z : Int) : Prop where
  x : x.natAbs ≤ M
  y : y.natAbs ≤ M
  z : z.natAbs ≤ M
def spWalk (n : Nat) : Sp := fun vs H Q _ => ∃ a b : Int, vs = [.int a, .int b] ∧ Jc.Sf a ∧ Jc.Sf b ∧ Jc.Good a b ∧ a.natAbs ≤ 1000000 ∧ b.natAbs ≤ 1000000 ∧ ms a b < n ∧
  ∀ (t p s : Addr) (x y z : Int) (us : List V) (ss : List Stp) (H' : Hp), Same H H' → H s = none → H' t = some (.tup [.ref p, .ref s]) → Sq3 H' p x y z → H' s = some (.lst us) → StepsAt H' us ss → ss.length ≤ ms a b → Chain a b ss x y z → Sm3 (bd2 a b) x y z → Q (.ref t) H'
theorem spWalk_zero {vs : List V} {H : Hp} {Q : VK} {E : XK} (h : spWalk 0 vs H Q E) : False := by
  obtain ⟨_, _, _, _, _, _, _, _, h0, _⟩ := h
  exact absurd h0 (Nat.not_lt_zero _)
def spLastP : Sp := fun vs H Q _ => ∃ a b : Int, vs = [.int a, .int b] ∧ Last a b ∧ ∀ (p : Addr) (x y z : Int) (H' : Hp), Same H H' → Sq3 H' p x y z → Chain a b [] x y z → Sm3 1 x y z → Q (.ref p) H'
def spTurn : Sp := fun vs H Q _ => vs = [] ∧ ∀ (r : Addr) (H' : Hp), Same H H' → H' r = some (.tup [.str ("turn" : Str)]) → Q (.ref r) H'
def spTurned : Sp := fun vs H Q _ => ∃ (p : Addr) (x y z : Int), vs = [.ref p] ∧ Sq3 H p x y z ∧ ∀ (r : Addr) (H' : Hp), Same H H' → Sq3 H' r x z y → Q (.ref r) H'
def spStep : Sp := fun vs H Q _ => ∃ a b : Int, vs = [.int a, .int b] ∧ Jc.Sf a ∧ Jc.Sf b ∧ Jc.Good a b ∧ a.natAbs ≤ 1000000 ∧ b.natAbs ≤ 1000000 ∧ ¬ Last a b ∧ a.natAbs ≤ b.natAbs ∧ ∀ (r : Addr) (w c u : Int) (H' : Hp), Same H H' → H' r = some (.tup [.str ("down" : Str), .int w, .int c, .int u]) →
  w * w - a = b * c * (u * u) → 1 ≤ u → Jc.Sf c → 2 * c.natAbs ≤ b.natAbs → 4 * (c.natAbs * u.natAbs) ≤ b.natAbs + 4 → w.natAbs ≤ 500000 → Jc.Good a c → Q (.ref r) H'
def spLower : Sp := fun vs H Q _ => ∃ (a : Int) (r p : Addr) (w c u x y z : Int), vs = [.int a, .ref r, .ref p] ∧ H r = some (.tup [.str ("down" : Str), .int w, .int c, .int u]) ∧ Sq3 H p x y z ∧ a.natAbs ≤ 1000000 ∧ w.natAbs ≤ 1000000 ∧ c.natAbs ≤ 1000000 ∧ u.natAbs ≤ 1000000 ∧ c.natAbs * u.natAbs ≤ 1000000 ∧ ∀ (q : Addr) (H' : Hp), Same H H' → Sq3 H' q (w * x + a * y) (x + w * y) (c * u * z) → Q (.ref q) H'
def spPP : Sp := fun vs H Q _ => ∃ a b : Int, vs = [.int a, .int b] ∧ Jc.Sf a ∧ Jc.Sf b ∧ a.natAbs ≤ 1000000 ∧ b.natAbs ≤ 1000000 ∧
  (∀ (t p s : Addr) (x y z X Y Z d : Int) (us : List V) (ss : List Stp) (H' : Hp), Jc.Good a b → Same H H' → H s = none → H' t = some (.tup [.str ("point" : Str), .ref p, .ref s]) → Sq3 H' p x y z → One3 x y z → Pos3 x y z → x * x = a * (y * y) + b * (z * z) → H' s = some (.lst us) → StepsAt H' us ss → ss.length ≤ 77 → Chain a b ss X Y Z → d ≠ 0 → X = d * x → Y = d * y → Z = d * z → Sm3 (bd2 a b) X Y Z → Q (.ref t) H') ∧
  (∀ (t : Addr) (p : Int) (H' : Hp), Same H H' → H' t = some (.tup [.str ("none" : Str), .int p]) → Pq a b p → Jc.At0 a b p = -1 → Q (.ref t) H')
theorem scale_eq {a b X Y Z x y z d : Int} (h : X * X = a * (Y * Y) + b * (Z * Z)) (d0 : d ≠ 0) (ex : X = d * x) (ey : Y = d * y) (ez : Z = d * z) : x * x = a * (y * y) + b * (z * z) := by
  subst ex ey ez
  have e : d * d * (x * x) = d * d * (a * (y * y) + b * (z * z)) := by grind
  exact Int.eq_of_mul_eq_mul_left (Int.mul_ne_zero d0 d0) e
theorem small_mul {m x : Int} (h : m.natAbs ≤ 1000000) : IntMulOk m x := IntMulOk.of_left (intBits_le_64 (by omega) (by omega))
theorem abs_dvd' {b n : Int} (h : absI b ∣ n) : b ∣ n := by
  unfold absI at h
  split at h
  · exact Int.neg_dvd.mp h
  · exact h

def spChurn : Sp := fun vs H Q _ => ∃ (c t : Int), vs = [.int c, .int t] ∧ 0 ≤ t ∧ t ≤ 100 ∧ ∀ x : Int, 0 ≤ x → x ≤ 2147483563 → Q (.int x) H
def Sqf (m : Int) : Prop := ∀ d : Int, 2 ≤ d → ¬ d * d ∣ m
structure Mad (n : Int) (L : List Int) : Prop where
  sf : Jc.Sf n
  pos : 0 < n
  mem : ∀ p, Pr.Prm p → p ∣ n → p ∈ L
theorem sf_mul {n z : Int} (h : Jc.Sf n) (hz : Pr.Prm z) (nd : ¬ z ∣ n) : Jc.Sf (n * z) := by
  have z2 := hz.two
  refine ⟨Int.mul_ne_zero h.n0 (by omega), fun p hp d => ?_⟩
  by_cases e : p = z
  · subst e
    have := Int.dvd_of_mul_dvd_mul_right (by omega : p ≠ 0) d
    exact nd this
  · have nz : ¬ p ∣ z := fun k => e (Pr.prm_dvd_prm hp hz k)
    have d1 : p ∣ n := by
      rcases Pr.euclid hp (Int.dvd_trans (Int.dvd_mul_left p p) d) with k | k
      · exact k
      · exact absurd k nz
    obtain ⟨m, rfl⟩ := d1
    have p2 := hp.two
    have d2 : p ∣ m * z := by
      rw [Int.mul_assoc] at d
      exact Int.dvd_of_mul_dvd_mul_left (by omega) d
    rcases Pr.euclid hp d2 with k | k
    · exact h.sq p hp (Int.mul_dvd_mul (Int.dvd_refl p) k)
    · exact nz k
theorem sf_neg {n : Int} (h : Jc.Sf n) : Jc.Sf (0 - n) := ⟨by have := h.n0; omega, fun p hp d => h.sq p hp (by rw [Int.zero_sub, Int.dvd_neg] at d; exact d)⟩
theorem sf_one : Jc.Sf 1 := ⟨by decide, fun p hp d => Pr.prm_not_one hp (Int.dvd_trans (Int.dvd_mul_left p p) d)⟩
theorem Mad.one : Mad 1 [] := ⟨sf_one, by decide, fun p hp d => absurd d (Pr.prm_not_one hp)⟩
theorem Mad.mono {n : Int} {L T : List Int} (h : Mad n L) (hs : ∀ w ∈ L, w ∈ T) : Mad n T := ⟨h.sf, h.pos, fun p hp d => hs _ (h.mem p hp d)⟩
theorem Mad.mul {n z : Int} {L T : List Int} (h : Mad n L) (hz : Pr.Prm z) (nz : z ∉ L) (hs : ∀ w ∈ L, w ∈ T) (ht : z ∈ T) : Mad (n * z) T := by
  have z2 := hz.two
  refine ⟨sf_mul h.sf hz fun d => nz (h.mem z hz d), Int.mul_pos h.pos (by omega), fun p hp d => ?_⟩
  rcases Pr.euclid hp d with k | k
  · exact hs _ (h.mem p hp k)
  · rw [Pr.prm_dvd_prm hp hz k]
    exact ht
abbrev P10 : List Int := [2, 3, 5, 7, 11, 13, 17, 19, 23, 29]
abbrev P8 : List Int := [31, 37, 41, 43, 47, 53, 59, 61]
abbrev P18 : List Int := [2, 3, 5, 7, 11, 13, 17, 19, 23, 29, 31, 37, 41, 43, 47, 53, 59, 61]
theorem chk18 : (P18.all fun p => decide (2 ≤ p ∧ p < 64) && Jc.noDiv2 p.toNat 8) = true := by decide +kernel
theorem prm18 {p : Int} (h : p ∈ P18) : Pr.Prm p := by
  have c := List.all_eq_true.mp chk18 p h
  rw [Bool.and_eq_true] at c
  have b := of_decide_eq_true c.1
  have q := Jc.prm_by2 (p := p.toNat) (m := 8) (by omega) (by omega) c.2
  rw [Int.toNat_of_nonneg (by omega)] at q
  exact q
theorem step10 : ∀ i : Nat, i < 10 → P10.getD i 0 ∈ P18 ∧ P10.getD i 0 ∉ P10.take i ∧ P10.getD i 0 ∈ P10.take (i + 1) ∧ (∀ w ∈ P10.take i, w ∈ P10.take (i + 1)) ∧ P10.getD i 0 ≤ 29 := by decide
theorem step8 : ∀ i : Nat, i < 8 → P8.getD i 0 ∈ P18 ∧ P8.getD i 0 ∉ P10 ∧ P8.getD i 0 ≤ 61 := by decide
theorem p10_18 : ∀ w ∈ P10, w ∈ P18 := by decide
theorem atL2 {L : List Int} {k : Int} (h0 : 0 ≤ k) (h1 : k < (L.length : Nat)) : atI (L.map V.int) k = some (.int (L.getD k.toNat 0)) := by
  have hk : k.toNat < L.length := by omega
  have q : atI (L.map V.int) ((k.toNat : Nat) : Int) = some (.int (L.getD k.toNat 0)) := atI_nat (by
    rw [List.getElem?_map, List.getD_eq_getElem?_getD, List.getElem?_eq_getElem hk]
    rfl)
  rw [show ((k.toNat : Nat) : Int) = k by omega] at q
  exact q
theorem at10 {i : Nat} (h : i < 10) : atI (P10.map V.int) (0 + (i : Int)) = some (.int (P10.getD i 0)) := by
  have q := atL2 (L := P10) (k := 0 + (i : Int)) (by omega) (by show 0 + (i : Int) < 10; omega)
  rw [show (0 + (i : Int)).toNat = i by omega] at q
  exact q
def spPick (K : PySem.W.Frag) : Sp := fun vs H Q _ => ∃ (a : Addr) (ns : List Int) (st tn M : Int), vs = [.ref a, .int st, .int tn, .int M] ∧ SqL K H a (ns.map V.int) ∧ 0 ≤ st ∧ st ≤ 60 ∧ 1 ≤ tn ∧ tn ≤ 5 ∧ 1 ≤ M ∧ M ≤ 1000000 ∧ ∀ (n : Int) (H' : Hp), Same H H' → Jc.Sf n → (n.natAbs : Int) ≤ M → Q (.int n) H'
def spRightP : Sp := fun vs H Q _ => ∃ a b : Int, vs = [.int a, .int b] ∧ Jc.Sf a ∧ Jc.Sf b ∧ a.natAbs ≤ 1000000 ∧ b.natAbs ≤ 1000000 ∧ ∀ H', Same H H' → Q (.bl true) H'
theorem inV_int {x : Int} {l : List Int} (h : x ∈ l) : inV (.int x) (l.map V.int) = true := by
  unfold inV
  rw [List.any_eq_true]
  exact ⟨.int x, List.mem_map.mpr ⟨x, h, rfl⟩, by show (x == x) = true; simp⟩
theorem flat_ints (L : List Int) : (L.map V.int).all flatV = true := by
  rw [List.all_eq_true]
  intro x hx
  obtain ⟨z, _, rfl⟩ := List.mem_map.mp hx
  rfl
theorem al_scale {a b c x y z d : Int} (hx : x = d * a) (hy : y = d * b) (hz : z = d * c) : Al a b c x y z := by
  subst hx hy hz
  exact ⟨by grind, by grind, by grind⟩
open Sm Lw Pn
theorem okB {x y : Int} (hx : Bd 4000 x) (hy : Bd 4000 y) : IntMulOk x y :=
  IntMulOk.of_le (m := 4001) (n := 4001) (intBits_le_iff.mpr (Nat.lt_of_le_of_lt hx (Nat.pow_lt_pow_right (by decide) (by decide)))) (intBits_le_iff.mpr (Nat.lt_of_le_of_lt hy (Nat.pow_lt_pow_right (by decide) (by decide)))) (by decide)
theorem okM {j k : Nat} {x y : Int} (hx : Bd j x) (hy : Bd k y) (h1 : j ≤ 4000 := by omega) (h2 : k ≤ 4000 := by omega) : IntMulOk x y := okB (hx.mono h1) (hy.mono h2)
theorem bd_in {x : Int} (h : -Top ≤ x ∧ x ≤ Top) : Bd 900 x := by
  rw [Top_eq] at h
  unfold Bd
  have e : ((2 ^ 900 : Nat) : Int) = 2 ^ 900 := by rw [Int.natCast_pow]; rfl
  rw [← e] at h
  omega
theorem bd6 {x : Int} (h : x.natAbs ≤ 1000000) : Bd 20 x := by
  unfold Bd
  have : (2 : Nat) ^ 20 = 1048576 := by decide
  omega
def Cmb (x y z f : Int) : Prop := ∃ u v w : Int, u * x + v * y + w * z = f
theorem Cmb.rest {x y z f o : Int} (h : Cmb x y z f) (k : Cmb x y z o) : Cmb x y z (f % o) := by
  obtain ⟨u, v, w, e⟩ := h
  obtain ⟨u', v', w', e'⟩ := k
  refine ⟨u - u' * (f / o), v - v' * (f / o), w - w' * (f / o), ?_⟩
  have h := Int.mul_ediv_add_emod f o
  generalize f / o = k at h ⊢
  generalize f % o = r at h ⊢
  grind
theorem Cmb.neg {x y z f : Int} (h : Cmb x y z f) : Cmb x y z (-f) := by
  obtain ⟨u, v, w, e⟩ := h
  exact ⟨-u, -v, -w, by rw [← e]; grind⟩
theorem Cmb.mem {x y z n : Int} (h : n ∈ [x, y, z]) : Cmb x y z n := by
  have : n = x ∨ n = y ∨ n = z := by simpa using h
  rcases this with rfl | rfl | rfl
  · exact ⟨1, 0, 0, by omega⟩
  · exact ⟨0, 1, 0, by omega⟩
  · exact ⟨0, 0, 1, by omega⟩
theorem step_dvd {f o d : Int} (h1 : d ∣ o) (h2 : d ∣ f % o) : d ∣ f ∧ d ∣ o := ⟨by
  rw [← Int.mul_ediv_add_emod f o]
  exact Int.dvd_add (Int.dvd_trans h1 (Int.dvd_mul_right o _)) h2, h1⟩
def fdv (e : Int) : V → V
  | .int n => .int (n.fdiv e)
  | v => v
def spCoreG : Sp := fun vs H Q _ => ∃ n : Int, vs = [.int n] ∧ n ≠ 0 ∧ n.natAbs ≤ 1000000 ∧ ∀ m s : Int, s ≠ 0 → n = m * (s * s) → Jc.Sf m → m.natAbs ≤ n.natAbs → Q (.int m) H
def spPointT : Sp := fun vs H Q _ => ∃ (p : Addr) (a b x y z : Int), vs = [.ref p, .int a, .int b] ∧ Sq3 H p x y z ∧ In3 Top x y z ∧ One3 x y z ∧ Pos3 x y z ∧ a.natAbs ≤ 1000000 ∧ b.natAbs ≤ 1000000 ∧ x * x = a * (y * y) + b * (z * z) ∧ ∀ H', Same H H' → Q (.bl true) H'
def spSec (F R A : Int) : Sp := fun vs H Q _ => ∃ a c : Int, vs = [.int a, .int c, .int F, .int R] ∧ Jc.Sf a ∧ (a.natAbs : Int) ≤ A ∧ ∀ n : Int, Jc.Sf n → Jc.Good a n → (n.natAbs : Int) ≤ (F + 1) * (F + 1) + A * (R * R) → Q (.int n) H
def spHasP : Sp := fun vs H Q _ => ∃ a b : Int, vs = [.int a, .int b] ∧ Jc.Sf a ∧ Jc.Sf b ∧ a.natAbs ≤ 1000000 ∧ b.natAbs ≤ 1000000 ∧ Jc.Good a b ∧ ∀ H', Same H H' → Q (.bl true) H'
theorem low_same {x y z a b c d : Int} (o : One3 x y z) (p : Pos3 x y z) (o' : One3 a b c) (p' : Pos3 a b c) (ex : x = d * a) (ey : y = d * b) (ez : z = d * c) : a = x ∧ b = y ∧ c = z := uniq o' o p' p (al_scale ex ey ez)
theorem in3_of_sm {M : Nat} {X Y Z x y z d : Int} (s : Sm3 M X Y Z) (hM : (M : Int) ≤ Top) (d0 : d ≠ 0) (ex : X = d * x) (ey : Y = d * y) (ez : Z = d * z) : In3 Top x y z := by
  have k : ∀ {u v : Int}, u.natAbs ≤ M → u = d * v → -Top ≤ v ∧ v ≤ Top := fun {u v} h e => by
    rw [e, Int.natAbs_mul] at h
    have := Nat.le_mul_of_pos_left v.natAbs (show 0 < d.natAbs by omega)
    omega
  exact ⟨k s.x ex, k s.y ey, k s.z ez⟩
def d3 (x y z : Int) : PyData := .tuple [.int x, .int y, .int z]
theorem DA3 {H : Hp} {p : Addr} {x y z : Int} (h : Sq3 H p x y z) : DA H (.ref p) (d3 x y z) := .tup h (.cons .int (.cons .int (.cons .int .nil)))
theorem eqv3 (x y z a b c : Int) : PyData.eqv (d3 x y z) (d3 a b c) = decide (x = a ∧ y = b ∧ z = c) := by
  show ((x == a) && ((y == b) && ((z == c) && true))) = _
  by_cases h1 : x = a <;> by_cases h2 : y = b <;> by_cases h3 : z = c <;> simp [h1, h2, h3]
def SqF (n : Int) : Prop := n ≠ 0 ∧ ∀ p, Pr.Prm p → ¬ p * p ∣ n
theorem prm_of {n : Int} (h : 2 ≤ n) : ∃ p, Pr.Prm p ∧ p ∣ n := Jc.prm_div n.natAbs n (Nat.le_refl _) h
def spNoSqB : Sp := fun vs H Q _ => ∃ n : Int, vs = [.int n] ∧ Sm6 n ∧ ∀ (b : Bool) (H' : Hp), Same H H' → (b = true ↔ SqF n) → Q (.bl b) H'
theorem at3s {a b c k : Int} (h0 : 0 ≤ k) (h1 : k < 3) : ∃ n, atI [V.int a, .int b, .int c] k = some (.int n) ∧ (n = a ∨ n = b ∨ n = c) := by
  rcases (show k = 0 ∨ k = 1 ∨ k = 2 by omega) with z | z | z <;> subst z
  · exact ⟨a, rfl, .inl rfl⟩
  · exact ⟨b, rfl, .inr (.inl rfl)⟩
  · exact ⟨c, rfl, .inr (.inr rfl)⟩
theorem rt_small {x p : Int} (hp : 0 < p) (h : Pl.Rt x p) : ∃ r, 0 ≤ r ∧ r < p / 2 + 1 ∧ (r * r - x) % p = 0 := by
  obtain ⟨s, k, hs⟩ := h
  have e0 := Int.mul_ediv_add_emod s p
  have r0 := Int.emod_nonneg s (show p ≠ 0 by omega)
  have r1 := Int.emod_lt_of_pos s hp
  generalize s % p = r at e0 r0 r1
  generalize s / p = u at e0
  by_cases c : r < p / 2 + 1
  · refine ⟨r, r0, c, Int.emod_eq_zero_of_dvd ⟨k - u * (s + r), ?_⟩⟩
    have e1 : s * s - r * r = p * (u * (s + r)) := by
      rw [← e0]
      grind
    rw [Int.mul_sub]
    omega
  · refine ⟨p - r, by omega, by omega, Int.emod_eq_zero_of_dvd ⟨k - u * (s + r) + (p - 2 * r), ?_⟩⟩
    have e1 : s * s - r * r = p * (u * (s + r)) := by
      rw [← e0]
      grind
    have e2 : (p - r) * (p - r) = r * r + p * (p - 2 * r) := by grind
    have e3 : p * (k - u * (s + r) + (p - 2 * r)) = p * k - p * (u * (s + r)) + p * (p - 2 * r) := by grind
    rw [e2, e3]
    omega
theorem hu_of {A : Around} {k : Nat} (hr : Room k A) : A.units + 1 < cLine := by
  have := hr.un
  omega

def es10 : List Expr := match defBody s_picked with
  | _ :: .For _ _ (.Assign _ (.Subscript (.List es _) _ _) _ :: _) _ _ :: _ => es
  | _ => []
theorem hes10 : IntsE es10 P10 := .cons (.cons (.cons (.cons (.cons (.cons (.cons (.cons (.cons (.cons .nil)))))))))
def b17 : List Stmt := match defBody s_no_point with
  | _ :: _ :: _ :: .If _ b _ _ :: _ => b
  | _ => []
def spPickM (K : PySem.W.Frag) : Sp := fun vs H Q _ => ∃ (a : Addr) (ns : List Int) (st tn M : Int), vs = [.ref a, .int st, .int tn, .int M] ∧ SqL K H a (ns.map V.int) ∧ 0 ≤ st ∧ st ≤ 60 ∧ 1 ≤ tn ∧ tn ≤ 5 ∧ 1 ≤ M ∧ M ≤ 1000000 ∧ ∀ (n : Int) (H' : Hp), Same H H' → Jc.Sf n → (n.natAbs : Int) ≤ M → (∀ p, Pr.Prm p → p ∣ n → p ∈ P18) → Q (.int n) H'
theorem sf_iff {n : Int} : SqF n ↔ Jc.Sf n := ⟨fun h => ⟨h.1, h.2⟩, fun h => ⟨h.n0, h.sq⟩⟩
def spPPX (C : Addr) : Sp := fun vs H Q E => ∃ a b : Int, vs = [.int a, .int b] ∧ a.natAbs ≤ 1000000 ∧ b.natAbs ≤ 1000000 ∧ (¬ (SqF a ∧ SqF b) → ∀ H', Same H H' → E (.ref C) none H') ∧ (SqF a → SqF b → spPP vs H Q E)
theorem nsq_of {k n : Int} (k2 : 2 ≤ k) (h : k * k ∣ n) : ¬ SqF n := fun z => by
  obtain ⟨p, hp, pk⟩ := prm_of k2
  exact z.2 p hp (Int.dvd_trans (Int.mul_dvd_mul pk pk) h)
abbrev P17 : List Int := [3, 5, 7, 11, 13, 17, 19, 23, 29, 31, 37, 41, 43, 47, 53, 59, 61]
theorem p17_of : ∀ p ∈ P18, p ≠ 2 → p ∈ P17 := by decide
theorem p17_lt : ∀ p ∈ P17, 2 < p ∧ p < 62 := by decide
def spRootB : Sp := fun vs H Q _ => ∃ n p : Int, vs = [.int n, .int p] ∧ 2 < p ∧ p < 1000 ∧ ∀ b : Bool, (b = true ↔ Pl.Rt n p) → Q (.bl b) H
def spNone16 : Sp := fun vs H Q _ => ∃ a b : Int, vs = [.int a, .int b] ∧ ¬ Jc.FitsR a b 2 16 ∧ ∀ H', Same H H' → Q (.bl true) H'
def spNoPt : Sp := fun vs H Q _ => ∃ a b p : Int, vs = [.int a, .int b, .int p] ∧ Jc.Sf a ∧ Jc.Sf b ∧ a.natAbs ≤ 1000000 ∧ b.natAbs ≤ 1000000 ∧ Pq a b p ∧ Jc.At0 a b p = -1 ∧ (p = 0 ∨ p = 2 ∨ p ∈ P17) ∧ ∀ H', Same H H' → Q (.bl true) H'
def spRef32 : Sp := fun vs H Q _ => ∃ a b : Int, vs = [.int a, .int b] ∧ a.natAbs ≤ 1000000 ∧ b.natAbs ≤ 1000000 ∧ ¬ (SqF a ∧ SqF b) ∧ ∀ H', Same H H' → Q (.bl true) H'
theorem none16 {a b : Int} (sa : Jc.Sf a) (sb : Jc.Sf b) (h : Jc.At0 a b 2 = -1) : ¬ Jc.FitsR a b 2 16 := by
  have e : Jc.At0 a b 2 = Jc.H 2 a b := if_neg (by decide)
  obtain ⟨l1, o1, d1⟩ := Jc.decs Jc.prm_2 sa.n0
  obtain ⟨l2, o2, d2⟩ := Jc.decs Jc.prm_2 sb.n0
  rw [e, Jc.H_eq Jc.prm_2 d1 d2] at h
  rcases Jc.tells2 d1 d2 (sa.sq 2 Jc.prm_2) (sb.sq 2 Jc.prm_2) with ⟨_, z⟩ | ⟨z, _⟩
  · rw [h] at z
    cases z
  · exact z
theorem no_rt {x p : Int} (hp : Pr.Prm p) (n2 : p ≠ 2) (nd : ¬ p ∣ x) (h : Jc.J x p = -1) : ¬ Pl.Rt x p := fun r => by
  have p2 := hp.two
  obtain ⟨q, rfl⟩ : ∃ q : Nat, p = (q : Int) := ⟨p.toNat, by omega⟩
  have po : q % 2 = 1 := by
    rcases (show q % 2 = 1 ∨ q % 2 = 0 by omega) with z | z
    · exact z
    · have d : (2 : Int) ∣ (q : Int) := by omega
      exact absurd (Pr.prm_dvd_prm Jc.prm_2 hp d).symm n2
  have e := Pl.root_rt hp po nd r
  rw [h] at e
  cases e
theorem odd_ways {a b p : Int} (sa : Jc.Sf a) (sb : Jc.Sf b) (hp : Pr.Prm p) (n2 : p ≠ 2) (h : Jc.At0 a b p = -1) :
    (∃ l1 l2, a = p * l1 ∧ b = p * l2 ∧ ¬ Pl.Rt (0 - l1 * l2) p) ∨ (p ∣ a ∧ ¬ p ∣ b ∧ ¬ Pl.Rt b p) ∨ (¬ p ∣ a ∧ p ∣ b ∧ ¬ Pl.Rt a p) := by
  have p2 := hp.two
  have e : Jc.At0 a b p = Jc.H p a b := if_neg (by omega)
  obtain ⟨l1, o1, d1⟩ := Jc.decs hp sa.n0
  obtain ⟨l2, o2, d2⟩ := Jc.decs hp sb.n0
  rw [e, Jc.H_eq hp d1 d2] at h
  unfold Jc.hs at h
  rw [if_neg n2] at h
  unfold Jc.odd4 at h
  have n1 := d1.nd
  have n2' := d2.nd
  rcases Jc.dec_few (by omega) d1 (sa.sq p hp) with ⟨rfl, e1⟩ | ⟨rfl, e1⟩ <;> rcases Jc.dec_few (by omega) d2 (sb.sq p hp) with ⟨rfl, e2⟩ | ⟨rfl, e2⟩
  · rw [if_neg (by decide), if_neg (by decide)] at h
    cases h
  · rw [if_neg (by decide), if_pos (by decide)] at h
    subst e1
    exact .inr (.inr ⟨n1, ⟨l2, e2⟩, no_rt hp n2 n1 h⟩)
  · rw [if_pos (by decide), if_neg (by decide)] at h
    subst e2
    exact .inr (.inl ⟨⟨l1, e1⟩, n2', no_rt hp n2 n2' h⟩)
  · rw [if_pos (by decide), if_pos (by decide)] at h
    refine .inl ⟨l1, l2, e1, e2, ?_⟩
    have e3 : -l1 * l2 = 0 - l1 * l2 := by rw [Int.neg_mul]; omega
    rw [e3] at h
    refine no_rt hp n2 (fun d => ?_) h
    have d' : p ∣ l1 * l2 := by
      rw [Int.zero_sub, Int.dvd_neg] at d
      exact d
    rcases Pr.euclid hp d' with z | z
    · exact n1 z
    · exact n2' z
theorem iteFE {b : Bool} {A B : Prop} (h : b = false) (hB : B) : if b = true then A else B := by
  subst h
  exact iteF hB
theorem at3p (c : Int) : ∃ M : Int, atI [V.int 30, .int (10 ^ Int.toNat 6), .int (10 ^ Int.toNat 6)] (c % 3) = some (.int M) ∧ 1 ≤ M ∧ M ≤ 1000000 := by
  rcases (show c % 3 = 0 ∨ c % 3 = 1 ∨ c % 3 = 2 by omega) with z | z | z
  · exact ⟨30, by rw [z]; rfl, by decide, by decide⟩
  · exact ⟨10 ^ Int.toNat 6, by rw [z]; rfl, by decide, by decide⟩
  · exact ⟨10 ^ Int.toNat 6, by rw [z]; rfl, by decide, by decide⟩

section
variable {P : Program} {w : World} {K : PySem.W.Frag} {mg : Str → Option Value} {base : Heap} {t : Adr}
theorem sc_prime_parts : FnScope ["number", "parts", "left", "divisor", "taken"] ["number"] (defScope s_prime_parts) := ⟨rfl, rfl, rfl, by decide +kernel, rfl, by decide +kernel, by decide +kernel⟩
theorem sc_divisor_after : FnScope ["divisor"] ["divisor"] (defScope s_divisor_after) := ⟨rfl, rfl, rfl, by decide +kernel, rfl, by decide +kernel, by decide +kernel⟩
theorem sc_taken_out : FnScope ["number", "prime", "often", "left"] ["number", "prime"] (defScope s_taken_out) := ⟨rfl, rfl, rfl, by decide +kernel, rfl, by decide +kernel, by decide +kernel⟩
theorem sc_core_of : FnScope ["number", "core", "root", "prime", "often", "turn"] ["number"] (defScope s_core_of) := ⟨rfl, rfl, rfl, by decide +kernel, rfl, by decide +kernel, by decide +kernel⟩
theorem sc_is_without_squares : FnScope ["number"] ["number"] (defScope s_is_without_squares) := ⟨rfl, rfl, rfl, by decide +kernel, rfl, by decide +kernel, by decide +kernel⟩
theorem sc_power_by : FnScope ["number", "k", "n", "power", "factor", "left"] ["number", "k", "n"] (defScope s_power_by) := ⟨rfl, rfl, rfl, by decide +kernel, rfl, by decide +kernel, by decide +kernel⟩
theorem sc_sign_by : FnScope ["number", "n", "sign", "top", "bottom", "twos", "odd"] ["number", "n"] (defScope s_sign_by) := ⟨rfl, rfl, rfl, by decide +kernel, rfl, by decide +kernel, by decide +kernel⟩
theorem sc_sign_of_two : FnScope ["odd"] ["odd"] (defScope s_sign_of_two) := ⟨rfl, rfl, rfl, by decide +kernel, rfl, by decide +kernel, by decide +kernel⟩
theorem sc_sign_of_turn : FnScope ["one", "other"] ["one", "other"] (defScope s_sign_of_turn) := ⟨rfl, rfl, rfl, by decide +kernel, rfl, by decide +kernel, by decide +kernel⟩
theorem sc_shares_of : FnScope ["one", "other", "upper", "lower", "below"] ["one", "other"] (defScope s_shares_of) := ⟨rfl, rfl, rfl, by decide +kernel, rfl, by decide +kernel, by decide +kernel⟩
theorem sc_row_less : FnScope ["row", "taken", "times"] ["row", "taken", "times"] (defScope s_row_less) := ⟨rfl, rfl, rfl, by decide +kernel, rfl, by decide +kernel, by decide +kernel⟩
theorem sc_places_without_point : FnScope ["a", "b", "c"] ["a", "b", "c"] (defScope s_places_without_point) := ⟨rfl, rfl, rfl, by decide +kernel, rfl, by decide +kernel, by decide +kernel⟩
theorem sc_places_in_question : FnScope ["a", "b", "c", "odd_primes", "number"] ["a", "b", "c"] (defScope s_places_in_question) := ⟨rfl, rfl, rfl, by decide +kernel, rfl, by decide +kernel, by decide +kernel⟩
theorem sc_sign_at : FnScope ["a", "b", "place", "one", "other"] ["a", "b", "place"] (defScope s_sign_at) := ⟨rfl, rfl, rfl, by decide +kernel, rfl, by decide +kernel, by decide +kernel⟩
theorem sc_sign_at_odd : FnScope ["one", "other", "prime", "one_is_odd", "other_is_odd"] ["one", "other", "prime"] (defScope s_sign_at_odd) := ⟨rfl, rfl, rfl, by decide +kernel, rfl, by decide +kernel, by decide +kernel⟩
theorem sc_sign_at_two : FnScope ["one", "other", "sign"] ["one", "other"] (defScope s_sign_at_two) := ⟨rfl, rfl, rfl, by decide +kernel, rfl, by decide +kernel, by decide +kernel⟩
theorem sc_joined_rests : FnScope ["r", "n", "s", "m", "shares", "greatest", "least", "steps"] ["r", "n", "s", "m"] (defScope s_joined_rests) := ⟨rfl, rfl, rfl, by decide +kernel, rfl, by decide +kernel, by decide +kernel⟩
theorem sc_root_or_prime : FnScope ["number", "n", "joined", "prime", "often"] ["number", "n"] (defScope s_root_or_prime) := ⟨rfl, rfl, rfl, by decide +kernel, rfl, by decide +kernel, by decide +kernel⟩
theorem sc_has_root : FnScope ["number", "prime"] ["number", "prime"] (defScope s_has_root) := ⟨rfl, rfl, rfl, by decide +kernel, rfl, by decide +kernel, by decide +kernel⟩
theorem sc_root_by_prime : FnScope ["number", "prime"] ["number", "prime"] (defScope s_root_by_prime) := ⟨rfl, rfl, rfl, by decide +kernel, rfl, by decide +kernel, by decide +kernel⟩
theorem sc_root_by_odd_prime : FnScope ["number", "prime", "odd", "root", "over", "turner", "half"] ["number", "prime"] (defScope s_root_by_odd_prime) := ⟨rfl, rfl, rfl, by decide +kernel, rfl, by decide +kernel, by decide +kernel⟩
theorem sc_least_without_root : FnScope ["prime", "number"] ["prime"] (defScope s_least_without_root) := ⟨rfl, rfl, rfl, by decide +kernel, rfl, by decide +kernel, by decide +kernel⟩
theorem sc_lowest_point : FnScope ["P", "divisor"] ["P"] (defScope s_lowest_point) := ⟨rfl, rfl, rfl, by decide +kernel, rfl, by decide +kernel, by decide +kernel⟩
theorem sc_pair_point : FnScope ["a", "b", "places", "walked"] ["a", "b"] (defScope s_pair_point) := ⟨rfl, rfl, rfl, by decide +kernel, rfl, by decide +kernel, by decide +kernel⟩
theorem sc_walked_down : FnScope ["a", "b", "step", "walked"] ["a", "b"] (defScope s_walked_down) := ⟨rfl, rfl, rfl, by decide +kernel, rfl, by decide +kernel, by decide +kernel⟩
theorem sc_point_of_last : FnScope ["a", "b"] ["a", "b"] (defScope s_point_of_last) := ⟨rfl, rfl, rfl, by decide +kernel, rfl, by decide +kernel, by decide +kernel⟩
theorem sc_turn : FnScope [] [] (defScope s_turn) := ⟨rfl, rfl, rfl, by decide +kernel, rfl, by decide +kernel, by decide +kernel⟩
theorem sc_point_of_turned : FnScope ["point"] ["point"] (defScope s_point_of_turned) := ⟨rfl, rfl, rfl, by decide +kernel, rfl, by decide +kernel, by decide +kernel⟩
theorem sc_step_down : FnScope ["a", "b", "root", "core"] ["a", "b"] (defScope s_step_down) := ⟨rfl, rfl, rfl, by decide +kernel, rfl, by decide +kernel, by decide +kernel⟩
theorem sc_point_of_lower : FnScope ["a", "step", "point", "w"] ["a", "step", "point"] (defScope s_point_of_lower) := ⟨rfl, rfl, rfl, by decide +kernel, rfl, by decide +kernel, by decide +kernel⟩
theorem sc_cell_at : FnScope ["_law_script", "_law_k"] ["_law_script", "_law_k"] (defScope s_cell_at) := ⟨rfl, rfl, rfl, by decide +kernel, rfl, by decide +kernel, by decide +kernel⟩
theorem sc_churn : FnScope ["_law_cell", "_law_turn", "_law_x", "_law_k", "_law_y"] ["_law_cell", "_law_turn"] (defScope s_churn) := ⟨rfl, rfl, rfl, by decide +kernel, rfl, by decide +kernel, by decide +kernel⟩
theorem sc_whole : FnScope ["_law_found"] ["_law_found"] (defScope s_whole) := ⟨rfl, rfl, rfl, by decide +kernel, rfl, by decide +kernel, by decide +kernel⟩
theorem sc_lowest : FnScope ["_law_point_here", "_law_share", "_law_number", "_law_one"] ["_law_point_here"] (defScope s_lowest) := ⟨rfl, rfl, rfl, by decide +kernel, rfl, by decide +kernel, by decide +kernel⟩
theorem sc_point : FnScope ["_law_found", "_law_a", "_law_b", "_law_x", "_law_y", "_law_z"] ["_law_found", "_law_a", "_law_b"] (defScope s_point) := ⟨rfl, rfl, rfl, by decide +kernel, rfl, by decide +kernel, by decide +kernel⟩
theorem sc_picked : FnScope ["_law_script", "_law_start", "_law_turn", "_law_most", "_law_number", "_law_k", "_law_more", "_law_prime"] ["_law_script", "_law_start", "_law_turn", "_law_most"] (defScope s_picked) := ⟨rfl, rfl, rfl, by decide +kernel, rfl, by decide +kernel, by decide +kernel⟩
theorem sc_root : FnScope ["_law_number", "_law_prime", "_law_rest"] ["_law_number", "_law_prime"] (defScope s_root) := ⟨rfl, rfl, rfl, by decide +kernel, rfl, by decide +kernel, by decide +kernel⟩
theorem sc_none_by_16 : FnScope ["_law_a", "_law_b", "_law_squares", "_law_x", "_law_y", "_law_z"] ["_law_a", "_law_b"] (defScope s_none_by_16) := ⟨rfl, rfl, rfl, by decide +kernel, rfl, by decide +kernel, by decide +kernel⟩
theorem sc_no_point : FnScope ["_law_a", "_law_b", "_law_place"] ["_law_a", "_law_b", "_law_place"] (defScope s_no_point) := ⟨rfl, rfl, rfl, by decide +kernel, rfl, by decide +kernel, by decide +kernel⟩
theorem sc_alone : FnScope ["_law_e", "_law_sort", "_law_found"] ["_law_e", "_law_sort"] (defScope s_alone) := ⟨rfl, rfl, rfl, by decide +kernel, rfl, by decide +kernel, by decide +kernel⟩
theorem sc_refused : FnScope ["_law_a", "_law_b", "_law_kept", "_law_e"] ["_law_a", "_law_b"] (defScope s_refused) := ⟨rfl, rfl, rfl, by decide +kernel, rfl, by decide +kernel, by decide +kernel⟩
theorem sc_law : FnScope ["_law_script", "_law_most", "_law_a", "_law_b", "_law_told", "_law_k", "_law_other"] ["_law_script"] (defScope s_law) := ⟨rfl, rfl, rfl, by decide +kernel, rfl, by decide +kernel, by decide +kernel⟩
theorem ok_cell_at {f : Addr} {fd : FuncData} (F : Fun K "_law_cell_at" "_law_cell_at" s_cell_at f fd) (T : Txt K mg t)  : FnOk P w K mg base CX0 1 f fd ["_law_script", "_law_k"] (spCell K) := by
  refine F.ok sc_cell_at (fun vs H Q E h => ?_) (fun cdv A outer s H vs Q E hr h => ?_)
  · obtain ⟨a, ns, k, rfl, _⟩ := h
    rfl
  obtain ⟨a, ns, k, rfl, hS, h0, q⟩ := h
  refine ⟨_, pss_cons (ps_if (pt_cmpR op_lt (pv 1) (pe_callB call_len_seq rfl T.z_len PySem.boot_len (pa_cons (pv 0) pa_nil)) (nomark _)) (pss_one (ps_ret (pe_ix ix_list (pv 0) (pv 1) (fun _ _ => rfl)))) pss_nil)
    (pss_one (ps_ret pe_int)), ?_⟩
  refine ⟨_, rfl, _, rfl, a, _, rfl, .inl hS, _, _, rfl, rfl, _, rfl, ?_⟩
  refine ite2 (fun c => ?_) (fun c => ?_)
  · exact ⟨_, rfl, _, rfl, a, _, _, _, rfl, rfl, hS, cell_in h0 (decT c), q⟩
  · have e := cell_out (decF c) h0
    rw [e] at q
    exact q
theorem ok_whole {f : Addr} {fd : FuncData} (F : Fun K "_law_whole" "_law_whole" s_whole f fd) (T : Txt K mg t)  : FnOk P w K mg base CX0 1 f fd ["_law_found"] (spWhole) := by
  refine F.ok sc_whole (fun vs H Q E h => ?_) (fun cdv A outer s H vs Q E hr h => ?_)
  · obtain ⟨n, rfl, _⟩ := h
    rfl
  obtain ⟨n, rfl, q⟩ := h
  refine ⟨_, pss_one (ps_ret (pe_and (pe_callB call_isi rfl T.z_isinstance b_isi (pa_cons (pv 0) (pa_cons (pe_bltn (v := .ty "int") rfl T.z_int b_int rfl) pa_nil))) (pe_one (pe_not (pe_callB call_isi rfl T.z_isinstance b_isi (pa_cons (pv 0) (pa_cons (pe_bltn (v := .ty "bool") rfl T.z_bool b_bool rfl) pa_nil))))))), ?_⟩
  refine ⟨_, rfl, _, _, _, _, rfl, .inr ⟨_, rfl⟩, .of (.int _), rfl, _, rfl, ?_⟩
  refine iteT ?_
  exact ⟨_, rfl, _, _, _, _, rfl, .inr ⟨_, rfl⟩, .of (.int _), T.i_ib, _, rfl, q⟩
theorem ok_alone {f : Addr} {fd : FuncData} (F : Fun K "_law_alone" "_law_alone" s_alone f fd) (T : Txt K mg t)  : FnOk P w K mg base CX0 1 f fd ["_law_e", "_law_sort"] (spAloneS t.c13 13) := by
  refine F.ok sc_alone (fun vs H Q E h => ?_) (fun cdv A outer s H vs Q E hr h => ?_)
  · obtain ⟨e, rfl, _⟩ := h
    rfl
  obtain ⟨e, rfl, he, q⟩ := h
  have hu64 := hu64_of hr
  refine ⟨_, pss_cons (ps_set (i := 2) sc_alone.nd rfl (Or.inl rfl) (pe_lst (pa_isis T.exc (by rfl) (Or.inl (by rfl)) (by rfl) T.z_isinstance b_isi (.cons (by rfl) T.m_BadPlace (by decide) T.i_0 (.cons (by rfl) T.m_Flat (by decide) T.i_1 (.cons (by rfl) T.m_NoBack (by decide) T.i_2 (.cons (by rfl) T.m_NoJoin (by decide) T.i_3 .nil)))))))
    (pss_cons (ps_set (i := 2) sc_alone.nd rfl (Or.inl rfl) (pe_op op_cat (pv 2) (pe_lst (pa_isis T.exc (by rfl) (Or.inl (by rfl)) (by rfl) T.z_isinstance b_isi (.cons (by rfl) T.m_NoLine (by decide) T.i_4 (.cons (by rfl) T.m_NoName (by decide) T.i_5 (.cons (by rfl) T.m_NoNumber (by decide) T.i_6 (.cons (by rfl) T.m_NoPair (by decide) T.i_7 .nil))))))))
    (pss_cons (ps_set (i := 2) sc_alone.nd rfl (Or.inl rfl) (pe_op op_cat (pv 2) (pe_lst (pa_isis T.exc (by rfl) (Or.inl (by rfl)) (by rfl) T.z_isinstance b_isi (.cons (by rfl) T.m_NoPlace (by decide) T.i_8 (.cons (by rfl) T.m_NoRow (by decide) T.i_9 (.cons (by rfl) T.m_NoSign (by decide) T.i_10 (.cons (by rfl) T.m_NoText (by decide) T.i_11 .nil))))))))
    (pss_cons (ps_set (i := 2) sc_alone.nd rfl (Or.inl rfl) (pe_op op_cat (pv 2) (pe_lst (pa_isis T.exc (by rfl) (Or.inl (by rfl)) (by rfl) T.z_isinstance b_isi (.cons (by rfl) T.m_NoVertex (by decide) T.i_12 (.cons (by rfl) T.m_NotPlain (by decide) T.i_13 (.cons (by rfl) T.m_OffCurve (by decide) T.i_14 .nil)))))))
    (pss_one (ps_ret (pe_and (pe_callB call_isi rfl T.z_isinstance b_isi (pa_cons (pv 0) (pa_cons (pe_bltn (v := .ty "ValueError") rfl T.z_ValueError b_ValueError rfl) pa_nil)))
      (pe_one (pe_cmpR (op_eqBl hu64) (pv 2) (pe_comp rfl (CompScope.one (k := 1) [(".0", .local), ("_law_k", .local), ("_law_sort", .cell)] rfl (by decide +kernel) (by decide +kernel) rfl rfl rfl rfl (by decide +kernel) (by decide) (by decide +kernel) rfl rfl) (pi_range1 rfl T.z_range (pa_cons pe_int pa_nil)) (fun C s0 H0 fp pins => pe_cmpR op_eq (pv 0) (pv 1) (nomark _))) (nomark _))))))))), ?_⟩
  refine ⟨e, rfl, he, (by show 4 ≤ sizeLine; decide), fun p1 n1 => ?_⟩
  have g1 := same_new n1 (.lst ([false, false, false, false].map V.bl))
  have he1 := g1 _ _ he
  refine ⟨_, rfl, e, rfl, he1, (by show 4 ≤ sizeLine; decide), fun p2 n2 => ?_⟩
  have g2 := same_new n2 (.lst ([false, false, false, false].map V.bl))
  refine ⟨p1, p2, _, _, rfl, rfl, g2 _ _ upd_same, upd_same, (by show 8 ≤ sizeLine; decide), fun p3 n3 => ?_⟩
  have g3 := g2.trans (same_new n3 (.lst (([false, false, false, false].map V.bl) ++ ([false, false, false, false].map V.bl))))
  have he3 := g3 _ _ he1
  refine ⟨_, rfl, e, rfl, he3, (by show 4 ≤ sizeLine; decide), fun p4 n4 => ?_⟩
  have g4 := same_new n4 (.lst ([false, false, false, false].map V.bl))
  refine ⟨p3, p4, _, _, rfl, rfl, g4 _ _ upd_same, upd_same, (by show 12 ≤ sizeLine; decide), fun p5 n5 => ?_⟩
  have g5 := g4.trans (same_new n5 (.lst (([false, false, false, false].map V.bl) ++ ([false, false, false, false].map V.bl) ++ ([false, false, false, false].map V.bl))))
  have he5 := g5 _ _ he3
  refine ⟨_, rfl, e, rfl, he5, (by show 3 ≤ sizeLine; decide), fun p6 n6 => ?_⟩
  have g6 := same_new n6 (.lst ([false, true, false].map V.bl))
  refine ⟨p5, p6, _, _, rfl, rfl, g6 _ _ upd_same, upd_same, (by show 15 ≤ sizeLine; decide), fun p7 n7 => ?_⟩
  have g7 := g6.trans (same_new n7 (.lst (([false, false, false, false].map V.bl) ++ ([false, false, false, false].map V.bl) ++ ([false, false, false, false].map V.bl) ++ ([false, true, false].map V.bl))))
  have he7 := g7 _ _ he5
  refine ⟨_, rfl, _, _, _, _, rfl, .inr ⟨_, rfl⟩, .exc T.exc he7, T.i_ve, _, rfl, iteT ?_⟩
  have G := (g1.trans (g3.trans (g5.trans g7)))
  refine ⟨_, rfl, 15, rfl, by decide, by decide, fun acc hacc => ?_⟩
  refine ⟨fun i m H' vs => i ≤ 15 ∧ m = 15 - i ∧ vs = (bls 13 i).map V.bl ∧ Same H H' ∧ H' p7 = some (.lst ([false, false, false, false, false, false, false, false, false, false, false, false, false, true, false].map V.bl)) ∧ H' acc = some (.lst vs), ⟨_, Nat.zero_le _, rfl, rfl, G.trans (same_new hacc _), same_new hacc _ _ _ upd_same, upd_same⟩, ?_⟩
  rintro i m H9 vs ⟨hi, rfl, rfl, g9, hl, ha⟩
  refine ⟨ha, ?_⟩
  by_cases h3 : i = 15
  · subst h3
    refine .inl ⟨Nat.le_refl _, ?_⟩
    exact ⟨p7, acc, [false, false, false, false, false, false, false, false, false, false, false, false, false, true, false], rfl, rfl, hl, ha, rfl, q _ g9⟩
  · refine .inr ⟨by (show i < 15; omega), ?_, ?_⟩
    · rw [List.length_map, bls_len]
      exact Nat.lt_of_le_of_lt hi (by decide)
    · rintro z H2 ⟨rfl, rfl⟩
      refine ⟨_, rfl, _, rfl, rfl, ha, 15 - (i + 1), by omega, by omega, rfl, ?_, fun b o z => ?_, ?_, upd_same⟩
      · rw [bls_more, List.map_append]
        rfl
      · rw [upd_ne (fun y => by subst y; rw [G _ _ z] at hacc; cases hacc)]
        exact g9 b o z
      · rw [upd_ne (fun y => by subst y; rw [upd_same] at hacc; cases hacc)]
        exact hl

theorem ok_taken_out {f : Addr} {fd : FuncData} (F : Fun K "taken_out" "taken_out" s_taken_out f fd) (T : Txt K mg t)  : FnOk P w K mg base CX0 1 f fd ["number", "prime"] (spTaken) := by
  refine F.ok sc_taken_out (fun vs H Q E h => ?_) (fun cdv A outer s H vs Q E hr h => ?_)
  · obtain ⟨_, _, rfl, _⟩ := h
    rfl
  obtain ⟨x, p, rfl, x0, p2, pl, q⟩ := h
  refine ⟨_, pss_cons (ps_set (i := 2) sc_taken_out.nd rfl (Or.inl rfl) pe_int)
    (pss_cons (ps_set (i := 3) sc_taken_out.nd rfl (Or.inl rfl) (pv 0))
    (pss_cons (ps_while PassesOwn.never (pt_cmpR op_eq (pe_op op_modN (pv 3) (pv 1)) pe_int (nomark _)) (pss_cons (ps_set (i := 3) sc_taken_out.nd rfl (Or.inl rfl) (pe_op op_fdivL (pv 3) (pv 1)))
    (pss_one (ps_set (i := 2) sc_taken_out.nd rfl (Or.inl rfl) (pe_op op_add (pv 2) pe_int)))))
    (pss_one (ps_ret (pe_tup (pa_cons (pv 2) (pa_cons (pv 3) pa_nil))))))), ?_⟩
  refine ⟨_, rfl, ?_⟩
  refine ⟨fun m σ H' => ∃ (o l : Int), σ = [some (.int x), some (.int p), some (.int o), some (.int l)] ∧ H = H' ∧ Pr.Inn x p l o ∧ 0 ≤ o ∧ l ≠ 0 ∧ l.natAbs ≤ x.natAbs ∧ (0 < x → 0 < l) ∧ (x < 0 → l < 0) ∧ m = l.natAbs,
    ⟨_, 0, x, rfl, rfl, Pr.inn_start x p, by omega, x0, Nat.le_refl _, id, id, rfl⟩, ?_⟩
  rintro m σ H' ⟨o, l, rfl, rfl, inn, o0, l0, lx, s1, s2, rfl⟩
  refine ⟨_, rfl, _, rfl, _, _, rfl, rfl, (by show p ≠ 0; omega), rfl, _, rfl, ?_⟩
  refine ite2 (fun c => ?_) (fun c => ?_)
  · have z : l.fmod p = 0 := int_inj (decT c)
    obtain ⟨t1, t2, t3, t4⟩ := taken_less p2 l0 z
    refine ⟨fun σ' H2 => σ' = [some (.int x), some (.int p), some (.int (o + 1)), some (.int (l.fdiv p))] ∧ H = H2, ?_, ?_⟩
    · rintro σ' H2 ⟨rfl, rfl⟩
      exact ⟨_, t2, o + 1, l.fdiv p, rfl, rfl, Pr.inn_turn inn o0 z, by omega, t1, by omega, fun h => t3 (s1 h), fun h => t4 (s2 h), rfl⟩
    · exact ⟨_, rfl, _, rfl, _, _, rfl, rfl, ⟨by omega, pl⟩, _, rfl, _, _, rfl, rfl, rfl, rfl⟩
  · have z : l.fmod p ≠ 0 := fun z => decF c (congrArg V.int z)
    exact ⟨_, rfl, _, rfl, (by show 2 ≤ sizeLine; decide), fun r hr' => q r _ o l (same_new hr' _) upd_same inn o0 z l0 lx s1 s2⟩

theorem ok_sign_of_two {f : Addr} {fd : FuncData} (F : Fun K "sign_of_two" "sign_of_two" s_sign_of_two f fd) (T : Txt K mg t)  : FnOk P w K mg base CX0 1 f fd ["odd"] (spTwoI) := by
  refine F.ok sc_sign_of_two (fun vs H Q E h => ?_) (fun cdv A outer s H vs Q E hr h => ?_)
  · obtain ⟨_, rfl, _⟩ := h
    rfl
  obtain ⟨x, rfl, q⟩ := h
  refine ⟨_, pss_one (ps_ret (pe_ifExp (pt_cmpR op_in_seq (pe_op op_mod (pv 0) pe_int) (pe_tup (pa_cons pe_int (pa_cons pe_int pa_nil))) (by with_unfolding_all rfl)) (pe_un un_neg pe_int) pe_int)), ?_⟩
  refine ⟨_, rfl, _, _, rfl, rfl, (by show (0 : Int) < 8; decide), (by show 2 ≤ sizeLine; decide), fun p hp => ?_⟩
  have g := same_new hp (.tup [.int 3, .int 5])
  refine ⟨_, _, rfl, .inr (SqT.of upd_same), rfl, rfl, inV (.int (x % 8)) [.int 3, .int 5], rfl, ?_⟩
  rw [in35]
  refine ite2 (fun c => ?_) (fun c => ?_)
  · have e : Jc.twoI x = -1 := by unfold Jc.twoI; rw [if_pos (decT c)]
    have q' := q _ g
    rw [e] at q'
    exact ⟨_, rfl, q'⟩
  · have e : Jc.twoI x = 1 := by unfold Jc.twoI; rw [if_neg (decF c)]
    have q' := q _ g
    rw [e] at q'
    exact q'
theorem ok_sign_of_turn {f : Addr} {fd : FuncData} (F : Fun K "sign_of_turn" "sign_of_turn" s_sign_of_turn f fd) (T : Txt K mg t)  : FnOk P w K mg base CX0 1 f fd ["one", "other"] (spTurnI) := by
  refine F.ok sc_sign_of_turn (fun vs H Q E h => ?_) (fun cdv A outer s H vs Q E hr h => ?_)
  · obtain ⟨_, _, rfl, _⟩ := h
    rfl
  obtain ⟨a, b, rfl, q⟩ := h
  refine ⟨_, pss_one (ps_ret (pe_ifExp (PW.pt (pw_and (pt_cmpR op_eq (pe_op op_mod (pv 0) pe_int) pe_int (nomark _)) (pw_and1 (pt_cmpR op_eq (pe_op op_mod (pv 1) pe_int) pe_int (nomark _))))) (pe_un un_neg pe_int) pe_int)), ?_⟩
  unfold Jc.turnI at q
  refine ⟨_, rfl, _, _, rfl, rfl, (by show (0 : Int) < 4; decide), rfl, _, rfl, ?_⟩
  refine ite2 (fun c => ?_) (fun c => ?_)
  · have c1 : a % 4 = 3 := int_inj (decT c)
    refine ⟨_, rfl, _, _, rfl, rfl, (by show (0 : Int) < 4; decide), rfl, _, rfl, ?_⟩
    refine ite2 (fun c => ?_) (fun c => ?_)
    · have c2 : b % 4 = 3 := int_inj (decT c)
      rw [if_pos ⟨c1, c2⟩] at q
      exact ⟨_, rfl, q⟩
    · rw [if_neg fun z => decF c (congrArg V.int z.2)] at q
      exact q
  · rw [if_neg fun z => decF c (congrArg V.int z.1)] at q
    exact iteF q
theorem ok_sign_by {f : Addr} {fd : FuncData} (F : Fun K "sign_by" "sign_by" s_sign_by f fd) (T : Txt K mg t) (H_taken_out : Has P w K mg base CX0 1 "taken_out" ["number", "prime"] (spTaken)) (H_sign_of_two : Has P w K mg base CX0 1 "sign_of_two" ["odd"] (spTwoI)) (H_sign_of_turn : Has P w K mg base CX0 1 "sign_of_turn" ["one", "other"] (spTurnI)) : FnOk P w K mg base CX0 2 f fd ["number", "n"] (spSign) := by
  obtain ⟨f_taken_out, d_taken_out, G_taken_out, b_taken_out, k_taken_out, m_taken_out⟩ := H_taken_out
  obtain ⟨f_sign_of_two, d_sign_of_two, G_sign_of_two, b_sign_of_two, k_sign_of_two, m_sign_of_two⟩ := H_sign_of_two
  obtain ⟨f_sign_of_turn, d_sign_of_turn, G_sign_of_turn, b_sign_of_turn, k_sign_of_turn, m_sign_of_turn⟩ := H_sign_of_turn
  refine F.ok sc_sign_by (fun vs H Q E h => ?_) (fun cdv A outer s H vs Q E hr h => ?_)
  · obtain ⟨_, _, rfl, _⟩ := h
    rfl
  obtain ⟨x, n, rfl, n0, no, nb, q⟩ := h
  have hr_taken_out := hr.mono (show 1 ≤ 1 by decide)
  have hr_sign_of_two := hr.mono (show 1 ≤ 1 by decide)
  have hr_sign_of_turn := hr.mono (show 1 ≤ 1 by decide)
  refine ⟨_, pss_cons (ps_if (PW.pt (pw_or (pt_cmpR op_lt (pv 1) pe_int (nomark _)) (pw_or1 (pt_cmpR op_eq (pe_op op_mod (pv 1) pe_int) pe_int (nomark _))))) pss_never pss_nil)
    (pss_cons (ps_set (i := 2) sc_sign_by.nd rfl (Or.inl rfl) pe_int)
    (pss_cons (ps_set (i := 3) sc_sign_by.nd rfl (Or.inl rfl) (pe_op op_mod (pv 0) (pv 1)))
    (pss_cons (ps_set (i := 4) sc_sign_by.nd rfl (Or.inl rfl) (pv 1))
    (pss_cons (ps_while PassesOwn.never (pt_cmpR op_ne (pv 3) pe_int (nomark _)) (pss_cons (ps_set (i := 5) sc_sign_by.nd rfl (Or.inl rfl) (pe_call G_taken_out hr_taken_out rfl m_taken_out k_taken_out b_taken_out .nil pass0 (pa_cons (pv 3) (pa_cons pe_int pa_nil))))
    (pss_cons (ps_set (i := 6) sc_sign_by.nd rfl (Or.inl rfl) (pe_ix ix_tup (pv 5) pe_int (fun _ _ => rfl)))
    (pss_cut (ps_if (pt_cmpR op_eq (pe_op op_mod (pe_ix ix_tup (pv 5) pe_int (fun _ _ => rfl)) pe_int) pe_int (nomark _)) (pss_one (ps_set (i := 2) sc_sign_by.nd rfl (Or.inl rfl) (pe_op op_mulG (pv 2) (pe_call G_sign_of_two hr_sign_of_two rfl m_sign_of_two k_sign_of_two b_sign_of_two .nil pass0 (pa_cons (pv 4) pa_nil))))) pss_nil)
    (pss_cons (ps_set (i := 2) sc_sign_by.nd rfl (Or.inl rfl) (pe_op op_mulG (pv 2) (pe_call G_sign_of_turn hr_sign_of_turn rfl m_sign_of_turn k_sign_of_turn b_sign_of_turn .nil pass0 (pa_cons (pv 6) (pa_cons (pv 4) pa_nil)))))
    (pss_cons (ps_set (i := 3) sc_sign_by.nd rfl (Or.inl rfl) (pe_op op_mod (pv 4) (pv 6)))
    (pss_one (ps_set (i := 4) sc_sign_by.nd rfl (Or.inl rfl) (pv 6)))))))))
    (pss_one (ps_ret (pe_ifExp (pt_cmpR op_eq (pv 4) pe_int (nomark _)) (pv 2) pe_int))))))), ?_⟩
  refine ⟨_, rfl, _, _, rfl, rfl, _, rfl, iteDF (show ¬ n < 1 by omega) ⟨_, rfl, _, _, rfl, rfl, (by show (0 : Int) < 2; decide), rfl, _, rfl, iteDF (fun z => by have := int_inj z; omega) ?_⟩⟩
  refine ⟨_, rfl, _, rfl, _, _, rfl, rfl, n0, ?_⟩
  refine ⟨_, rfl, ?_⟩
  have t0 := Int.emod_nonneg x (show n ≠ 0 by omega)
  have t1 := Int.emod_lt_of_pos x n0
  refine ⟨WS x n H, ⟨_, 1, x % n, n, none, none, rfl, Same.refl H, t0, n0, no, nb, by omega, .inl rfl, by rw [Int.one_mul]; exact Jc.J_mod (Int.emod_emod x n), rfl⟩, ?_⟩
  rintro m σ H1 ⟨sg, top, bot, tw, od, rfl, g1, tp, bp, bo, bb, tb, sgo, e, rfl⟩
  refine ⟨_, rfl, rfl, _, rfl, ?_⟩
  refine ite2 (fun c => ?_) (fun c => ?_)
  · have tn : top ≠ 0 := fun z => neT c (congrArg V.int z)
    refine ⟨fun σ' H2 => ∃ m', m' < top.toNat ∧ WS x n H m' σ' H2, fun _ _ h => h, ?_⟩
    refine ⟨_, rfl, top, 2, rfl, tn, by decide, by decide, fun r H2 o l g2 hr2 inn o0 zl l0 lx sp sn => ?_⟩
    have lp := sp (by omega)
    have lo : l % 2 = 1 := by
      have z : l.fmod 2 = l % 2 := Int.fmod_eq_emod_of_nonneg l (by decide)
      rw [z] at zl
      omega
    refine ⟨_, rfl, r, _, _, _, rfl, rfl, SqT.of hr2, rfl, ?_⟩
    refine ⟨fun σ' H3 => σ' = [some (.int x), some (.int n), some (.int (sg * (if o % 2 = 1 then Jc.twoI bot else 1))), some (.int top), some (.int bot), some (.ref r), some (.int l)] ∧ Same H2 H3, ?_, ?_⟩
    · refine ⟨_, rfl, r, _, _, _, rfl, rfl, SqT.of hr2, rfl, _, _, rfl, rfl, (by show (0 : Int) < 2; decide), rfl, _, rfl, ?_⟩
      refine ite2 (fun c => ?_) (fun c => ?_)
      · rw [if_pos (int_inj (decT c))]
        refine ⟨_, rfl, _, rfl, bot, rfl, fun H3 g3 => ⟨_, _, rfl, rfl, mulS ?_ ?_, rfl, g3⟩⟩
        all_goals rcases twoI_or bot with h | h <;> rw [h] <;> decide
      · rw [if_neg fun z => decF c (congrArg V.int z), Int.mul_one]
        exact ⟨rfl, Same.refl _⟩
    rintro _ H3 ⟨rfl, g3⟩
    refine ⟨_, rfl, _, rfl, _, rfl, l, bot, rfl, _, _, rfl, rfl, mulS ?_ ?_, ?_⟩
    · rcases turnI_or l bot with h | h <;> rw [h] <;> decide
    · rcases turnI_or l bot with h | h <;> rw [h] <;> decide
    refine ⟨_, rfl, _, rfl, _, _, rfl, rfl, lp, ?_⟩
    have r0 := Int.emod_nonneg bot (show l ≠ 0 by omega)
    have r1 := Int.emod_lt_of_pos bot lp
    refine ⟨_, rfl, (bot % l).toNat, by omega, _, bot % l, l, _, _, rfl, (g1.trans g2).trans g3, r0, lp, lo, by omega, by omega, ?_, ?_, rfl⟩
    · rcases sgo with h | h <;> rcases turnI_or l bot with h2 | h2 <;> rw [h, h2] <;> split <;> first | (rcases twoI_or bot with h3 | h3 <;> rw [h3] <;> decide) | decide
    · rw [← e]
      have st := Jc.J_step bp bo lp lo o0
      rw [← inn.eq] at st
      rw [st, Int.mul_assoc sg, Int.mul_assoc sg]
  · have tz : top = 0 := int_inj (neF c)
    subst tz
    refine ⟨_, rfl, rfl, _, rfl, ?_⟩
    refine ite2 (fun c => ?_) (fun c => ?_)
    · have b1 : bot = 1 := int_inj (decT c)
      subst b1
      rw [Jc.J_by1, Int.mul_one] at e
      subst e
      exact ⟨_, rfl, q _ g1⟩
    · have b1 : bot ≠ 1 := fun z => decF c (congrArg V.int z)
      rw [Jc.J_zero bp b1, Int.mul_zero] at e
      have q' := q _ g1
      rw [← e] at q'
      exact q'
theorem ok_divisor_after {f : Addr} {fd : FuncData} (F : Fun K "divisor_after" "divisor_after" s_divisor_after f fd) (T : Txt K mg t)  : FnOk P w K mg base CX0 1 f fd ["divisor"] (spAfter) := by
  refine F.ok sc_divisor_after (fun vs H Q E h => ?_) (fun cdv A outer s H vs Q E hr h => ?_)
  · obtain ⟨d, rfl, _⟩ := h
    rfl
  obtain ⟨d, rfl, q⟩ := h
  refine ⟨_, pss_cons (ps_if (pt_cmpR op_eq (pv 0) pe_int (nomark _)) (pss_one (ps_ret pe_int)) pss_nil)
    (pss_one (ps_ret (pe_op op_add (pv 0) pe_int))), ?_⟩
  refine ⟨_, rfl, rfl, _, rfl, ?_⟩
  refine ite2 (fun c => ?_) (fun c => ?_)
  · rw [if_pos (int_inj (decT c))] at q
    exact q
  · rw [if_neg (fun z => decF c (congrArg V.int z))] at q
    exact ⟨_, rfl, _, _, rfl, rfl, q⟩
theorem ok_prime_parts {f : Addr} {fd : FuncData} (F : Fun K "prime_parts" "prime_parts" s_prime_parts f fd) (T : Txt K mg t) (H_divisor_after : Has P w K mg base CX0 1 "divisor_after" ["divisor"] (spAfter)) (H_taken_out : Has P w K mg base CX0 1 "taken_out" ["number", "prime"] (spTaken)) : FnOk P w K mg base CX0 2 f fd ["number"] (spParts0) := by
  obtain ⟨f_divisor_after, d_divisor_after, G_divisor_after, b_divisor_after, k_divisor_after, m_divisor_after⟩ := H_divisor_after
  obtain ⟨f_taken_out, d_taken_out, G_taken_out, b_taken_out, k_taken_out, m_taken_out⟩ := H_taken_out
  refine F.ok sc_prime_parts (fun vs H Q E h => ?_) (fun cdv A outer s H vs Q E hr h => ?_)
  · obtain ⟨n, rfl, _⟩ := h
    rfl
  obtain ⟨n, rfl, n0, n1, q⟩ := h
  have hr_divisor_after := hr.mono (show 1 ≤ 1 by decide)
  have hr_taken_out := hr.mono (show 1 ≤ 1 by decide)
  refine ⟨_, pss_cons (ps_if (pt_cmpR op_lt (pv 0) pe_int (nomark _)) pss_never pss_nil)
    (pss_cons (ps_set (i := 1) sc_prime_parts.nd rfl (Or.inl rfl) (pe_lst pa_nil))
    (pss_cons (ps_set (i := 2) sc_prime_parts.nd rfl (Or.inl rfl) (pv 0))
    (pss_cons (ps_set (i := 3) sc_prime_parts.nd rfl (Or.inl rfl) pe_int)
    (pss_cons (ps_while PassesOwn.never (pt_cmpR op_le (pe_op op_mulG (pv 3) (pv 3)) (pv 2) (nomark _)) (pss_cut (ps_if (pt_cmpR op_eq (pe_op op_modN (pv 2) (pv 3)) pe_int (nomark _)) (pss_cons (ps_set (i := 4) sc_prime_parts.nd rfl (Or.inl rfl) (pe_call G_taken_out hr_taken_out rfl m_taken_out k_taken_out b_taken_out .nil pass0 (pa_cons (pv 2) (pa_cons (pv 3) pa_nil))))
    (pss_cons (ps_expr (pe_bm PySem.F.plainAttrs_list PySem.F.slot_list_append PySem.F.type_list_append mt_append (pv 1) (pa_cons (pe_tup (pa_cons (pv 3) (pa_cons (pe_ix ix_tup (pv 4) pe_int (fun _ _ => rfl)) pa_nil))) pa_nil)))
    (pss_one (ps_set (i := 2) sc_prime_parts.nd rfl (Or.inl rfl) (pe_ix ix_tup (pv 4) pe_int (fun _ _ => rfl)))))) pss_nil)
    (pss_one (ps_set (i := 3) sc_prime_parts.nd rfl (Or.inl rfl) (pe_call G_divisor_after hr_divisor_after rfl m_divisor_after k_divisor_after b_divisor_after .nil pass0 (pa_cons (pv 3) pa_nil))))))
    (pss_cut (ps_if (pt_cmpR op_gt (pv 2) pe_int (nomark _)) (pss_one (ps_expr (pe_bm PySem.F.plainAttrs_list PySem.F.slot_list_append PySem.F.type_list_append mt_append (pv 1) (pa_cons (pe_tup (pa_cons (pv 2) (pa_cons pe_int pa_nil))) pa_nil)))) pss_nil)
    (pss_one (ps_ret (pv 1)))))))), ?_⟩
  refine ⟨_, rfl, _, _, rfl, rfl, _, rfl, iteDF (show ¬ n < 1 by omega) ?_⟩
  refine ⟨(by show 0 ≤ sizeLine; decide), fun pl hpl => ?_⟩
  refine ⟨_, rfl, ?_⟩
  refine ⟨W1 n pl H, ⟨_, n, 2, [], [], none, rfl, same_new hpl _, upd_same, .nil, Pr.out_start n, by omega, by omega, n0, rfl⟩, ?_⟩
  rintro m σ H1 ⟨left, d, xs, rs, of, rfl, g1, hl1, t1, out, d2, dm, l1, rfl⟩
  have bd : Builtin.Int.intBits d ≤ 1048576 := bits_lit (k := 64) (by omega) (by decide)
  have ln := Pr.out_left out l1
  have short1 := short out.all (out_prod out l1) n1
  have rlen := t1.len
  refine ⟨_, rfl, _, rfl, _, _, rfl, rfl, mulOk bd bd, _, rfl, _, _, rfl, rfl, _, rfl, ?_⟩
  refine ite2 (fun c => ?_) (fun c => ?_)
  · have dd : d * d ≤ left := decT c
    have dl := le_sq (show 1 ≤ d by omega)
    refine ⟨fun σ' H2 => ∃ m', m' < (left + 1 - d).toNat ∧ W1 n pl H m' σ' H2, fun _ _ h => h, ?_⟩
    refine ⟨fun σ' H3 => ∃ (ys : List (Int × Int)) (qs : List Addr) (l2 : Int) (ta : Option V), σ' = [some (.int n), some (.ref pl), some (.int l2), some (.int d), ta] ∧ Same H H3 ∧ H3 pl = some (.lst (qs.map V.ref)) ∧ TupL H3 qs ys ∧ Pr.Out n l2 (if d = 2 then 3 else d + 2) ys ∧ 1 ≤ l2 ∧ l2 ≤ left, ?_, ?_⟩
    · refine ⟨_, rfl, _, rfl, _, _, rfl, rfl, (by show d ≠ 0; omega), rfl, _, rfl, ?_⟩
      refine ite2 (fun c2 => ?_) (fun c2 => ?_)
      · have z2 : left.fmod d = 0 := int_inj (decT c2)
        refine ⟨_, rfl, _, rfl, left, d, rfl, (by omega), d2, Nat.lt_of_lt_of_le (log2_lt_of (k := 64) (by omega) (by decide)) (by decide), fun r H2 o l2 g2 hr2 inn o0 zl l0 lx sp sn => ?_⟩
        have lp := sp (by omega)
        have o3 : 0 < o := by
          rcases (show o = 0 ∨ 0 < o by omega) with h | h
          · have e := inn.eq
            rw [h, show (0 : Int).toNat = 0 from rfl, Int.pow_zero, Int.one_mul] at e
            rw [← e] at zl
            exact absurd z2 zl
          · exact h
        refine ⟨_, rfl, .inl ⟨rfl, _, SqL.of (g2 _ _ hl1)⟩, _, rfl, _, rfl, r, _, _, _, rfl, rfl, SqT.of hr2, rfl, (by show 2 ≤ sizeLine; decide), fun p hp => ?_⟩
        have hl2 := g2 _ _ hl1
        have npl : pl ≠ p := fun z => by subst z; rw [hl2] at hp; cases hp
        have nr : r ≠ pl := fun z => by subst z; rw [hl2] at hr2; cases hr2
        have nrp : r ≠ p := fun z => by subst z; rw [hr2] at hp; cases hp
        refine ⟨pl, _, _, rfl, rfl, (by rw [upd_ne npl]; exact hl2), (by rw [List.length_map]; exact small1000 (by omega)), ?_⟩
        obtain ⟨k1, k2, k3⟩ := grown (x := (d, o)) (g1.trans g2) hpl hp hl2 (TupL.same g2 t1)
        refine ⟨_, rfl, r, _, _, _, rfl, rfl, SqT.of (by rw [upd_ne nr, upd_ne nrp]; exact hr2), rfl, ?_⟩
        exact ⟨xs ++ [(d, o)], rs ++ [p], l2, _, rfl, k1, k2, k3, Pr.out_some out inn d2 o3 zl rfl, by omega, by omega⟩
      · have z2 : left.fmod d ≠ 0 := fun z => decF c2 (congrArg V.int z)
        exact ⟨xs, rs, left, _, rfl, g1, hl1, t1, Pr.out_none out (Pr.inn_start left d) d2 rfl z2 rfl, l1, by omega⟩
    · rintro σ3 H3 ⟨ys, qs, l2, ta, rfl, g3, hl3, t3, out3, l21, l22⟩
      refine ⟨_, rfl, d, rfl, (l2 + 1 - (if d = 2 then 3 else d + 2)).toNat, ?_, l2, _, ys, qs, _, rfl, g3, hl3, t3, out3, ?_, ?_, l21, rfl⟩
      all_goals split <;> omega
  · have dd : ¬ d * d ≤ left := decF c
    refine ⟨fun σ' H2 => ∃ (ys : List (Int × Int)) (qs : List Addr) (l2 : Option V) (d2 o2 : Option V), σ' = [some (.int n), some (.ref pl), l2, d2, o2] ∧ Same H H2 ∧ H2 pl = some (.lst (qs.map V.ref)) ∧ TupL H2 qs ys ∧ Pr.Told n ys, ?_, ?_⟩
    · refine ⟨_, rfl, _, _, rfl, rfl, _, rfl, ?_⟩
      refine ite2 (fun c3 => ?_) (fun c3 => ?_)
      · have o3 : 1 < left := decT c3
        refine ⟨_, rfl, .inl ⟨rfl, _, SqL.of hl1⟩, _, rfl, (by show 2 ≤ sizeLine; decide), fun p hp => ?_⟩
        have npl : pl ≠ p := fun z => by subst z; rw [hl1] at hp; cases hp
        refine ⟨pl, _, _, rfl, rfl, (by rw [upd_ne npl]; exact hl1), (by rw [List.length_map]; exact small1000 (by omega)), ?_⟩
        obtain ⟨k1, k2, k3⟩ := grown (x := (left, 1)) g1 hpl hp hl1 t1
        exact ⟨xs ++ [(left, 1)], rs ++ [p], _, _, _, rfl, k1, k2, k3, Pr.told_last out d2 (by omega) o3⟩
      · have o3 : ¬ 1 < left := decF c3
        exact ⟨xs, rs, _, _, _, rfl, g1, hl1, t1, Pr.told_none out (by omega)⟩
    · rintro σ3 H3 ⟨ys, qs, l3, d3, o3, rfl, g3, hl3, t3, told⟩
      exact ⟨_, rfl, q pl qs ys H3 g3 hpl hl3 t3 told⟩
theorem ok_power_by {f : Addr} {fd : FuncData} (F : Fun K "power_by" "power_by" s_power_by f fd) (T : Txt K mg t)  : FnOk P w K mg base CX0 1 f fd ["number", "k", "n"] (spPower) := by
  refine F.ok sc_power_by (fun vs H Q E h => ?_) (fun cdv A outer s H vs Q E hr h => ?_)
  · obtain ⟨_, _, _, rfl, _⟩ := h
    rfl
  obtain ⟨x, k, n, rfl, k0, n0, nL, q⟩ := h
  refine ⟨_, pss_cons (ps_set (i := 3) sc_power_by.nd rfl (Or.inl rfl) (pe_op op_mod pe_int (pv 2)))
    (pss_cons (ps_set (i := 4) sc_power_by.nd rfl (Or.inl rfl) (pe_op op_mod (pv 0) (pv 2)))
    (pss_cons (ps_set (i := 5) sc_power_by.nd rfl (Or.inl rfl) (pv 1))
    (pss_cons (ps_while PassesOwn.never (pt_cmpR op_gt (pv 5) pe_int (nomark _)) (pss_cut (ps_if (pt_cmpR op_eq (pe_op op_mod (pv 5) pe_int) pe_int (nomark _)) (pss_one (ps_set (i := 3) sc_power_by.nd rfl (Or.inl rfl) (pe_op op_mod (pe_op op_mulG (pv 3) (pv 4)) (pv 2)))) pss_nil)
    (pss_cons (ps_set (i := 4) sc_power_by.nd rfl (Or.inl rfl) (pe_op op_mod (pe_op op_mulG (pv 4) (pv 4)) (pv 2)))
    (pss_one (ps_set (i := 5) sc_power_by.nd rfl (Or.inl rfl) (pe_op op_fdiv (pv 5) pe_int))))))
    (pss_one (ps_ret (pv 3)))))), ?_⟩
  refine ⟨_, rfl, _, _, rfl, rfl, n0, ?_⟩
  refine ⟨_, rfl, _, rfl, _, _, rfl, rfl, n0, ?_⟩
  refine ⟨_, rfl, ?_⟩
  refine ⟨fun m σ H' => ∃ (p f l : Int), σ = [some (.int x), some (.int k), some (.int n), some (.int p), some (.int f), some (.int l)] ∧ H = H' ∧ 0 ≤ p ∧ p < n ∧ 0 ≤ f ∧ f < n ∧ 0 ≤ l ∧ p * f ^ l.toNat % n = Pw.PM x k.toNat n ∧ m = l.toNat,
    ⟨_, 1 % n, x % n, k, rfl, rfl, Int.emod_nonneg _ (by omega), Int.emod_lt_of_pos _ n0, Int.emod_nonneg _ (by omega), Int.emod_lt_of_pos _ n0, k0, Pw.start x n k.toNat, rfl⟩, ?_⟩
  rintro m σ H1 ⟨p, f, l, rfl, rfl, p0, p1, f0, f1, l0, e, rfl⟩
  refine ⟨_, rfl, _, _, rfl, rfl, _, rfl, ?_⟩
  refine ite2 (fun c => ?_) (fun c => ?_)
  · have lp : 0 < l := decT c
    refine ⟨fun σ' H2 => ∃ (p f' l' : Int), σ' = [some (.int x), some (.int k), some (.int n), some (.int p), some (.int f'), some (.int l')] ∧ H = H2 ∧ 0 ≤ p ∧ p < n ∧ f' = f * f % n ∧ l' = l / 2 ∧ p * (f * f % n) ^ (l.toNat / 2) % n = Pw.PM x k.toNat n, ?_, ?_⟩
    · rintro σ' H2 ⟨p, f', l', rfl, rfl, p0, p1, rfl, rfl, e⟩
      refine ⟨(l / 2).toNat, by omega, p, _, _, rfl, rfl, p0, p1, Int.emod_nonneg _ (by omega), Int.emod_lt_of_pos _ n0, by omega, ?_, rfl⟩
      rw [half_toNat l l0]
      exact e
    refine ⟨fun σ' H2 => ∃ (p : Int), σ' = [some (.int x), some (.int k), some (.int n), some (.int p), some (.int f), some (.int l)] ∧ H = H2 ∧ 0 ≤ p ∧ p < n ∧ p * (f * f % n) ^ (l.toNat / 2) % n = Pw.PM x k.toNat n, ?_, ?_⟩
    · refine ⟨_, rfl, _, _, rfl, rfl, (by show (0 : Int) < 2; decide), rfl, _, rfl, ?_⟩
      refine ite2 (fun c => ?_) (fun c => ?_)
      · have o : l % 2 = 1 := int_inj (decT c)
        exact ⟨_, rfl, _, rfl, _, _, rfl, rfl, mulL (by omega) (by omega), _, rfl, _, _, rfl, rfl, n0, _, rfl, rfl, Int.emod_nonneg _ (by omega), Int.emod_lt_of_pos _ n0, Pw.turn_odd e (by omega)⟩
      · have o : ¬ l % 2 = 1 := fun z => decF c (congrArg V.int z)
        exact ⟨p, rfl, rfl, p0, p1, Pw.turn_even e (by omega)⟩
    · rintro _ _ ⟨p, rfl, rfl, p0, p1, e⟩
      refine ⟨_, rfl, _, rfl, _, _, rfl, rfl, mulL (by omega) (by omega), _, rfl, _, _, rfl, rfl, n0, ?_⟩
      exact ⟨_, rfl, _, _, rfl, rfl, ⟨by decide, by decide⟩, p, _, _, rfl, rfl, p0, p1, rfl, rfl, e⟩
  · have lz : ¬ 0 < l := decF c
    have l00 : l = 0 := by omega
    subst l00
    have e2 : p = Pw.PM x k.toNat n := Pw.done e p0 p1
    subst e2
    exact ⟨_, rfl, q⟩

theorem ok_sign_at_two {f : Addr} {fd : FuncData} (F : Fun K "sign_at_two" "sign_at_two" s_sign_at_two f fd) (T : Txt K mg t) (H_sign_of_two : Has P w K mg base CX0 1 "sign_of_two" ["odd"] (spTwoI)) (H_sign_of_turn : Has P w K mg base CX0 1 "sign_of_turn" ["one", "other"] (spTurnI)) : FnOk P w K mg base CX0 2 f fd ["one", "other"] (spAtTwo) := by
  obtain ⟨f_sign_of_two, d_sign_of_two, G_sign_of_two, b_sign_of_two, k_sign_of_two, m_sign_of_two⟩ := H_sign_of_two
  obtain ⟨f_sign_of_turn, d_sign_of_turn, G_sign_of_turn, b_sign_of_turn, k_sign_of_turn, m_sign_of_turn⟩ := H_sign_of_turn
  refine F.ok sc_sign_at_two (fun vs H Q E h => ?_) (fun cdv A outer s H vs Q E hr h => ?_)
  · obtain ⟨_, _, _, _, _, _, rfl, _⟩ := h
    rfl
  obtain ⟨r1, r2, o1, l1, o2, l2, rfl, h1, h2, q⟩ := h
  have hr_sign_of_two := hr.mono (show 1 ≤ 1 by decide)
  have hr_sign_of_turn := hr.mono (show 1 ≤ 1 by decide)
  refine ⟨_, pss_cons (ps_set (i := 2) sc_sign_at_two.nd rfl (Or.inl rfl) (pe_call G_sign_of_turn hr_sign_of_turn rfl m_sign_of_turn k_sign_of_turn b_sign_of_turn .nil pass0 (pa_cons (pe_ix ix_tup (pv 0) pe_int (fun _ _ => rfl)) (pa_cons (pe_ix ix_tup (pv 1) pe_int (fun _ _ => rfl)) pa_nil))))
    (pss_cut (ps_if (pt_cmpR op_eq (pe_op op_mod (pe_ix ix_tup (pv 0) pe_int (fun _ _ => rfl)) pe_int) pe_int (nomark _)) (pss_one (ps_set (i := 2) sc_sign_at_two.nd rfl (Or.inl rfl) (pe_op op_mulG (pv 2) (pe_call G_sign_of_two hr_sign_of_two rfl m_sign_of_two k_sign_of_two b_sign_of_two .nil pass0 (pa_cons (pe_ix ix_tup (pv 1) pe_int (fun _ _ => rfl)) pa_nil))))) pss_nil)
    (pss_cut (ps_if (pt_cmpR op_eq (pe_op op_mod (pe_ix ix_tup (pv 1) pe_int (fun _ _ => rfl)) pe_int) pe_int (nomark _)) (pss_one (ps_set (i := 2) sc_sign_at_two.nd rfl (Or.inl rfl) (pe_op op_mulG (pv 2) (pe_call G_sign_of_two hr_sign_of_two rfl m_sign_of_two k_sign_of_two b_sign_of_two .nil pass0 (pa_cons (pe_ix ix_tup (pv 0) pe_int (fun _ _ => rfl)) pa_nil))))) pss_nil)
    (pss_one (ps_ret (pv 2))))), ?_⟩
  unfold Jc.two4 at q
  refine ⟨_, rfl, r1, _, _, _, rfl, rfl, SqT.of h1, rfl, _, rfl, r2, _, _, _, rfl, rfl, SqT.of h2, rfl, l1, l2, rfl, ?_⟩
  refine ⟨fun σ' H' => σ' = [some (.ref r1), some (.ref r2), some (.int (Jc.turnI l1 l2 * (if o1 % 2 = 1 then Jc.twoI l2 else 1)))] ∧ Same H H', ?_, ?_⟩
  · refine ⟨_, rfl, r1, _, _, _, rfl, rfl, SqT.of h1, rfl, _, _, rfl, rfl, (by show (0 : Int) < 2; decide), rfl, _, rfl, ?_⟩
    refine ite2 (fun c => ?_) (fun c => ?_)
    · rw [if_pos (int_inj (decT c))]
      refine ⟨_, rfl, _, rfl, r2, _, _, _, rfl, rfl, SqT.of h2, rfl, l2, rfl, fun H1 g1 => ⟨_, _, rfl, rfl, mulS ?_ ?_, rfl, g1⟩⟩
      all_goals rcases twoI_or l2 with h | h <;> rw [h] <;> decide
    · rw [if_neg fun z => decF c (congrArg V.int z), Int.mul_one]
      exact ⟨rfl, Same.refl H⟩
  rintro _ H1 ⟨rfl, g1⟩
  refine ⟨fun σ' H' => σ' = [some (.ref r1), some (.ref r2), some (.int (Jc.turnI l1 l2 * (if o1 % 2 = 1 then Jc.twoI l2 else 1) * (if o2 % 2 = 1 then Jc.twoI l1 else 1)))] ∧ Same H H', ?_, ?_⟩
  · refine ⟨_, rfl, r2, _, _, _, rfl, rfl, SqT.of (g1 _ _ h2), rfl, _, _, rfl, rfl, (by show (0 : Int) < 2; decide), rfl, _, rfl, ?_⟩
    refine ite2 (fun c => ?_) (fun c => ?_)
    · rw [if_pos (int_inj (decT c))]
      refine ⟨_, rfl, _, rfl, r1, _, _, _, rfl, rfl, SqT.of (g1 _ _ h1), rfl, l1, rfl, fun H2 g2 => ⟨_, _, rfl, rfl, mulS ?_ ?_, rfl, g1.trans g2⟩⟩
      all_goals rcases twoI_or l1 with h | h <;> rw [h] <;> decide
    · rw [if_neg fun z => decF c (congrArg V.int z), Int.mul_one]
      exact ⟨rfl, g1⟩
  rintro _ H2 ⟨rfl, g2⟩
  exact ⟨_, rfl, q _ g2⟩
theorem ok_sign_at_odd {f : Addr} {fd : FuncData} (F : Fun K "sign_at_odd" "sign_at_odd" s_sign_at_odd f fd) (T : Txt K mg t) (H_sign_by : Has P w K mg base CX0 2 "sign_by" ["number", "n"] (spSign)) : FnOk P w K mg base CX0 3 f fd ["one", "other", "prime"] (spAtOdd) := by
  obtain ⟨f_sign_by, d_sign_by, G_sign_by, b_sign_by, k_sign_by, m_sign_by⟩ := H_sign_by
  refine F.ok sc_sign_at_odd (fun vs H Q E h => ?_) (fun cdv A outer s H vs Q E hr h => ?_)
  · obtain ⟨_, _, _, _, _, _, _, rfl, _⟩ := h
    rfl
  obtain ⟨r1, r2, o1, l1, o2, l2, p, rfl, h1, h2, p0, po, pb, lb, q⟩ := h
  have hr_sign_by := hr.mono (show 2 ≤ 2 by decide)
  refine ⟨_, pss_cons (ps_set (i := 3) sc_sign_at_odd.nd rfl (Or.inl rfl) (pe_cmpR op_eq (pe_op op_mod (pe_ix ix_tup (pv 0) pe_int (fun _ _ => rfl)) pe_int) pe_int (nomark _)))
    (pss_cons (ps_set (i := 4) sc_sign_at_odd.nd rfl (Or.inl rfl) (pe_cmpR op_eq (pe_op op_mod (pe_ix ix_tup (pv 1) pe_int (fun _ _ => rfl)) pe_int) pe_int (nomark _)))
    (pss_cons (ps_if (PW.pt (pw_and (pt_val (pv 3) (fun _ => rfl)) (pw_and1 (pt_val (pv 4) (fun _ => rfl))))) (pss_one (ps_ret (pe_call G_sign_by hr_sign_by rfl m_sign_by k_sign_by b_sign_by .nil pass0 (pa_cons (pe_op op_mulG (pe_un un_neg (pe_ix ix_tup (pv 0) pe_int (fun _ _ => rfl))) (pe_ix ix_tup (pv 1) pe_int (fun _ _ => rfl))) (pa_cons (pv 2) pa_nil))))) pss_nil)
    (pss_cons (ps_if (pt_val (pv 3) (fun _ => rfl)) (pss_one (ps_ret (pe_call G_sign_by hr_sign_by rfl m_sign_by k_sign_by b_sign_by .nil pass0 (pa_cons (pe_ix ix_tup (pv 1) pe_int (fun _ _ => rfl)) (pa_cons (pv 2) pa_nil))))) pss_nil)
    (pss_cons (ps_if (pt_val (pv 4) (fun _ => rfl)) (pss_one (ps_ret (pe_call G_sign_by hr_sign_by rfl m_sign_by k_sign_by b_sign_by .nil pass0 (pa_cons (pe_ix ix_tup (pv 0) pe_int (fun _ _ => rfl)) (pa_cons (pv 2) pa_nil))))) pss_nil)
    (pss_one (ps_ret pe_int)))))), ?_⟩
  unfold Jc.odd4 at q
  refine ⟨_, rfl, r1, _, _, _, rfl, rfl, SqT.of h1, rfl, _, _, rfl, rfl, (by show (0 : Int) < 2; decide), rfl, ?_⟩
  refine ⟨_, rfl, r2, _, _, _, rfl, rfl, SqT.of h2, rfl, _, _, rfl, rfl, (by show (0 : Int) < 2; decide), rfl, ?_⟩
  by_cases c1 : o1 % 2 = 1
  · have e1 : decide (V.int (o1 % 2) = V.int 1) = true := decide_eq_true (congrArg V.int c1)
    by_cases c2 : o2 % 2 = 1
    · have e2 : decide (V.int (o2 % 2) = V.int 1) = true := decide_eq_true (congrArg V.int c2)
      rw [if_pos c1, if_pos c2] at q
      rw [e1, e2]
      refine ⟨_, rfl, _, rfl, iteT ⟨_, rfl, _, rfl, iteT ?_⟩⟩
      exact ⟨_, rfl, r1, _, _, _, rfl, rfl, SqT.of h1, rfl, _, rfl, _, rfl, r2, _, _, _, rfl, rfl, SqT.of h2, rfl, _, _, rfl, rfl, mulS (by omega) (by omega), _, rfl, -l1 * l2, p, rfl, p0, po, pb, fun H' g => q _ g⟩
    · have e2 : decide (V.int (o2 % 2) = V.int 1) = false := decide_eq_false fun z => c2 (int_inj z)
      rw [if_pos c1, if_neg c2] at q
      rw [e1, e2]
      refine ⟨_, rfl, _, rfl, iteT ⟨_, rfl, _, rfl, iteF ?_⟩⟩
      refine ⟨_, rfl, _, rfl, iteT ?_⟩
      exact ⟨_, rfl, r2, _, _, _, rfl, rfl, SqT.of h2, rfl, _, rfl, l2, p, rfl, p0, po, pb, fun H' g => q _ g⟩
  · have e1 : decide (V.int (o1 % 2) = V.int 1) = false := decide_eq_false fun z => c1 (int_inj z)
    by_cases c2 : o2 % 2 = 1
    · have e2 : decide (V.int (o2 % 2) = V.int 1) = true := decide_eq_true (congrArg V.int c2)
      rw [if_neg c1, if_pos c2] at q
      rw [e1, e2]
      refine ⟨_, rfl, _, rfl, iteF (iteF ?_)⟩
      refine ⟨_, rfl, _, rfl, iteF ?_⟩
      refine ⟨_, rfl, _, rfl, iteT ?_⟩
      exact ⟨_, rfl, r1, _, _, _, rfl, rfl, SqT.of h1, rfl, _, rfl, l1, p, rfl, p0, po, pb, fun H' g => q _ g⟩
    · have e2 : decide (V.int (o2 % 2) = V.int 1) = false := decide_eq_false fun z => c2 (int_inj z)
      rw [if_neg c1, if_neg c2] at q
      rw [e1, e2]
      refine ⟨_, rfl, _, rfl, iteF (iteF ?_)⟩
      refine ⟨_, rfl, _, rfl, iteF ?_⟩
      refine ⟨_, rfl, _, rfl, iteF ?_⟩
      exact q _ (Same.refl H)
theorem ok_sign_at {f : Addr} {fd : FuncData} (F : Fun K "sign_at" "sign_at" s_sign_at f fd) (T : Txt K mg t) (H_taken_out : Has P w K mg base CX0 1 "taken_out" ["number", "prime"] (spTaken)) (H_sign_at_two : Has P w K mg base CX0 2 "sign_at_two" ["one", "other"] (spAtTwo)) (H_sign_at_odd : Has P w K mg base CX0 3 "sign_at_odd" ["one", "other", "prime"] (spAtOdd)) : FnOk P w K mg base CX0 4 f fd ["a", "b", "place"] (spAt) := by
  obtain ⟨f_taken_out, d_taken_out, G_taken_out, b_taken_out, k_taken_out, m_taken_out⟩ := H_taken_out
  obtain ⟨f_sign_at_two, d_sign_at_two, G_sign_at_two, b_sign_at_two, k_sign_at_two, m_sign_at_two⟩ := H_sign_at_two
  obtain ⟨f_sign_at_odd, d_sign_at_odd, G_sign_at_odd, b_sign_at_odd, k_sign_at_odd, m_sign_at_odd⟩ := H_sign_at_odd
  refine F.ok sc_sign_at (fun vs H Q E h => ?_) (fun cdv A outer s H vs Q E hr h => ?_)
  · obtain ⟨_, _, _, _, rfl, _⟩ := h
    rfl
  obtain ⟨a, b, p, v, rfl, a0, b0, bb, hv, q⟩ := h
  have hr_taken_out := hr.mono (show 1 ≤ 3 by decide)
  have hr_sign_at_two := hr.mono (show 2 ≤ 3 by decide)
  have hr_sign_at_odd := hr.mono (show 3 ≤ 3 by decide)
  refine ⟨_, pss_cons (ps_if (pt_cmpR op_eq (pv 2) pe_int (nomark _)) (pss_one (ps_ret (pe_ifExp (PW.pt (pw_and (pt_cmpR op_lt (pv 0) pe_int (nomark _)) (pw_and1 (pt_cmpR op_lt (pv 1) pe_int (nomark _))))) (pe_un un_neg pe_int) pe_int))) pss_nil)
    (pss_cons (ps_set (i := 3) sc_sign_at.nd rfl (Or.inl rfl) (pe_call G_taken_out hr_taken_out rfl m_taken_out k_taken_out b_taken_out .nil pass0 (pa_cons (pv 0) (pa_cons (pv 2) pa_nil))))
    (pss_cons (ps_set (i := 4) sc_sign_at.nd rfl (Or.inl rfl) (pe_call G_taken_out hr_taken_out rfl m_taken_out k_taken_out b_taken_out .nil pass0 (pa_cons (pv 1) (pa_cons (pv 2) pa_nil))))
    (pss_cons (ps_if (pt_cmpR op_eq (pv 2) pe_int (nomark _)) (pss_one (ps_ret (pe_call G_sign_at_two hr_sign_at_two rfl m_sign_at_two k_sign_at_two b_sign_at_two .nil pass0 (pa_cons (pv 3) (pa_cons (pv 4) pa_nil))))) pss_nil)
    (pss_one (ps_ret (pe_call G_sign_at_odd hr_sign_at_odd rfl m_sign_at_odd k_sign_at_odd b_sign_at_odd .nil pass0 (pa_cons (pv 3) (pa_cons (pv 4) (pa_cons (pv 2) pa_nil))))))))), ?_⟩
  rcases hv with ⟨rfl, hv⟩ | ⟨hp, pb, o1, l1, o2, l2, d1, d2, hv⟩
  · refine ⟨_, rfl, rfl, _, rfl, iteT ?_⟩
    refine ⟨_, rfl, _, _, rfl, rfl, _, rfl, ?_⟩
    subst hv
    have q := q H (Same.refl H)
    refine ite2 (fun c => ?_) (fun c => ?_)
    · have c1 : a < 0 := decT c
      refine ⟨_, rfl, _, _, rfl, rfl, _, rfl, ?_⟩
      refine ite2 (fun c => ?_) (fun c => ?_)
      · rw [if_pos ⟨c1, decT c⟩] at q
        exact ⟨_, rfl, q⟩
      · rw [if_neg fun z => decF c z.2] at q
        exact q
    · rw [if_neg fun z => decF c z.1] at q
      exact iteF q
  · have p2 := hp.two
    refine ⟨_, rfl, rfl, _, rfl, iteDF (fun z => by have := int_inj z; omega) ?_⟩
    have plog : p.natAbs.log2 < 9000 := Nat.lt_of_lt_of_le (log2_lt_of (k := 64) (by omega) (by decide)) (by decide)
    refine ⟨_, rfl, _, rfl, a, p, rfl, a0, p2, plog, fun r1 H1 o l g1 h1 inn o0 zl l0 lx sp sn => ?_⟩
    obtain ⟨rfl, rfl⟩ := (Jc.Dec.of_inn inn o0 zl).unique (by omega) d1
    refine ⟨_, rfl, _, rfl, b, p, rfl, b0, p2, plog, fun r2 H2 o l g2 h2 inn2 o02 zl2 l02 lx2 sp2 sn2 => ?_⟩
    obtain ⟨rfl, rfl⟩ := (Jc.Dec.of_inn inn2 o02 zl2).unique (by omega) d2
    subst hv
    unfold Jc.hs at q
    refine ⟨_, rfl, rfl, _, rfl, ?_⟩
    refine ite2 (fun c => ?_) (fun c => ?_)
    · have e2 : p = 2 := int_inj (decT c)
      rw [if_pos e2] at q
      exact ⟨_, rfl, _, rfl, r1, r2, _, _, _, _, rfl, g2 _ _ h1, h2, fun H3 g3 => q _ ((g1.trans g2).trans g3)⟩
    · have e2 : p ≠ 2 := fun z => decF c (congrArg V.int z)
      rw [if_neg e2] at q
      exact ⟨_, rfl, _, rfl, _, rfl, r1, r2, _, _, _, _, p, rfl, g2 _ _ h1, h2, by omega, prm_odd hp e2, by omega, by omega, fun H3 g3 => q _ ((g1.trans g2).trans g3)⟩

theorem ok_row_less {f : Addr} {fd : FuncData} (F : Fun K "row_less" "row_less" s_row_less f fd) (T : Txt K mg t)  : FnOk P w K mg base CX0 1 f fd ["row", "taken", "times"] (spRow) := by
  refine F.ok sc_row_less (fun vs H Q E h => ?_) (fun cdv A outer s H vs Q E hr h => ?_)
  · obtain ⟨_, _, _, _, _, _, _, _, _, rfl, _⟩ := h
    rfl
  obtain ⟨pa, pb, x, s', t', y, u, v, k, rfl, ha, hb, m1, m2, m3, q⟩ := h
  refine ⟨_, pss_one (ps_ret (pe_tup (pa_cons (pe_op op_sub (pe_ix ix_tup (pv 0) pe_int (fun _ _ => rfl)) (pe_op op_mulG (pv 2) (pe_ix ix_tup (pv 1) pe_int (fun _ _ => rfl)))) (pa_cons (pe_op op_sub (pe_ix ix_tup (pv 0) pe_int (fun _ _ => rfl)) (pe_op op_mulG (pv 2) (pe_ix ix_tup (pv 1) pe_int (fun _ _ => rfl)))) (pa_cons (pe_op op_sub (pe_ix ix_tup (pv 0) pe_int (fun _ _ => rfl)) (pe_op op_mulG (pv 2) (pe_ix ix_tup (pv 1) pe_int (fun _ _ => rfl)))) pa_nil))))), ?_⟩
  exact ⟨_, rfl, pa, _, _, _, rfl, rfl, SqT.of ha, rfl, _, rfl, _, rfl, pb, _, _, _, rfl, rfl, SqT.of hb, rfl, _, _, rfl, rfl, m1, _, _, rfl, rfl,
    _, rfl, pa, _, _, _, rfl, rfl, SqT.of ha, rfl, _, rfl, _, rfl, pb, _, _, _, rfl, rfl, SqT.of hb, rfl, _, _, rfl, rfl, m2, _, _, rfl, rfl,
    _, rfl, pa, _, _, _, rfl, rfl, SqT.of ha, rfl, _, rfl, _, rfl, pb, _, _, _, rfl, rfl, SqT.of hb, rfl, _, _, rfl, rfl, m3, _, _, rfl, rfl,
    (by show 3 ≤ sizeLine; decide), fun p np => q p _ (same_new np _) upd_same⟩
theorem ok_shares_of {f : Addr} {fd : FuncData} (F : Fun K "shares_of" "shares_of" s_shares_of f fd) (T : Txt K mg t) (H_row_less : Has P w K mg base CX0 1 "row_less" ["row", "taken", "times"] (spRow)) : FnOk P w K mg base CX0 2 f fd ["one", "other"] (spShares) := by
  obtain ⟨f_row_less, d_row_less, G_row_less, b_row_less, k_row_less, m_row_less⟩ := H_row_less
  refine F.ok sc_shares_of (fun vs H Q E h => ?_) (fun cdv A outer s H vs Q E hr h => ?_)
  · obtain ⟨x, y, rfl, _⟩ := h
    rfl
  obtain ⟨x, y, rfl, hx, hy, q⟩ := h
  have hr_row_less := hr.mono (show 1 ≤ 1 by decide)
  refine ⟨_, pss_cons (ps_set (i := 2) sc_shares_of.nd rfl (Or.inl rfl) (pe_tup (pa_cons (pv 0) (pa_cons pe_int (pa_cons pe_int pa_nil)))))
    (pss_cons (ps_set (i := 3) sc_shares_of.nd rfl (Or.inl rfl) (pe_tup (pa_cons (pv 1) (pa_cons pe_int (pa_cons pe_int pa_nil)))))
    (pss_cons (ps_while PassesOwn.never (pt_cmpR op_ne (pe_ix ix_tup (pv 3) pe_int (fun _ _ => rfl)) pe_int (nomark _)) (pss_cons (ps_set (i := 4) sc_shares_of.nd rfl (Or.inl rfl) (pe_call G_row_less hr_row_less rfl m_row_less k_row_less b_row_less .nil pass0 (pa_cons (pv 2) (pa_cons (pv 3) (pa_cons (pe_op op_fdivL (pe_ix ix_tup (pv 2) pe_int (fun _ _ => rfl)) (pe_ix ix_tup (pv 3) pe_int (fun _ _ => rfl))) pa_nil)))))
    (pss_cons (ps_set (i := 2) sc_shares_of.nd rfl (Or.inl rfl) (pv 3))
    (pss_one (ps_set (i := 3) sc_shares_of.nd rfl (Or.inl rfl) (pv 4))))))
    (pss_cons (ps_if (pt_cmpR op_lt (pe_ix ix_tup (pv 2) pe_int (fun _ _ => rfl)) pe_int (nomark _)) (pss_one (ps_ret (pe_tup (pa_cons (pe_un un_neg (pe_ix ix_tup (pv 2) pe_int (fun _ _ => rfl))) (pa_cons (pe_un un_neg (pe_ix ix_tup (pv 2) pe_int (fun _ _ => rfl))) (pa_cons (pe_un un_neg (pe_ix ix_tup (pv 2) pe_int (fun _ _ => rfl))) pa_nil)))))) pss_nil)
    (pss_one (ps_ret (pv 2)))))), ?_⟩
  have B4 : ((x.natAbs : Int) + 2 * y.natAbs + 1).natAbs ≤ 4 * Lm := by
    have := Lm_pos
    omega
  have sz0 := Sh.sz_start (x := x) (y := y)
  generalize ((x.natAbs : Int) + 2 * y.natAbs + 1) = B at B4 sz0
  refine ⟨_, rfl, (by show 3 ≤ sizeLine; decide), fun p1 n1 => ?_⟩
  refine ⟨_, rfl, (by show 3 ≤ sizeLine; decide), fun p2 n2 => ?_⟩
  refine ⟨fun m σ H' => ∃ (pa pb : Addr) (a s t b u v : Int) (be : Option V), σ = [some (.int x), some (.int y), some (.ref pa), some (.ref pb), be] ∧ Same H H' ∧ H' pa = some (.tup [.int a, .int s, .int t]) ∧ H' pb = some (.tup [.int b, .int u, .int v]) ∧
    Sh.Rows x y a s t b u v ∧ Sh.Sz B a s t b u v ∧ m = b.natAbs, ⟨_, p1, p2, _, _, _, _, _, _, none, rfl, (same_new n1 _).trans (same_new n2 _), same_new n2 _ _ _ upd_same, upd_same, Sh.rows_start x y, sz0, rfl⟩, ?_⟩
  clear sz0 n1 n2 p1 p2
  rintro m σ H1 ⟨pa, pb, a, s', t', b, u, v, be, rfl, g, ha, hb, rws, sz, rfl⟩
  refine ⟨_, rfl, pb, _, _, _, rfl, rfl, SqT.of hb, rfl, rfl, _, rfl, ?_⟩
  refine ite2 (fun c => ?_) (fun c => ?_)
  · have b0 : b ≠ 0 := fun z => neT c (congrArg V.int z)
    have sz' := Sh.sz_turn sz b0 (a.fdiv b) (a.fmod b) (Sh.quot a b) rfl
    have rw' := Sh.rows_turn rws (a.fdiv b)
    rw [fdiv_rest] at rw'
    have qs : (a.fdiv b).natAbs ≤ 8 * Lm := by
      have e : a.fdiv b * b = a - a.fmod b := by have := fdiv_rest a b; omega
      have h1 : (a.fdiv b).natAbs ≤ (a.fdiv b * b).natAbs := by
        rw [Int.natAbs_mul]
        exact Nat.le_mul_of_pos_right _ (by omega)
      rw [e] at h1
      have h2 := sz.a0
      have h3 := sz'.b0
      omega
    refine ⟨fun σ' H2 => ∃ pc : Addr, σ' = [some (.int x), some (.int y), some (.ref pb), some (.ref pc), some (.ref pc)] ∧ Same H1 H2 ∧ H2 pc = some (.tup [.int (a - a.fdiv b * b), .int (s' - a.fdiv b * u), .int (t' - a.fdiv b * v)]), ?_, ?_⟩
    · rintro σ' H2 ⟨pc, rfl, g2, hc⟩
      rw [fdiv_rest] at hc
      exact ⟨(a.fmod b).natAbs, Sh.fmod_abs b0, pb, pc, b, u, v, _, _, _, _, rfl, g.trans g2, g2 _ _ hb, hc, rw', sz', rfl⟩
    · have z1 := sz.b0
      have z2 := sz.u0
      have z3 := sz.v0
      refine ⟨_, rfl, _, rfl, _, rfl, pa, _, _, _, rfl, rfl, SqT.of ha, rfl, _, rfl, pb, _, _, _, rfl, rfl, SqT.of hb, rfl, _, _, rfl, rfl, ⟨b0, Lm_log (by omega)⟩,
        pa, pb, a, s', t', b, u, v, _, rfl, ha, hb, mulL qs (by omega), mulL qs (by omega), mulL qs (by omega), fun pc H2 g2 hc => ?_⟩
      exact ⟨_, rfl, _, rfl, pc, rfl, g2, hc⟩
  · have b0 : b = 0 := int_inj (neF c)
    obtain ⟨e1, ⟨k1, e2⟩, ⟨k2, e3⟩⟩ := Sh.rows_end rws b0
    have z2 := sz.s0
    have z3 := sz.t0
    refine ⟨_, rfl, pa, _, _, _, rfl, rfl, SqT.of ha, rfl, _, _, rfl, rfl, _, rfl, ?_⟩
    refine ite2 (fun c => ?_) (fun c => ?_)
    · have a0 : a < 0 := decT c
      refine ⟨_, rfl, pa, _, _, _, rfl, rfl, SqT.of ha, rfl, _, rfl, _, rfl, pa, _, _, _, rfl, rfl, SqT.of ha, rfl, _, rfl, _, rfl, pa, _, _, _, rfl, rfl, SqT.of ha, rfl, _, rfl, (by show 3 ≤ sizeLine; decide), fun p np => ?_⟩
      exact q p _ (-a) (-s') (-t') (g.trans (same_new np _)) upd_same (by omega) (by rw [Int.neg_mul, Int.neg_mul]; omega) ⟨-k1, by rw [Int.neg_mul_neg]; exact e2⟩ ⟨-k2, by rw [Int.neg_mul_neg]; exact e3⟩ (by omega) (by omega)
    · have a0 : ¬ a < 0 := decF c
      exact ⟨_, rfl, q pa H1 a s' t' g ha (by omega) e1 ⟨k1, e2⟩ ⟨k2, e3⟩ (by omega) (by omega)⟩
theorem ok_core_of {f : Addr} {fd : FuncData} (F : Fun K "core_of" "core_of" s_core_of f fd) (T : Txt K mg t) (H_prime_parts : Has P w K mg base CX0 2 "prime_parts" ["number"] (spParts0)) : FnOk P w K mg base CX0 3 f fd ["number"] (spCore0) := by
  obtain ⟨f_prime_parts, d_prime_parts, G_prime_parts, b_prime_parts, k_prime_parts, m_prime_parts⟩ := H_prime_parts
  refine F.ok sc_core_of (fun vs H Q E h => ?_) (fun cdv A outer s H vs Q E hr h => ?_)
  · obtain ⟨n, rfl, _⟩ := h
    rfl
  obtain ⟨n, rfl, c', n0, n1, q⟩ := h
  have hr_prime_parts := hr.mono (show 2 ≤ 2 by decide)
  refine ⟨_, pss_cons (ps_if (pt_cmpR op_eq (pv 0) pe_int (nomark _)) pss_never pss_nil)
    (pss_cut (ps_set (i := 1) sc_core_of.nd rfl (Or.inl rfl) (pe_ifExp (pt_cmpR op_lt (pv 0) pe_int (nomark _)) (pe_un un_neg pe_int) pe_int))
    (pss_cons (ps_set (i := 2) sc_core_of.nd rfl (Or.inl rfl) pe_int)
    (pss_cons (ps_for PassesOwn.never rfl (pi_list (pe_call G_prime_parts hr_prime_parts rfl m_prime_parts k_prime_parts b_prime_parts .nil pass0 (pa_cons (pe_callB call_abs rfl T.z_abs b_abs (pa_cons (pv 0) pa_nil)) pa_nil))) (pg_tup rfl (pgs_cons (pg_name (i := 3) sc_core_of.nd rfl (Or.inl rfl)) (pgs_cons (pg_name (i := 4) sc_core_of.nd rfl (Or.inl rfl)) pgs_nil))) (pss_cut (ps_if (pt_cmpR op_eq (pe_op op_mod (pv 4) pe_int) pe_int (nomark _)) (pss_one (ps_set (i := 1) sc_core_of.nd rfl (Or.inl rfl) (pe_op op_mulG (pv 1) (pv 3)))) pss_nil)
    (pss_one (ps_for PassesOwn.never rfl (pi_range1 rfl T.z_range (pa_cons (pe_op op_fdiv (pv 4) pe_int) pa_nil)) (pg_name (i := 5) sc_core_of.nd rfl (Or.inl rfl)) (pss_one (ps_set (i := 2) sc_core_of.nd rfl (Or.inl rfl) (pe_op op_mulG (pv 2) (pv 3))))))))
    (pss_one (ps_ret (pe_tup (pa_cons (pv 1) (pa_cons (pv 2) pa_nil)))))))), ?_⟩
  refine ⟨_, rfl, rfl, _, rfl, iteDF (fun z => c' (int_inj z)) ?_⟩
  refine ⟨fun σ' H' => σ' = [some (.int n), some (.int (sgn n)), none, none, none, none] ∧ H = H', ?_, ?_⟩
  · refine ⟨_, rfl, _, _, rfl, rfl, _, rfl, ?_⟩
    unfold sgn
    refine ite2 (fun c2 => ?_) (fun c2 => ?_)
    · refine ⟨_, rfl, ?_⟩
      rw [if_pos (decT c2)]
      exact ⟨rfl, rfl⟩
    · rw [if_neg (decF c2)]
      exact ⟨rfl, rfl⟩
  rintro _ _ ⟨rfl, rfl⟩
  have a1 : 1 ≤ absI n ∧ absI n ≤ 10000000000 := by
    unfold absI
    split <;> omega
  refine ⟨_, rfl, _, rfl, absI n, rfl, a1.1, a1.2, fun pl rs xs H1 g1 np hl tl told => ?_⟩
  refine ⟨pl, rfl, ⟨_, SqL.of hl⟩, for_list (K := K) (a := pl) (xs := rs.map V.ref) (fun i σ H' => ∃ (pr of tu : Option V), σ = [some (.int n), some (.int (sgn n * Pr.coreP (xs.take i))), some (.int (Pr.rootP (xs.take i))), pr, of, tu] ∧ H1 = H')
    ⟨none, none, none, by show [some (V.int n), some (V.int (sgn n)), some (V.int 1), none, none, none] = [some (V.int n), some (V.int (sgn n * 1)), some (V.int 1), none, none, none]; rw [Int.mul_one], rfl⟩ (fun i σ H2 _ ⟨_, _, _, _, e⟩ => e ▸ SqL.of hl) ?_ ?_⟩
  · rintro i y σ H2 hi ⟨pr, of, tu, rfl, rfl⟩
    obtain ⟨r, hr', rfl⟩ : ∃ r, rs[i]? = some r ∧ y = .ref r := by
      rw [List.getElem?_map] at hi
      cases e : rs[i]? with
      | none => rw [e] at hi; cases hi
      | some r => rw [e] at hi; exact ⟨r, rfl, (Option.some.inj hi).symm⟩
    obtain ⟨⟨p, o⟩, hx, ht⟩ := tl.get hr'
    have mem := List.mem_of_getElem? hx
    have prt := told.all _ mem
    have p2 : 2 ≤ p := prt.prime.two
    have o1 : 1 ≤ o := prt.often
    have o2 : o ≤ 40 := Pr.often_le told (by show absI n ≤ 10000000000; exact a1.2) mem
    have pn : p ≤ absI n := Pr.part_le told mem
    refine ⟨r, _, rfl, SqT.of ht, rfl, _, _, rfl, _, _, rfl, rfl, ?_⟩
    refine ⟨fun σ' H' => σ' = [some (.int n), some (.int (sgn n * Pr.coreP (xs.take (i + 1)))), some (.int (Pr.rootP (xs.take i))), some (.int p), some (.int o), tu] ∧ H1 = H', ?_, ?_⟩
    · refine ⟨_, rfl, _, _, rfl, rfl, (by show (0 : Int) < 2; decide), rfl, _, rfl, ?_⟩
      rw [core_more hx]
      refine ite2 (fun c2 => ?_) (fun c2 => ?_)
      · have e : o % 2 = 1 := int_inj (decT c2)
        rw [if_pos e, ← Int.mul_assoc]
        exact ⟨_, rfl, _, rfl, _, _, rfl, rfl, mulS (by omega) (by omega), rfl, rfl⟩
      · have e : ¬ o % 2 = 1 := fun z => decF c2 (congrArg V.int z)
        rw [if_neg e, Int.mul_one]
        exact ⟨rfl, rfl⟩
    rintro _ _ ⟨rfl, rfl⟩
    refine ⟨_, rfl, _, _, rfl, rfl, ⟨by decide, by decide⟩, o / 2, rfl, (by omega), (by omega),
      for_range (fun j σ H' => ∃ tu : Option V, σ = [some (.int n), some (.int (sgn n * Pr.coreP (xs.take (i + 1)))), some (.int (Pr.rootP (xs.take i) * p ^ j)), some (.int p), some (.int o), tu] ∧ H1 = H') ⟨tu, by rw [Int.pow_zero, Int.mul_one], rfl⟩ ?_ ?_⟩
    · rintro j σ H' hj ⟨tu, rfl, rfl⟩
      refine ⟨_, rfl, _, rfl, _, _, rfl, rfl, mulS (by omega) (by omega), some (.int (0 + (j : Int))), ?_, rfl⟩
      rw [Int.pow_succ, ← Int.mul_assoc]
      rfl
    · rintro σ H' ⟨tu, rfl, rfl⟩
      refine ⟨some (.int p), some (.int o), tu, ?_, rfl⟩
      rw [root_more hx]
  · rintro σ H2 ⟨pr, of, tu, rfl, rfl⟩
    have e : xs.take (rs.map V.ref).length = xs := by rw [List.length_map, tl.len, List.take_length]
    rw [e]
    exact ⟨_, rfl, _, rfl, (by show 2 ≤ sizeLine; decide), fun p hp => q p xs _ (g1.trans (same_new hp _)) told upd_same⟩

theorem ok_is_without_squares {f : Addr} {fd : FuncData} (F : Fun K "is_without_squares" "is_without_squares" s_is_without_squares f fd) (T : Txt K mg t) (H_core_of : Has P w K mg base CX0 3 "core_of" ["number"] (spCore0)) : FnOk P w K mg base CX0 4 f fd ["number"] (spNoSqB) := by
  obtain ⟨f_core_of, d_core_of, G_core_of, b_core_of, k_core_of, m_core_of⟩ := H_core_of
  refine F.ok sc_is_without_squares (fun vs H Q E h => ?_) (fun cdv A outer s H vs Q E hr h => ?_)
  · obtain ⟨_, rfl, _⟩ := h
    rfl
  obtain ⟨n, rfl, n6, q⟩ := h
  have hr_core_of := hr.mono (show 3 ≤ 3 by decide)
  refine ⟨_, pss_one (ps_ret (pe_and (pe_cmpR op_ne (pv 0) pe_int (nomark _)) (pe_one (pe_cmpR op_eq (pe_ix ix_tup (pe_call G_core_of hr_core_of rfl m_core_of k_core_of b_core_of .nil pass0 (pa_cons (pv 0) pa_nil)) pe_int (fun _ _ => rfl)) pe_int (nomark _))))), ?_⟩
  unfold Sm6 at n6
  refine ⟨_, rfl, rfl, _, rfl, ite2 (fun c => ?_) (fun c => ?_)⟩
  · have n0 : n ≠ 0 := fun z => neT c (congrArg V.int z)
    refine ⟨_, rfl, n, rfl, n0, by omega, by omega, fun p xs H1 g1 told hp => ⟨p, _, _, _, rfl, rfl, SqT.of hp, rfl, rfl, ?_⟩⟩
    refine q _ _ g1 ⟨fun e => ⟨n0, fun p hp hd => ?_⟩, fun e => decide_eq_true (congrArg V.int (root_one told fun p hp z => e.2 p hp (abs_dvd.mp z)))⟩
    have r1 : Pr.rootP xs = 1 := int_inj (decT e)
    have cr := Pr.core_root told.all
    rw [r1, told.prod, Int.mul_one, Int.mul_one] at cr
    exact Pr.core_no_sq hp told.all told.rise (by rw [cr]; exact abs_dvd.mpr hd)
  · refine q _ H (Same.refl _) ⟨fun e => ?_, fun e => absurd (int_inj (neF c)) e.1⟩
    first | exact absurd e c | exact (Bool.false_ne_true e).elim
theorem ok_places_in_question {f : Addr} {fd : FuncData} (F : Fun K "places_in_question" "places_in_question" s_places_in_question f fd) (T : Txt K mg t) (H_prime_parts : Has P w K mg base CX0 2 "prime_parts" ["number"] (spParts0)) : FnOk P w K mg base CX0 3 f fd ["a", "b", "c"] (spQuestN) := by
  obtain ⟨f_prime_parts, d_prime_parts, G_prime_parts, b_prime_parts, k_prime_parts, m_prime_parts⟩ := H_prime_parts
  refine F.ok sc_places_in_question (fun vs H Q E h => ?_) (fun cdv A outer s H vs Q E hr h => ?_)
  · obtain ⟨_, _, _, rfl, _⟩ := h
    rfl
  obtain ⟨a, b, c, rfl, P, a6, b6, c6, q⟩ := h
  have hr_prime_parts := hr.mono (show 2 ≤ 2 by decide)
  refine ⟨_, pss_cons (ps_set (i := 3) sc_places_in_question.nd rfl (Or.inl rfl) (pe_lst pa_nil))
    (pss_cons (ps_for PassesOwn.never rfl (pi_tup (pe_tup (pa_cons (pv 0) (pa_cons (pv 1) (pa_cons (pv 2) pa_nil))))) (pg_name (i := 4) sc_places_in_question.nd rfl (Or.inl rfl)) (pss_one (ps_expr (pe_bm PySem.F.plainAttrs_list PySem.F.slot_list_extend PySem.F.type_list_extend mt_extend (pv 3) (pa_cons (pe_compPairIf rfl (CompScope2.gen (cl := []) [] [] [(".0", .local), ("prime", .local), ("often", .local)] rfl (by decide +kernel) (by decide +kernel) rfl rfl rfl (by intro p hp; cases hp) rfl (by intro p hp h; simp only [List.mem_cons, List.not_mem_nil, or_false] at hp; rcases hp with rfl | rfl | rfl <;> first | rfl | (rcases h with h | h <;> cases h)) (by decide) (by decide +kernel) rfl (by intro p hp; cases hp)) (pi_list (pe_call G_prime_parts hr_prime_parts rfl m_prime_parts k_prime_parts b_prime_parts .nil pass0 (pa_cons (pe_callB call_abs rfl T.z_abs b_abs (pa_cons (pv 4) pa_nil)) pa_nil))) (fun C s0 H0 fp pins => pt_cmpR op_gt (pv 0) pe_int (nomark _)) (fun C s0 H0 fp pins => pv 0)) pa_nil)))))
    (pss_one (ps_ret (pe_op op_cat (pe_lst (pa_cons pe_int (pa_cons pe_int pa_nil))) (pe_callB (call_sortedS rfl) rfl T.z_sorted b_sorted (pa_cons (pe_callTy (call_setL rfl) rfl T.z_set b_set (pa_cons (pv 3) pa_nil)) pa_nil)))))), ?_⟩
  refine ⟨(by show 0 ≤ sizeLine; decide), fun od nod => ?_⟩
  refine ⟨_, rfl, _, rfl, _, rfl, (by show 3 ≤ sizeLine; decide), fun p0 n0 => ?_⟩
  have g0 := same_new nod (.lst [])
  have g1 := same_new n0 (.tup [.int a, .int b, .int c])
  refine ⟨p0, rfl, ⟨_, SqT.of upd_same⟩, for_tup (xs := [.int a, .int b, .int c]) (fun i σ H' => ∃ (nu : Option V) (os : List Int), σ = [some (.int a), some (.int b), some (.int c), some (.ref od), nu] ∧ Same H H' ∧ H' p0 = some (.tup [.int a, .int b, .int c]) ∧ H' od = some (.lst (os.map V.int)) ∧ os.length ≤ 20 * i ∧ (∀ p, p ∈ os ↔ Pr.Prm p ∧ p ≠ 2 ∧ ∃ (j : Nat) (n : Int), j < i ∧ [a, b, c][j]? = some n ∧ p ∣ n)) ⟨none, [], rfl, g0.trans g1, upd_same, g1 _ _ upd_same, by decide, fun p => ⟨(fun z => by cases z), (fun ⟨_, _, j, n, h, _⟩ => by omega)⟩⟩ ?_ ?_ ?_⟩
  · rintro i σ H' hi ⟨nu, os, rfl, g, h0, _⟩
    exact SqT.of h0
  · rintro i x σ H' hx ⟨nu, os, rfl, g, h0, hod, le, mem⟩
    obtain ⟨n, rfl, hn⟩ := get3 hx
    have nm := mem3 hn
    have n0' : n ≠ 0 := nm.elim (fun e => by rw [e]; exact P.a0) fun e => e.elim (fun e => by rw [e]; exact P.b0) fun e => by rw [e]; exact P.c0
    have n6 : Sm6 n := nm.elim (fun e => by rw [e]; exact a6) fun e => e.elim (fun e => by rw [e]; exact b6) fun e => by rw [e]; exact c6
    have a1 : 1 ≤ absI n ∧ absI n ≤ 10000000000 := by
      unfold absI Sm6 at *
      split <;> omega
    refine ⟨_, rfl, .inl ⟨rfl, _, SqL.of hod⟩, _, rfl, n, rfl, absI n, rfl, a1.1, a1.2, fun pl rs xs H1 g1 np hl tl told => ?_⟩
    have ln := told_len told n6
    refine ⟨pl, rfl, ⟨_, SqL.of hl⟩, compPI_list (rs := rs) (xs := xs) (Nat.lt_of_lt_of_le ln (by decide)) tl.len (fun H' g => SqL.of (g _ _ hl)) ?_ (fun p => decide (2 < p)) ?_ ?_ ?_⟩
    · intro j r y e1 e2
      obtain ⟨y', e3, e4⟩ := tl.get e1
      rw [e2] at e3
      cases e3
      exact e4
    · intro y H2 Q2 g2 k
      exact ⟨_, rfl, _, _, rfl, rfl, _, rfl, k⟩
    · intro y H2 Q2 g2 k
      exact ⟨_, rfl, k⟩
    · intro l H2 g2 nl hl2
      obtain ⟨ond, omem⟩ := odds_told told
      have ol : ((xs.map (·.1)).filter fun p => decide (2 < p)).length ≤ 20 := by
        have := List.length_filter_le (fun p => decide (2 < p)) (xs.map (·.1))
        rw [List.length_map] at this
        omega
      generalize (xs.map (·.1)).filter (fun p => decide (2 < p)) = ns at ond omem ol hl2
      have hod2 := g2 _ _ (g1 _ _ hod)
      refine ⟨od, l, _, _, rfl, rfl, hod2, hl2, ?_, ?_⟩
      · rw [List.length_map, List.length_map]
        have hi3 : i < 3 := (List.getElem?_eq_some_iff.mp hn).1
        exact Nat.le_trans (by omega : os.length + ns.length ≤ 100) (by decide)
      have ne : od ≠ p0 := fun z => by
        subst z
        rw [h0] at hod
        cases hod
      refine ⟨some (.int n), os ++ ns, rfl, fun b o e => ?_, ?_, ?_, ?_, fun p => ?_⟩
      · rw [upd_ne (ne_of_none e nod)]
        exact g2 _ _ (g1 _ _ (g b o e))
      · rw [upd_ne (Ne.symm ne)]
        exact g2 _ _ (g1 _ _ h0)
      · rw [upd_same, List.map_append]
      · rw [List.length_append]
        omega
      · rw [List.mem_append, mem, omem]
        constructor
        · rintro (⟨a1, a2, j, m, hj, hm, hd⟩ | ⟨a1, a2, hd⟩)
          · exact ⟨a1, a2, j, m, by omega, hm, hd⟩
          · exact ⟨a1, a2, i, n, by omega, hn, hd⟩
        · rintro ⟨a1, a2, j, m, hj, hm, hd⟩
          by_cases e : j = i
          · subst e
            rw [hn] at hm
            cases hm
            exact .inr ⟨a1, a2, hd⟩
          · exact .inl ⟨a1, a2, j, m, by omega, hm, hd⟩
  · rintro σ H' ⟨nu, os, rfl, g, h0, hod, le, mem⟩
    have le60 : os.length ≤ 60 := le
    refine ⟨(by show 2 ≤ sizeLine; decide), fun z nz => ⟨_, rfl, od, os, rfl, SqL.of (same_new nz _ _ _ hod), (by omega), fun pS nS => ⟨pS, os, rfl, upd_same, (by omega), fun sr ks nsr strict mems => ?_⟩⟩⟩
    have f1 := same_new nz (.lst [.int 0, .int 2])
    have fS := fun o => same_new nS o
    have f2 := same_new nsr (.lst (ks.map V.int))
    have lk : ks.length ≤ 60 := Nat.le_trans (List.Nodup.length_le_of_subset (strict.imp fun h => Int.ne_of_lt h) fun k hk => (mems k).mp hk) le60
    refine ⟨z, sr, _, _, rfl, rfl, f2 _ _ (fS _ _ _ upd_same), upd_same, ?_, fun r nr => ?_⟩
    · rw [List.length_map]
      exact Nat.le_trans (by show 2 + ks.length ≤ 100; omega) (by decide)
    have memk : ∀ x, x ∈ ks ↔ Pr.Prm x ∧ x ≠ 2 ∧ (x ∣ a ∨ x ∣ b ∨ x ∣ c) := by
      intro x
      rw [mems, mem]
      constructor
      · rintro ⟨a1, a2, j, m, hj, hm, hd⟩
        exact ⟨a1, a2, (mem3 hm).elim (fun e => .inl (e ▸ hd)) fun e => e.elim (fun e => .inr (.inl (e ▸ hd))) fun e => .inr (.inr (e ▸ hd))⟩
      · rintro ⟨a1, a2, hd | hd | hd⟩
        · exact ⟨a1, a2, 0, a, (by show 0 < 3; decide), rfl, hd⟩
        · exact ⟨a1, a2, 1, b, (by show 1 < 3; decide), rfl, hd⟩
        · exact ⟨a1, a2, 2, c, (by show 2 < 3; decide), rfl, hd⟩
    refine q r ks _ (g.trans (f1.trans ((fS _).trans (f2.trans (same_new nr _))))) ?_ upd_same ?_ ?_ memk
    · exact g.free (f1.free ((fS _).free (f2.free nr)))
    · refine List.pairwise_cons.mpr ⟨fun x m => ?_, List.pairwise_cons.mpr ⟨fun x m => ?_, strict⟩⟩
      · rcases List.mem_cons.mp m with rfl | m
        · decide
        · have := ((memk x).mp m).1.two
          omega
      · have h1 := ((memk x).mp m).1.two
        have h2 := ((memk x).mp m).2.1
        omega
    · show ks.length + 1 + 1 < 100
      omega
theorem ok_places_without_point {f : Addr} {fd : FuncData} (F : Fun K "places_without_point" "places_without_point" s_places_without_point f fd) (T : Txt K mg t) (H_places_in_question : Has P w K mg base CX0 3 "places_in_question" ["a", "b", "c"] (spQuestN)) (H_sign_at : Has P w K mg base CX0 4 "sign_at" ["a", "b", "place"] (spAt)) : FnOk P w K mg base CX0 5 f fd ["a", "b", "c"] (spBadH) := by
  obtain ⟨f_places_in_question, d_places_in_question, G_places_in_question, b_places_in_question, k_places_in_question, m_places_in_question⟩ := H_places_in_question
  obtain ⟨f_sign_at, d_sign_at, G_sign_at, b_sign_at, k_sign_at, m_sign_at⟩ := H_sign_at
  refine F.ok sc_places_without_point (fun vs H Q E h => ?_) (fun cdv A outer s H vs Q E hr h => ?_)
  · obtain ⟨_, _, _, rfl, _⟩ := h
    rfl
  obtain ⟨a, b, c, rfl, P, a6, b6, c6, q⟩ := h
  have hr_places_in_question := hr.mono (show 3 ≤ 4 by decide)
  have hr_sign_at := hr.mono (show 4 ≤ 4 by decide)
  refine ⟨_, pss_one (ps_ret (pe_compIfC rfl (CompScope.gen (cl := [("c", _), ("b", _), ("a", _)]) ["a", "b", "c"] [0, 1, 2] [(".0", .local), ("place", .local), ("sign_at", .globalImplicit), ("a", .cell), ("b", .cell), ("c", .cell)] rfl (by decide +kernel) (by decide +kernel) rfl rfl (by intro p hp; simp only [List.mem_cons, List.not_mem_nil, or_false] at hp; rcases hp with rfl | rfl | rfl <;> rfl) rfl (by intro p hp h; simp only [List.mem_cons, List.not_mem_nil, or_false] at hp; rcases hp with rfl | rfl | rfl | rfl | rfl | rfl <;> first | rfl | (rcases h with h | h <;> cases h)) (by decide) (by decide +kernel) rfl (by intro p hp; simp only [List.zip_cons_cons, List.zip_nil_left, List.mem_cons, List.not_mem_nil, or_false] at hp; rcases hp with rfl | rfl | rfl <;> exact ⟨rfl, rfl⟩)) (pi_list (pe_call G_places_in_question hr_places_in_question rfl m_places_in_question k_places_in_question b_places_in_question .nil pass0 (pa_cons (pv 0) (pa_cons (pv 1) (pa_cons (pv 2) pa_nil))))) (fun C s0 H0 fp pins => pt_cmpR op_eq (pe_call G_sign_at hr_sign_at rfl m_sign_at k_sign_at b_sign_at .nil pass0 (pa_cons (pe_op op_mulG (pe_un un_neg (pv 1)) (pv 3)) (pa_cons (pe_op op_mulG (pe_un un_neg (pv 2)) (pv 3)) (pa_cons (pv 0) pa_nil)))) (pe_un un_neg pe_int) (nomark _)) (fun C s0 H0 fp pins => pv 0))), ?_⟩
  refine ⟨_, rfl, _, rfl, _, rfl, a, b, c, rfl, P, a6, b6, c6, fun p ks H2 g2 np hp st ln mem => ?_⟩
  have six : ∀ {n : Int}, Sm6 n → n.natAbs ≤ 1000000 := fun h => h
  have ma : IntMulOk (-a) c := IntMulOk.of_right (intBits_le_64 (by have := six c6; omega) (by have := six c6; omega))
  have mb : IntMulOk (-b) c := IntMulOk.of_right (intBits_le_64 (by have := six c6; omega) (by have := six c6; omega))
  have nz : ∀ {x : Int}, x ≠ 0 → -x * c ≠ 0 := fun h z => by
    rcases Int.mul_eq_zero.mp z with w | w
    · omega
    · exact P.c0 w
  have bs : (-b * c).natAbs < 2 ^ 64 := by
    rw [Int.natAbs_mul]
    have h1 : (-b).natAbs ≤ 1000000 := by have := six b6; omega
    have h2 := six c6
    exact Nat.lt_of_le_of_lt (Nat.mul_le_mul h1 h2) (by decide)
  have small : ∀ {x n : Int}, Sm6 n → n ≠ 0 → x ∣ n → x < 10000000000 := fun {x n} h6 n0 hd => by
    have h1 := Nat.le_of_dvd (by omega) (Int.natAbs_dvd_natAbs.mpr hd)
    have h2 := six h6
    omega
  have sign : ∀ x : Int, x ∈ (0 :: 2 :: ks) → At (-a * c) (-b * c) x (Jc.At0 (-a * c) (-b * c) x) := by
    intro x hx
    have prime : ∀ {y : Int}, Pr.Prm y → y < 10000000000 → At (-a * c) (-b * c) y (Jc.At0 (-a * c) (-b * c) y) := fun {y} hy hb => by
      obtain ⟨l1, o1, d1⟩ := Jc.decs hy (nz P.a0)
      obtain ⟨l2, o2, d2⟩ := Jc.decs hy (nz P.b0)
      refine .inr ⟨hy, hb, o1, l1, o2, l2, d1, d2, ?_⟩
      unfold Jc.At0
      rw [if_neg (by have := hy.two; omega)]
      exact Jc.H_eq hy d1 d2
    rcases List.mem_cons.mp hx with rfl | hx
    · refine .inl ⟨rfl, ?_⟩
      unfold Jc.At0
      rw [if_pos rfl]
      rfl
    rcases List.mem_cons.mp hx with rfl | hx
    · exact prime Jc.prm_2 (by decide)
    · obtain ⟨hp', n2, hd⟩ := (mem x).mp hx
      exact prime hp' (hd.elim (small a6 P.a0) fun h => h.elim (small b6 P.b0) (small c6 P.c0))
  refine ⟨p, rfl, ⟨_, SqL.of hp⟩, compIf_listF (xs := (0 :: 2 :: ks).map V.int) (by rw [List.length_map]; exact Nat.lt_of_lt_of_le ln (by decide)) (fun w => match w with
      | .int x => decide (Jc.At0 (-a * c) (-b * c) x = -1)
      | _ => false) id (fun H' g => SqL.of (g _ _ hp)) ?_ ?_ ?_⟩
  · intro i x H' Q' hx g k
    obtain ⟨n, hn, rfl⟩ := List.mem_map.mp (List.mem_of_getElem? hx)
    have h1 := sign n hn
    refine ⟨_, rfl, _, rfl, _, rfl, _, _, rfl, rfl, ma, _, rfl, _, rfl, _, rfl, _, _, rfl, rfl, mb, _, rfl, -a * c, -b * c, n, _, rfl, nz P.a0, nz P.b0, bs, h1, fun H3 g3 => ⟨_, rfl, rfl, _, rfl, ?_⟩⟩
    have kk := k H3 g3
    have e : decide (V.int (Jc.At0 (-a * c) (-b * c) n) = V.int (-1)) = decide (Jc.At0 (-a * c) (-b * c) n = -1) := by simp
    rw [e]
    exact kk
  · intro i x H' Q' hx e g k
    exact ⟨_, rfl, k _ (Same.refl _)⟩
  · intro l H' g nl hl
    have e : (((0 :: 2 :: ks).map V.int).filter fun w => match w with
      | .int x => decide (Jc.At0 (-a * c) (-b * c) x = -1)
      | _ => false).map id = (bads a b c ks).map V.int := by
      rw [List.map_id, List.filter_map]
      rfl
    rw [e] at hl
    exact q l ks H' (g2.trans g) (g2.free nl) ⟨mem, st⟩ (by simp only [List.length_cons] at ln; omega) hl
theorem ok_joined_rests {f : Addr} {fd : FuncData} (F : Fun K "joined_rests" "joined_rests" s_joined_rests f fd) (T : Txt K mg t) (H_shares_of : Has P w K mg base CX0 2 "shares_of" ["one", "other"] (spShares)) : FnOk P w K mg base CX0 3 f fd ["r", "n", "s", "m"] (spJoin) := by
  obtain ⟨f_shares_of, d_shares_of, G_shares_of, b_shares_of, k_shares_of, m_shares_of⟩ := H_shares_of
  refine F.ok sc_joined_rests (fun vs H Q E h => ?_) (fun cdv A outer s H vs Q E hr h => ?_)
  · obtain ⟨_, _, _, _, rfl, _⟩ := h
    rfl
  obtain ⟨r, n, s', p, rfl, n1, nb, hp, pb, nd, rb, sb, q⟩ := h
  have hr_shares_of := hr.mono (show 2 ≤ 2 by decide)
  have p2 := hp.two
  have LB := Lm_big
  refine ⟨_, pss_cons (ps_set (i := 4) sc_joined_rests.nd rfl (Or.inl rfl) (pe_call G_shares_of hr_shares_of rfl m_shares_of k_shares_of b_shares_of .nil pass0 (pa_cons (pv 1) (pa_cons (pv 3) pa_nil))))
    (pss_cons (ps_set (i := 5) sc_joined_rests.nd rfl (Or.inl rfl) (pe_ix ix_tup (pv 4) pe_int (fun _ _ => rfl)))
    (pss_cons (ps_if (pt_cmpR op_ne (pe_op op_mod (pe_op op_sub (pv 2) (pv 0)) (pv 5)) pe_int (nomark _)) pss_never pss_nil)
    (pss_cons (ps_set (i := 6) sc_joined_rests.nd rfl (Or.inl rfl) (pe_op op_mulG (pe_op op_fdivL (pv 1) (pv 5)) (pv 3)))
    (pss_cons (ps_set (i := 7) sc_joined_rests.nd rfl (Or.inl rfl) (pe_op op_fdivL (pe_op op_sub (pv 2) (pv 0)) (pv 5)))
    (pss_one (ps_ret (pe_tup (pa_cons (pe_op op_mod (pe_op op_add (pv 0) (pe_op op_mulG (pe_op op_mulG (pe_ix ix_tup (pv 4) pe_int (fun _ _ => rfl)) (pv 1)) (pv 7))) (pv 6)) (pa_cons (pv 6) pa_nil))))))))), ?_⟩
  refine ⟨_, rfl, _, rfl, n, p, rfl, by omega, by omega, fun t1 H1 g sh th g1 ht g0 e dn dm bs bt => ?_⟩
  have gone := Jc.join_one g0 e dn dm hp rfl nd
  subst gone
  refine ⟨_, rfl, t1, _, _, _, rfl, rfl, SqT.of ht, rfl, ?_⟩
  refine ⟨_, rfl, _, rfl, _, _, rfl, rfl, _, rfl, _, _, rfl, rfl, (by show (0 : Int) < 1; decide), rfl, _, rfl, iteNS (congrArg V.int (Int.emod_one _)) ?_⟩
  refine ⟨_, rfl, _, rfl, _, _, rfl, rfl, ⟨by decide, by decide⟩, _, rfl, _, _, rfl, rfl, mulS (by omega) (by omega), ?_⟩
  refine ⟨_, rfl, _, rfl, _, _, rfl, rfl, _, rfl, _, _, rfl, rfl, ⟨by decide, by decide⟩, ?_⟩
  have np := Int.mul_pos (show 0 < n by omega) (show 0 < p by omega)
  have e1 : Int.fdiv n 1 * p = n * p := by rw [fdiv_one]
  have e2 : Int.fdiv (s' - r) 1 = s' - r := fdiv_one _
  refine ⟨_, rfl, _, rfl, t1, _, _, _, rfl, rfl, SqT.of ht, rfl, _, rfl, _, _, rfl, rfl, mulS (by omega) (by omega), _, rfl, _, _, rfl, rfl, mulS (by rw [e2]; omega) (by rw [e2]; omega), _, _, rfl, rfl, _, rfl, _, _, rfl, rfl, (by show 0 < Int.fdiv n 1 * p; rw [e1]; exact np), _, rfl, (by show 2 ≤ sizeLine; decide), fun t2 ht2 => ?_⟩
  have fit := Jc.join_both (Jc.join_fit (r := r) (s := s') e)
  have z0 := Int.emod_nonneg (r + sh * n * (s' - r)) (show n * p ≠ 0 by omega)
  have z1 := Int.emod_lt_of_pos (r + sh * n * (s' - r)) np
  refine q t2 _ ((r + sh * n * (s' - r)) % (n * p)) (g1.trans (same_new ht2 _)) ?_ z0 z1 fit.1 fit.2
  rw [upd_same]
  show some (HO.tup [.int ((r + sh * n * Int.fdiv (s' - r) 1) % (Int.fdiv n 1 * p)), .int (Int.fdiv n 1 * p)]) = _
  rw [e1, e2]
theorem ok_has_root {f : Addr} {fd : FuncData} (F : Fun K "has_root" "has_root" s_has_root f fd) (T : Txt K mg t) (H_sign_by : Has P w K mg base CX0 2 "sign_by" ["number", "n"] (spSign)) : FnOk P w K mg base CX0 3 f fd ["number", "prime"] (spHas) := by
  obtain ⟨f_sign_by, d_sign_by, G_sign_by, b_sign_by, k_sign_by, m_sign_by⟩ := H_sign_by
  refine F.ok sc_has_root (fun vs H Q E h => ?_) (fun cdv A outer s H vs Q E hr h => ?_)
  · obtain ⟨_, _, rfl, _⟩ := h
    rfl
  obtain ⟨x, p, rfl, hp, pb, q⟩ := h
  have hr_sign_by := hr.mono (show 2 ≤ 2 by decide)
  have p2 := hp.two
  refine ⟨_, pss_one (ps_ret (pe_or (pe_cmpR op_eq (pv 1) pe_int (nomark _)) (pe_one (pe_cmpR op_ne (pe_call G_sign_by hr_sign_by rfl m_sign_by k_sign_by b_sign_by .nil pass0 (pa_cons (pv 0) (pa_cons (pv 1) pa_nil))) (pe_un un_neg pe_int) (nomark _))))), ?_⟩
  refine ⟨_, rfl, rfl, _, rfl, ?_⟩
  refine ite2 (fun c => ?_) (fun c => ?_)
  · have e : p = 2 := int_inj (decT c)
    have z := q true H (Same.refl H) ⟨fun _ => .inl e, fun _ => rfl⟩
    exact z
  · have e : p ≠ 2 := fun z => decF c (congrArg V.int z)
    refine ⟨_, rfl, _, rfl, x, p, rfl, by omega, Jc.prm_odd hp e, by omega, fun H1 g1 => ⟨_, rfl, rfl, ?_⟩⟩
    refine q _ H1 g1 ⟨fun z => .inr fun y => neT z (congrArg V.int y), fun z => ?_⟩
    rcases z with z | z
    · exact absurd z e
    · rw [decide_eq_false fun y => z (int_inj y)]
      rfl
theorem ok_least_without_root {f : Addr} {fd : FuncData} (F : Fun K "least_without_root" "least_without_root" s_least_without_root f fd) (T : Txt K mg t) (H_has_root : Has P w K mg base CX0 3 "has_root" ["number", "prime"] (spHas)) : FnOk P w K mg base CX0 4 f fd ["prime"] (spLeast) := by
  obtain ⟨f_has_root, d_has_root, G_has_root, b_has_root, k_has_root, m_has_root⟩ := H_has_root
  refine F.ok sc_least_without_root (fun vs H Q E h => ?_) (fun cdv A outer s H vs Q E hr h => ?_)
  · obtain ⟨_, rfl, _⟩ := h
    rfl
  obtain ⟨p, rfl, hp, p2, q⟩ := h
  have hr_has_root := hr.mono (show 3 ≤ 3 by decide)
  obtain ⟨pp, pb, nr⟩ := q6 hp
  obtain ⟨z, z2, zp, hz⟩ := nr p2
  refine ⟨_, pss_cons (ps_set (i := 1) sc_least_without_root.nd rfl (Or.inl rfl) pe_int)
    (pss_cons (ps_while PassesOwn.never (pt_val (pe_call G_has_root hr_has_root rfl m_has_root k_has_root b_has_root .nil pass0 (pa_cons (pv 1) (pa_cons (pv 0) pa_nil))) (fun _ => rfl)) (pss_one (ps_set (i := 1) sc_least_without_root.nd rfl (Or.inl rfl) (pe_op op_add (pv 1) pe_int))))
    (pss_one (ps_ret (pv 1)))), ?_⟩
  refine ⟨fun m σ H' => ∃ k : Int, σ = [some (.int p), some (.int k)] ∧ Same H H' ∧ k ≤ z ∧ m = (z - k).toNat, ⟨_, 2, rfl, Same.refl H, z2, rfl⟩, ?_⟩
  rintro m σ H1 ⟨k, rfl, g1, kz, rfl⟩
  refine ⟨_, rfl, _, rfl, k, p, rfl, pp, by omega, fun b H2 g2 hb => ⟨_, rfl, ?_⟩⟩
  refine ite2 (fun c => ?_) (fun c => ?_)
  · have kn : k ≠ z := fun y => by
      rcases hb.mp c with e | e
      · exact p2 e
      · rw [y] at e; exact e hz
    refine ⟨fun σ' H3 => σ' = [some (.int p), some (.int (k + 1))] ∧ H2 = H3, ?_, ?_⟩
    · rintro σ' H3 ⟨rfl, rfl⟩
      exact ⟨(z - (k + 1)).toNat, by omega, k + 1, rfl, g1.trans g2, by omega, rfl⟩
    · exact ⟨_, rfl, _, _, rfl, rfl, rfl, rfl⟩
  · refine ⟨_, rfl, q k H2 (g1.trans g2) ?_⟩
    by_cases e : Jc.J k p = -1
    · exact e
    · exact absurd (hb.mpr (.inr e)) c
theorem ok_root_by_odd_prime {f : Addr} {fd : FuncData} (F : Fun K "root_by_odd_prime" "root_by_odd_prime" s_root_by_odd_prime f fd) (T : Txt K mg t) (H_taken_out : Has P w K mg base CX0 1 "taken_out" ["number", "prime"] (spTaken)) (H_power_by : Has P w K mg base CX0 1 "power_by" ["number", "k", "n"] (spPower)) (H_least_without_root : Has P w K mg base CX0 4 "least_without_root" ["prime"] (spLeast)) : FnOk P w K mg base CX0 5 f fd ["number", "prime"] (spRootO) := by
  obtain ⟨f_taken_out, d_taken_out, G_taken_out, b_taken_out, k_taken_out, m_taken_out⟩ := H_taken_out
  obtain ⟨f_power_by, d_power_by, G_power_by, b_power_by, k_power_by, m_power_by⟩ := H_power_by
  obtain ⟨f_least_without_root, d_least_without_root, G_least_without_root, b_least_without_root, k_least_without_root, m_least_without_root⟩ := H_least_without_root
  refine F.ok sc_root_by_odd_prime (fun vs H Q E h => ?_) (fun cdv A outer s H vs Q E hr h => ?_)
  · obtain ⟨_, _, rfl, _⟩ := h
    rfl
  obtain ⟨x, p, rfl, hp, p2, hx, q⟩ := h
  have hr_taken_out := hr.mono (show 1 ≤ 4 by decide)
  have hr_power_by := hr.mono (show 1 ≤ 4 by decide)
  have hr_least_without_root := hr.mono (show 4 ≤ 4 by decide)
  obtain ⟨pp, pb, nr⟩ := q6 hp
  have po := Jc.prm_odd pp p2
  have ptwo := pp.two
  have LB := Lm_big
  have pL : p.natAbs ≤ Lm := by omega
  refine ⟨_, pss_cons (ps_set (i := 2) sc_root_by_odd_prime.nd rfl (Or.inl rfl) (pe_ix ix_tup (pe_call G_taken_out hr_taken_out rfl m_taken_out k_taken_out b_taken_out .nil pass0 (pa_cons (pe_op op_sub (pv 1) pe_int) (pa_cons pe_int pa_nil))) pe_int (fun _ _ => rfl)))
    (pss_cons (ps_set (i := 3) sc_root_by_odd_prime.nd rfl (Or.inl rfl) (pe_call G_power_by hr_power_by rfl m_power_by k_power_by b_power_by .nil pass0 (pa_cons (pv 0) (pa_cons (pe_op op_fdiv (pe_op op_add (pv 2) pe_int) pe_int) (pa_cons (pv 1) pa_nil)))))
    (pss_cons (ps_set (i := 4) sc_root_by_odd_prime.nd rfl (Or.inl rfl) (pe_call G_power_by hr_power_by rfl m_power_by k_power_by b_power_by .nil pass0 (pa_cons (pv 0) (pa_cons (pv 2) (pa_cons (pv 1) pa_nil)))))
    (pss_cons (ps_set (i := 5) sc_root_by_odd_prime.nd rfl (Or.inl rfl) (pe_call G_power_by hr_power_by rfl m_power_by k_power_by b_power_by .nil pass0 (pa_cons (pe_call G_least_without_root hr_least_without_root rfl m_least_without_root k_least_without_root b_least_without_root .nil pass0 (pa_cons (pv 1) pa_nil)) (pa_cons (pv 2) (pa_cons (pv 1) pa_nil)))))
    (pss_cons (ps_set (i := 6) sc_root_by_odd_prime.nd rfl (Or.inl rfl) (pe_op op_fdiv (pe_op op_fdivL (pe_op op_sub (pv 1) pe_int) (pv 2)) pe_int))
    (pss_cons (ps_while PassesOwn.never (pt_cmpR op_gt (pv 6) pe_int (nomark _)) (pss_cut (ps_if (pt_cmpR op_ne (pe_call G_power_by hr_power_by rfl m_power_by k_power_by b_power_by .nil pass0 (pa_cons (pv 4) (pa_cons (pv 6) (pa_cons (pv 1) pa_nil)))) pe_int (nomark _)) (pss_cons (ps_set (i := 3) sc_root_by_odd_prime.nd rfl (Or.inl rfl) (pe_op op_mod (pe_op op_mulG (pv 3) (pv 5)) (pv 1)))
    (pss_one (ps_set (i := 4) sc_root_by_odd_prime.nd rfl (Or.inl rfl) (pe_op op_mod (pe_op op_mulG (pe_op op_mulG (pv 4) (pv 5)) (pv 5)) (pv 1))))) pss_nil)
    (pss_cons (ps_set (i := 5) sc_root_by_odd_prime.nd rfl (Or.inl rfl) (pe_op op_mod (pe_op op_mulG (pv 5) (pv 5)) (pv 1)))
    (pss_one (ps_set (i := 6) sc_root_by_odd_prime.nd rfl (Or.inl rfl) (pe_op op_fdiv (pv 6) pe_int))))))
    (pss_one (ps_ret (pv 3)))))))), ?_⟩
  refine ⟨_, rfl, _, _, rfl, rfl, p - 1, 2, rfl, by omega, by decide, by decide, fun r H1 o l g1 hr1 inn o0 zl l0 lx sp sn => ?_⟩
  have lp := sp (by omega)
  have lo : l % 2 = 1 := by
    have z : l.fmod 2 = l % 2 := Int.fmod_eq_emod_of_nonneg l (by decide)
    rw [z] at zl
    omega
  obtain ⟨L, rfl⟩ : ∃ L : Nat, l = (L : Int) := ⟨l.toNat, by omega⟩
  obtain ⟨E1, rfl⟩ : ∃ E1 : Nat, o = (E1 : Int) := ⟨o.toNat, by omega⟩
  have pe : p - 1 = 2 ^ E1 * (L : Int) := inn.eq
  have e1 : 1 ≤ E1 := by
    rcases Nat.eq_zero_or_pos E1 with z | z
    · subst z
      rw [Int.pow_zero, Int.one_mul] at pe
      omega
    · exact z
  refine ⟨r, _, _, _, rfl, rfl, SqT.of hr1, rfl, ?_⟩
  refine ⟨_, rfl, _, rfl, _, _, rfl, rfl, _, _, rfl, rfl, ⟨by decide, by decide⟩, _, rfl, x, _, p, rfl, (by show 0 ≤ ((L : Int) + 1) / 2; omega), by omega, pL, ?_⟩
  refine ⟨_, rfl, _, rfl, _, rfl, x, _, p, rfl, (by omega), by omega, pL, ?_⟩
  refine ⟨_, rfl, p, rfl, hp, p2, fun z H2 g2 hz => ⟨_, rfl, _, rfl, z, _, p, rfl, (by omega), by omega, pL, ?_⟩⟩
  have T := Jc.ton_start (n := x) (z := z) (o := L) (e := E1) pp po hx hz (by omega) pe e1
  have hdiv : Int.fdiv (p - 1) (L : Int) = 2 ^ E1 := by
    rw [pe, Int.fdiv_eq_ediv_of_nonneg _ (by omega), Int.mul_ediv_cancel _ (by omega)]
  refine ⟨_, rfl, _, _, rfl, rfl, _, rfl, _, _, rfl, rfl, ⟨by omega, Nat.lt_of_lt_of_le (log2_lt_of (k := 64) (by omega) (by decide)) (by decide)⟩, _, _, rfl, rfl, ⟨by decide, by decide⟩, ?_⟩
  have hh : Int.fdiv (p - 1) (L : Int) / 4 = ((2 ^ E1 / 4 : Nat) : Int) := by
    rw [hdiv, Int.natCast_ediv, Int.natCast_pow]
    rfl
  have r1 : ((((L : Int) + 1) / 2)).toNat = (L + 1) / 2 := by omega
  have rng : ∀ (u : Int) (k : Nat), 0 ≤ Pw.PM u k p ∧ Pw.PM u k p < p := fun u k => ⟨Pw.PM_nonneg (by omega), Pw.PM_lt (by omega)⟩
  refine ⟨fun m σ H' => ∃ (ro ov tu : Int) (hf : Nat), σ = [some (.int x), some (.int p), some (.int (L : Int)), some (.int ro), some (.int ov), some (.int tu), some (.int (hf : Int))] ∧ H2 = H' ∧ Jc.Ton p x ro ov tu hf ∧ (0 ≤ ro ∧ ro < p) ∧ (0 ≤ ov ∧ ov < p) ∧ (0 ≤ tu ∧ tu < p) ∧ m = hf,
    ⟨_, Pw.PM x ((L + 1) / 2) p, Pw.PM x L p, Pw.PM z L p, 2 ^ E1 / 4, ?_, rfl, T, rng _ _, rng _ _, rng _ _, rfl⟩, ?_⟩
  · rw [← r1, ← hh]
    rfl
  rintro m σ H3 ⟨ro, ov, tu, hf, rfl, rfl, T, ror, ovr, tur, hm⟩
  refine ⟨_, rfl, _, _, rfl, rfl, _, rfl, ?_⟩
  refine ite2 (fun c => ?_) (fun c => ?_)
  · have h0 : hf ≠ 0 := by
      have c1 : (0 : Int) < (hf : Int) := decT c
      omega
    have one : (1 : Int) % p = 1 := Int.emod_eq_of_lt (by decide) (by omega)
    refine ⟨fun σ' H4 => ∃ (ro ov : Int), σ' = [some (.int x), some (.int p), some (.int (L : Int)), some (.int ro), some (.int ov), some (.int (tu * tu % p)), some (.int ((hf : Int) / 2))] ∧ H2 = H4 ∧ Jc.Ton p x ro ov (tu * tu % p) (hf / 2) ∧ (0 ≤ ro ∧ ro < p) ∧ (0 ≤ ov ∧ ov < p), ?_, ?_⟩
    · rintro σ' H4 ⟨ro, ov, rfl, rfl, T, ror, ovr⟩
      refine ⟨hf / 2, by omega, ro, ov, _, hf / 2, ?_, rfl, T, ror, ovr, ⟨Int.emod_nonneg _ (by omega), Int.emod_lt_of_pos _ (by omega)⟩, rfl⟩
      rw [Int.natCast_ediv]
      rfl
    refine ⟨fun σ' H4 => ∃ (ro ov : Int), σ' = [some (.int x), some (.int p), some (.int (L : Int)), some (.int ro), some (.int ov), some (.int tu), some (.int (hf : Int))] ∧ H2 = H4 ∧ Jc.Ton p x ro ov (tu * tu % p) (hf / 2) ∧ (0 ≤ ro ∧ ro < p) ∧ (0 ≤ ov ∧ ov < p), ?_, ?_⟩
    · refine ⟨_, rfl, _, rfl, _, rfl, ov, _, p, rfl, by omega, by omega, pL, rfl, _, rfl, ?_⟩
      refine ite2 (fun c2 => ?_) (fun c2 => ?_)
      · have d : ¬ ov ^ hf % p = 1 % p := fun y => neT c2 (congrArg V.int (by rw [Int.toNat_natCast, Pw.PM_eq, y, one]))
        refine ⟨_, rfl, _, rfl, _, _, rfl, rfl, mulS (by omega) (by omega), _, rfl, _, _, rfl, rfl, (by show 0 < p; omega), ?_⟩
        refine ⟨_, rfl, _, rfl, _, _, rfl, rfl, mulS (by omega) (by omega), _, rfl, _, _, rfl, rfl, mulS (by omega) (by omega), _, rfl, _, _, rfl, rfl, (by show 0 < p; omega), ?_⟩
        exact ⟨_, _, rfl, rfl, T.turn pp h0 d, ⟨Int.emod_nonneg _ (by omega), Int.emod_lt_of_pos _ (by omega)⟩, ⟨Int.emod_nonneg _ (by omega), Int.emod_lt_of_pos _ (by omega)⟩⟩
      · have d : ov ^ hf % p = 1 % p := by
          have y := int_inj (neF c2)
          rw [Int.toNat_natCast, Pw.PM_eq] at y
          rw [y, one]
        exact ⟨ro, ov, rfl, rfl, T.keep h0 d, ror, ovr⟩
    · rintro _ _ ⟨ro, ov, rfl, rfl, T', ror', ovr'⟩
      refine ⟨_, rfl, _, rfl, _, _, rfl, rfl, mulS (by omega) (by omega), _, rfl, _, _, rfl, rfl, (by show 0 < p; omega), ?_⟩
      exact ⟨_, rfl, _, _, rfl, rfl, ⟨by decide, by decide⟩, ro, ov, rfl, rfl, T', ror', ovr'⟩
  · have h0 : hf = 0 := by
      have c1 : ¬ (0 : Int) < (hf : Int) := decF c
      omega
    subst h0
    exact ⟨_, rfl, q ro _ (g1.trans g2) ror.1 ror.2 (Int.emod_eq_emod_iff_emod_sub_eq_zero.mp T.done)⟩
theorem ok_root_by_prime {f : Addr} {fd : FuncData} (F : Fun K "root_by_prime" "root_by_prime" s_root_by_prime f fd) (T : Txt K mg t) (H_root_by_odd_prime : Has P w K mg base CX0 5 "root_by_odd_prime" ["number", "prime"] (spRootO)) : FnOk P w K mg base CX0 6 f fd ["number", "prime"] (spRootP) := by
  obtain ⟨f_root_by_odd_prime, d_root_by_odd_prime, G_root_by_odd_prime, b_root_by_odd_prime, k_root_by_odd_prime, m_root_by_odd_prime⟩ := H_root_by_odd_prime
  refine F.ok sc_root_by_prime (fun vs H Q E h => ?_) (fun cdv A outer s H vs Q E hr h => ?_)
  · obtain ⟨_, _, rfl, _⟩ := h
    rfl
  obtain ⟨x, p, rfl, hp, hx, q⟩ := h
  have hr_root_by_odd_prime := hr.mono (show 5 ≤ 5 by decide)
  obtain ⟨pp, pb, nr⟩ := q6 hp
  have ptwo := pp.two
  refine ⟨_, pss_cons (ps_if (PW.pt (pw_or (pt_cmpR op_eq (pv 1) pe_int (nomark _)) (pw_or1 (pt_cmpR op_eq (pe_op op_mod (pv 0) (pv 1)) pe_int (nomark _))))) (pss_one (ps_ret (pe_op op_mod (pv 0) (pv 1)))) pss_nil)
    (pss_one (ps_ret (pe_call G_root_by_odd_prime hr_root_by_odd_prime rfl m_root_by_odd_prime k_root_by_odd_prime b_root_by_odd_prime .nil pass0 (pa_cons (pv 0) (pa_cons (pv 1) pa_nil))))), ?_⟩
  have x0 := Int.emod_nonneg x (show p ≠ 0 by omega)
  have x1 := Int.emod_lt_of_pos x (show 0 < p by omega)
  refine ⟨_, rfl, rfl, _, rfl, ?_⟩
  refine ite2 (fun c => iteT ?_) (fun c => ⟨_, rfl, _, rfl, _, _, rfl, rfl, (by show 0 < p; omega), rfl, _, rfl, ?_⟩)
  · have e : p = 2 := int_inj (decT c)
    subst e
    refine ⟨_, rfl, _, rfl, _, _, rfl, rfl, (by show (0 : Int) < 2; decide), q _ H (Same.refl H) x0 x1 ?_⟩
    refine Int.emod_eq_emod_iff_emod_sub_eq_zero.mp ?_
    rcases (show x % 2 = 0 ∨ x % 2 = 1 by omega) with h | h <;> rw [h] <;> rfl
  · have e : p ≠ 2 := fun z => decF c (congrArg V.int z)
    refine ite2 (fun c2 => ?_) (fun c2 => ?_)
    · have e0 : x % p = 0 := int_inj (decT c2)
      refine ⟨_, rfl, _, rfl, _, _, rfl, rfl, (by show 0 < p; omega), q _ H (Same.refl H) x0 x1 ?_⟩
      rw [e0]
      exact Int.emod_eq_emod_iff_emod_sub_eq_zero.mp (by rw [e0]; exact Int.zero_emod p)
    · have e0 : x % p ≠ 0 := fun z => decF c2 (congrArg V.int z)
      have u := Jc.J_unit pp (l := x) (fun d => e0 (Int.emod_eq_zero_of_dvd d))
      have j1 : Jc.J x p = 1 := by
        rcases hx with z | z
        · exact absurd z e
        · rcases Jc.J_or x p with y | y | y
          · exact y
          · rw [y] at u; cases u
          · exact absurd y z
      exact ⟨_, rfl, _, rfl, x, p, rfl, hp, e, j1, fun w H1 g1 w0 w1 hw => q w H1 g1 w0 w1 hw⟩
theorem ok_root_or_prime {f : Addr} {fd : FuncData} (F : Fun K "root_or_prime" "root_or_prime" s_root_or_prime f fd) (T : Txt K mg t) (H_prime_parts : Has P w K mg base CX0 2 "prime_parts" ["number"] (spParts0)) (H_has_root : Has P w K mg base CX0 3 "has_root" ["number", "prime"] (spHas)) (H_joined_rests : Has P w K mg base CX0 3 "joined_rests" ["r", "n", "s", "m"] (spJoin)) (H_root_by_prime : Has P w K mg base CX0 6 "root_by_prime" ["number", "prime"] (spRootP)) : FnOk P w K mg base CX0 7 f fd ["number", "n"] (spRoot) := by
  obtain ⟨f_prime_parts, d_prime_parts, G_prime_parts, b_prime_parts, k_prime_parts, m_prime_parts⟩ := H_prime_parts
  obtain ⟨f_has_root, d_has_root, G_has_root, b_has_root, k_has_root, m_has_root⟩ := H_has_root
  obtain ⟨f_joined_rests, d_joined_rests, G_joined_rests, b_joined_rests, k_joined_rests, m_joined_rests⟩ := H_joined_rests
  obtain ⟨f_root_by_prime, d_root_by_prime, G_root_by_prime, b_root_by_prime, k_root_by_prime, m_root_by_prime⟩ := H_root_by_prime
  refine F.ok sc_root_or_prime (fun vs H Q E h => ?_) (fun cdv A outer s H vs Q E hr h => ?_)
  · obtain ⟨_, _, rfl, _⟩ := h
    rfl
  obtain ⟨x, n, rfl, n1, nb, sf, rt, q⟩ := h
  have hr_prime_parts := hr.mono (show 2 ≤ 6 by decide)
  have hr_has_root := hr.mono (show 3 ≤ 6 by decide)
  have hr_joined_rests := hr.mono (show 3 ≤ 6 by decide)
  have hr_root_by_prime := hr.mono (show 6 ≤ 6 by decide)
  refine ⟨_, pss_cons (ps_set (i := 2) sc_root_or_prime.nd rfl (Or.inl rfl) (pe_tup (pa_cons pe_int (pa_cons pe_int pa_nil))))
    (pss_cons (ps_for PassesOwn.never rfl (pi_list (pe_call G_prime_parts hr_prime_parts rfl m_prime_parts k_prime_parts b_prime_parts .nil pass0 (pa_cons (pv 1) pa_nil))) (pg_tup rfl (pgs_cons (pg_name (i := 3) sc_root_or_prime.nd rfl (Or.inl rfl)) (pgs_cons (pg_name (i := 4) sc_root_or_prime.nd rfl (Or.inl rfl)) pgs_nil))) (pss_cons (ps_if (pt_not (pt_val (pe_call G_has_root hr_has_root rfl m_has_root k_has_root b_has_root .nil pass0 (pa_cons (pv 0) (pa_cons (pv 3) pa_nil))) (fun _ => rfl))) (pss_one (ps_ret (pe_tup (pa_cons pe_str (pa_cons (pv 3) pa_nil))))) pss_nil)
    (pss_one (ps_set (i := 2) sc_root_or_prime.nd rfl (Or.inl rfl) (pe_call G_joined_rests hr_joined_rests rfl m_joined_rests k_joined_rests b_joined_rests .nil pass0 (pa_cons (pe_ix ix_tup (pv 2) pe_int (fun _ _ => rfl)) (pa_cons (pe_ix ix_tup (pv 2) pe_int (fun _ _ => rfl)) (pa_cons (pe_call G_root_by_prime hr_root_by_prime rfl m_root_by_prime k_root_by_prime b_root_by_prime .nil pass0 (pa_cons (pv 0) (pa_cons (pv 3) pa_nil))) (pa_cons (pv 3) pa_nil)))))))))
    (pss_one (ps_ret (pe_tup (pa_cons pe_str (pa_cons (pe_callB (call_min2 rfl) rfl T.z_min b_min (pa_cons (pe_ix ix_tup (pv 2) pe_int (fun _ _ => rfl)) (pa_cons (pe_op op_sub (pv 1) (pe_ix ix_tup (pv 2) pe_int (fun _ _ => rfl))) pa_nil))) pa_nil)))))), ?_⟩
  refine ⟨(by show 2 ≤ sizeLine; decide), fun j0 hj0 => ?_⟩
  have g0 := same_new hj0 (.tup [.int 0, .int 1])
  refine ⟨_, rfl, n, rfl, n1, by omega, fun pl rs xs H1 g1 np hl tl told => ?_⟩
  refine ⟨pl, rfl, ⟨_, SqL.of hl⟩, for_list (K := K) (a := pl) (xs := rs.map V.ref) (fun i σ H' => ∃ (j : Addr) (y : Int) (pr of : Option V), σ = [some (.int x), some (.int n), some (.ref j), pr, of] ∧ Same H1 H' ∧ H' j = some (.tup [.int y, .int (Pr.prodP (xs.take i))]) ∧ 0 ≤ y ∧ y < Pr.prodP (xs.take i) ∧ (y * y - x) % Pr.prodP (xs.take i) = 0)
    ⟨j0, 0, none, none, rfl, Same.refl H1, g1 _ _ upd_same, by decide, (by show (0 : Int) < 1; decide), (by show (0 * 0 - x) % 1 = 0; exact Int.emod_one _)⟩ (fun i σ H2 _ ⟨_, _, _, _, _, g, _⟩ => SqL.of (g _ _ hl)) ?_ ?_⟩
  · rintro i v σ H2 hi ⟨j, y, pr, of, rfl, g2, hj, y0, y1, hy⟩
    obtain ⟨r, hr', rfl⟩ : ∃ r, rs[i]? = some r ∧ v = .ref r := by
      rw [List.getElem?_map] at hi
      cases e : rs[i]? with
      | none => rw [e] at hi; cases hi
      | some r => rw [e] at hi; exact ⟨r, rfl, (Option.some.inj hi).symm⟩
    obtain ⟨⟨p, o⟩, hx, ht⟩ := tl.get hr'
    obtain ⟨o1, pin, pdn⟩ := once6 sf nb n1 told (List.mem_of_getElem? hx)
    have nd := Jc.ahead told hx
    have o1' : o = 1 := o1
    subst o1'
    obtain ⟨pp, pb, _⟩ := q6 pin
    have ptwo := pp.two
    have N1 := Pr.prodP_pos (xs := xs.take i) fun z hz => told.all z (List.mem_of_mem_take hz)
    have NB : Pr.prodP (xs.take i) ≤ n := by
      have e : Pr.prodP xs = Pr.prodP (xs.take i) * Pr.prodP (xs.drop i) := by rw [← Pr.prodP_app, List.take_append_drop]
      have d1 := Pr.prodP_pos (xs := xs.drop i) fun z hz => told.all z (List.mem_of_mem_drop hz)
      rw [told.prod] at e
      have := Pr.mul_ge d1 (Int.le_refl (Pr.prodP (xs.take i))) (by omega)
      omega
    refine ⟨r, _, rfl, SqT.of (g2 _ _ ht), rfl, _, _, rfl, _, _, rfl, rfl, ?_⟩
    refine ⟨_, rfl, _, rfl, x, p, rfl, pp, by omega, fun b H3 g3 hb => ⟨_, rfl, ?_⟩⟩
    cases b with
    | false =>
      have := hb.mpr (rt p pp pdn)
      cases this
    | true =>
      have hr2 := hb.mp rfl
      refine iteF ?_
      have hj3 := g3 _ _ hj
      refine ⟨_, rfl, j, _, _, _, rfl, rfl, SqT.of hj3, rfl, _, rfl, j, _, _, _, rfl, rfl, SqT.of hj3, rfl, _, rfl, _, rfl, x, p, rfl, pin, hr2, fun w H4 g4 w0 w1 hw => ?_⟩
      refine ⟨_, rfl, y, Pr.prodP (xs.take i), w, p, rfl, N1, by omega, pp, by omega, nd, by omega, by omega, fun t2 H5 y' g5 ht2 a0 a1 b1 b2 => ?_⟩
      have e : Pr.prodP (xs.take (i + 1)) = Pr.prodP (xs.take i) * p := by
        rw [take_more hx, Pr.prodP_app, Pr.prodP_one]
        show _ * p ^ 1 = _
        rw [Int.pow_succ, Int.pow_zero, Int.one_mul]
      refine ⟨t2, y', _, _, rfl, ((g2.trans g3).trans g4).trans g5, ?_, a0, ?_, ?_⟩
      · rw [e]; exact ht2
      · rw [e]; exact a1
      · rw [e]; exact Jc.sq_join pp nd (Jc.sq_fit b1 hy) (Jc.sq_fit b2 hw)
  · rintro σ H2 ⟨j, y, pr, of, rfl, g2, hj, y0, y1, hy⟩
    have e : xs.take (rs.map V.ref).length = xs := by rw [List.length_map, tl.len, List.take_length]
    rw [e, told.prod] at hj y1 hy
    have sm := Jc.small_root (by omega) y0 y1 hy
    have sm2 := sm (if n - y < y then n - y else y) (by split <;> split <;> omega)
    exact ⟨_, rfl, j, _, _, _, rfl, rfl, SqT.of hj, rfl, _, rfl, _, rfl, j, _, _, _, rfl, rfl, SqT.of hj, rfl, _, _, rfl, rfl, y, n - y, rfl, (by show 2 ≤ sizeLine; decide), fun t1 ht1 => q t1 _ _ (((g0.trans g1).trans g2).trans (same_new ht1 _)) upd_same sm2.1 sm2.2.1 sm2.2.2⟩
theorem ok_lowest_point {f : Addr} {fd : FuncData} (F : Fun K "lowest_point" "lowest_point" s_lowest_point f fd) (T : Txt K mg t) (H_shares_of : Has P w K mg base CX0 2 "shares_of" ["one", "other"] (spShares)) : FnOk P w K mg base CX0 3 f fd ["P"] (spLowest) := by
  obtain ⟨f_shares_of, d_shares_of, G_shares_of, b_shares_of, k_shares_of, m_shares_of⟩ := H_shares_of
  refine F.ok sc_lowest_point (fun vs H Q E h => ?_) (fun cdv A outer s H vs Q E hr h => ?_)
  · obtain ⟨_, _, _, _, rfl, _⟩ := h
    rfl
  obtain ⟨p, x, y, z, rfl, hp, hb, nzr, q⟩ := h
  have hr_shares_of := hr.mono (show 2 ≤ 2 by decide)
  refine ⟨_, pss_cons (ps_set (i := 1) sc_lowest_point.nd rfl (Or.inl rfl) (pe_ix ix_tup (pe_call G_shares_of hr_shares_of rfl m_shares_of k_shares_of b_shares_of .nil pass0 (pa_cons (pe_ix ix_tup (pe_call G_shares_of hr_shares_of rfl m_shares_of k_shares_of b_shares_of .nil pass0 (pa_cons (pe_ix ix_tup (pv 0) pe_int (fun _ _ => rfl)) (pa_cons (pe_ix ix_tup (pv 0) pe_int (fun _ _ => rfl)) pa_nil))) pe_int (fun _ _ => rfl)) (pa_cons (pe_ix ix_tup (pv 0) pe_int (fun _ _ => rfl)) pa_nil))) pe_int (fun _ _ => rfl)))
    (pss_cut (ps_if (pt_cmpR op_lt (pe_ix ix_list (pe_compIfC rfl (CompScope.plain rfl (by decide +kernel) (by decide +kernel) rfl) (pi_tup (pv 0)) (fun C s0 H0 fp pins => pt_cmpR op_ne (pv 0) pe_int (nomark _)) (fun C s0 H0 fp pins => pv 0)) pe_int (fun _ _ => rfl)) pe_int (nomark _)) (pss_one (ps_set (i := 1) sc_lowest_point.nd rfl (Or.inl rfl) (pe_un un_neg (pv 1)))) pss_nil)
    (pss_one (ps_ret (pe_tup (pa_cons (pe_op op_fdivL (pe_ix ix_tup (pv 0) pe_int (fun _ _ => rfl)) (pv 1)) (pa_cons (pe_op op_fdivL (pe_ix ix_tup (pv 0) pe_int (fun _ _ => rfl)) (pv 1)) (pa_cons (pe_op op_fdivL (pe_ix ix_tup (pv 0) pe_int (fun _ _ => rfl)) (pv 1)) pa_nil))))))), ?_⟩
  obtain ⟨bx, by', bz⟩ := in3_abs hb
  unfold Sq3 at hp
  refine ⟨_, rfl, p, _, _, _, rfl, rfl, SqT.of hp, rfl, _, rfl, p, _, _, _, rfl, rfl, SqT.of hp, rfl, x, y, rfl, bx, by', fun p1 H1 g s' t' g1 h1 g0 eg ⟨k1, e1⟩ ⟨k2, e2⟩ _ _ => ?_⟩
  have bg := gcd_le bx by' eg e1 e2
  refine ⟨p1, _, _, _, rfl, rfl, SqT.of h1, rfl, _, rfl, p, _, _, _, rfl, rfl, SqT.of (g1 _ _ hp), rfl, g, z, rfl, bg, bz, fun p2 H2 d s2 t2 g2 h2 d0 ed ⟨k3, e3⟩ ⟨k4, e4⟩ _ _ => ?_⟩
  refine ⟨p2, _, _, _, rfl, rfl, SqT.of h2, rfl, ?_⟩
  have bd := gcd_le bg bz ed e3 e4
  have dn : d ≠ 0 := by
    intro zz
    subst zz
    rw [Int.mul_zero] at e3 e4
    subst e3
    rw [Int.mul_zero] at e1 e2
    unfold NZ at nzr
    omega
  have dx : d ∣ x := ⟨k1 * k3, by rw [e1, e3]; grind⟩
  have dy : d ∣ y := ⟨k2 * k3, by rw [e2, e3]; grind⟩
  have dz : d ∣ z := ⟨k4, by rw [Int.mul_comm]; exact e4⟩
  have bez : s2 * s' * x + s2 * t' * y + t2 * z = d := by rw [ed, eg]; grind
  have g12 := g1.trans g2
  have hp2 := g12 _ _ hp
  refine ⟨fun σ' H' => ∃ e : Int, σ' = [some (.ref p), some (.int e)] ∧ Same H H' ∧ ((e = d ∧ 0 < fst3 x y z) ∨ (e = -d ∧ fst3 x y z < 0)), ?_, ?_⟩
  · refine ⟨_, rfl, p, rfl, ⟨_, SqT.of hp2⟩, compIf_tupF (xs := [.int x, .int y, .int z]) (by show 3 < sizeLine; decide) nz id (fun H' g => SqT.of (g _ _ hp2)) ?_ ?_ ?_⟩
    · intro i v H' Q' hv g k
      obtain ⟨n, rfl, _⟩ := get3 hv
      exact ⟨_, rfl, rfl, _, rfl, k _ (Same.refl _)⟩
    · intro i v H' Q' hv e g k
      exact ⟨_, rfl, k _ (Same.refl _)⟩
    · intro l H' g h0 hl
      have fz := fst_nz nzr
      refine ⟨l, _, _, _, rfl, rfl, SqL.of hl, fst_ok nzr, _, _, rfl, rfl, _, rfl, ite2 (fun c => ?_) (fun c => ?_)⟩
      · have c' := decT c
        exact ⟨_, rfl, _, rfl, -d, rfl, g12.trans g, .inr ⟨rfl, c'⟩⟩
      · have c' := decF c
        exact ⟨d, rfl, g12.trans g, .inl ⟨rfl, by omega⟩⟩
  · rintro _ H3 ⟨e, rfl, g3, he⟩
    have hp3 := g3 _ _ hp
    have en : e ≠ 0 := by omega
    have be : e.natAbs ≤ Lm := by omega
    have ex : e ∣ x := by
      rcases he with ⟨z, _⟩ | ⟨z, _⟩ <;> rw [z]
      · exact dx
      · exact Int.neg_dvd.mpr dx
    have ey : e ∣ y := by
      rcases he with ⟨z, _⟩ | ⟨z, _⟩ <;> rw [z]
      · exact dy
      · exact Int.neg_dvd.mpr dy
    have ez : e ∣ z := by
      rcases he with ⟨z, _⟩ | ⟨z, _⟩ <;> rw [z]
      · exact dz
      · exact Int.neg_dvd.mpr dz
    have eb : ∃ u v w : Int, u * x + v * y + w * z = e := by
      rcases he with ⟨zz, _⟩ | ⟨zz, _⟩
      · exact ⟨_, _, _, bez.trans zz.symm⟩
      · exact ⟨-(s2 * s'), -(s2 * t'), -t2, by rw [zz, ← bez]; grind⟩
    obtain ⟨o, qx, qy, qz⟩ := low_ok en ex ey ez eb
    refine ⟨_, rfl, p, _, _, _, rfl, rfl, SqT.of hp3, rfl, _, rfl, _, _, rfl, rfl, ⟨en, Lm_log (by omega)⟩, _, rfl, p, _, _, _, rfl, rfl, SqT.of hp3, rfl, _, rfl, _, _, rfl, rfl, ⟨en, Lm_log (by omega)⟩,
      _, rfl, p, _, _, _, rfl, rfl, SqT.of hp3, rfl, _, rfl, _, _, rfl, rfl, ⟨en, Lm_log (by omega)⟩, (by show 3 ≤ sizeLine; decide), fun r nr => ?_⟩
    refine q r _ _ _ _ e (g3.trans (same_new nr _)) upd_same o (pos_of en qx qy qz nzr ?_) en qx qy qz
    rcases he with ⟨zz, w⟩ | ⟨zz, w⟩
    · exact .inl ⟨by omega, w⟩
    · exact .inr ⟨by omega, w⟩
theorem ok_point_of_last {f : Addr} {fd : FuncData} (F : Fun K "point_of_last" "point_of_last" s_point_of_last f fd) (T : Txt K mg t)  : FnOk P w K mg base CX0 1 f fd ["a", "b"] (spLastP) := by
  refine F.ok sc_point_of_last (fun vs H Q E h => ?_) (fun cdv A outer s H vs Q E hr h => ?_)
  · obtain ⟨_, _, rfl, _⟩ := h
    rfl
  obtain ⟨a, b, rfl, la, q⟩ := h
  refine ⟨_, pss_cons (ps_if (pt_cmpR op_eq (pv 0) pe_int (nomark _)) (pss_one (ps_ret (pe_tup (pa_cons pe_int (pa_cons pe_int (pa_cons pe_int pa_nil)))))) pss_nil)
    (pss_cons (ps_if (pt_cmpR op_eq (pv 1) pe_int (nomark _)) (pss_one (ps_ret (pe_tup (pa_cons pe_int (pa_cons pe_int (pa_cons pe_int pa_nil)))))) pss_nil)
    (pss_one (ps_ret (pe_tup (pa_cons pe_int (pa_cons pe_int (pa_cons pe_int pa_nil))))))), ?_⟩
  refine ⟨_, rfl, rfl, _, rfl, ite2 (fun c => ?_) (fun c => ?_)⟩
  · have e : a = 1 := int_inj (decT c)
    subst e
    exact ⟨(by show 3 ≤ sizeLine; decide), fun p hp => q p 1 1 0 _ (same_new hp _) upd_same .one ⟨by decide, by decide, by decide⟩⟩
  · have e1 : a ≠ 1 := fun z => decF c (congrArg V.int z)
    refine ⟨_, rfl, rfl, _, rfl, ite2 (fun c => ?_) (fun c => ?_)⟩
    · have e : b = 1 := int_inj (decT c)
      subst e
      exact ⟨(by show 3 ≤ sizeLine; decide), fun p hp => q p 1 0 1 _ (same_new hp _) upd_same (.two e1) ⟨by decide, by decide, by decide⟩⟩
    · have e2 : b ≠ 1 := fun z => decF c (congrArg V.int z)
      exact ⟨(by show 3 ≤ sizeLine; decide), fun p hp => q p 0 1 1 _ (same_new hp _) upd_same (.neg e1 e2 (by unfold Last at la; omega)) ⟨by decide, by decide, by decide⟩⟩
theorem ok_turn {f : Addr} {fd : FuncData} (F : Fun K "turn" "turn" s_turn f fd) (T : Txt K mg t)  : FnOk P w K mg base CX0 1 f fd [] (spTurn) := by
  refine F.ok sc_turn (fun vs H Q E h => ?_) (fun cdv A outer s H vs Q E hr h => ?_)
  · obtain ⟨rfl, _⟩ := h
    rfl
  obtain ⟨rfl, q⟩ := h
  refine ⟨_, pss_one (ps_ret (pe_callTy call_tuple_of rfl T.z_tuple b_tuple (pa_cons (pe_lst (pa_cons pe_str pa_nil)) pa_nil))), ?_⟩
  refine ⟨(by show 1 ≤ sizeLine; decide), fun l hl => ⟨l, _, rfl, .inl ⟨SqL.of upd_same, fun r hr => ?_⟩⟩⟩
  exact q r _ ((same_new hl _).trans (same_new hr _)) upd_same
theorem ok_point_of_turned {f : Addr} {fd : FuncData} (F : Fun K "point_of_turned" "point_of_turned" s_point_of_turned f fd) (T : Txt K mg t)  : FnOk P w K mg base CX0 1 f fd ["point"] (spTurned) := by
  refine F.ok sc_point_of_turned (fun vs H Q E h => ?_) (fun cdv A outer s H vs Q E hr h => ?_)
  · obtain ⟨_, _, _, _, rfl, _⟩ := h
    rfl
  obtain ⟨p, x, y, z, rfl, hp, q⟩ := h
  unfold Sq3 at hp
  refine ⟨_, pss_one (ps_ret (pe_tup (pa_cons (pe_ix ix_tup (pv 0) pe_int (fun _ _ => rfl)) (pa_cons (pe_ix ix_tup (pv 0) pe_int (fun _ _ => rfl)) (pa_cons (pe_ix ix_tup (pv 0) pe_int (fun _ _ => rfl)) pa_nil))))), ?_⟩
  exact ⟨_, rfl, p, _, _, _, rfl, rfl, SqT.of hp, rfl, _, rfl, p, _, _, _, rfl, rfl, SqT.of hp, rfl, _, rfl, p, _, _, _, rfl, rfl, SqT.of hp, rfl, (by show 3 ≤ sizeLine; decide), fun z nz => q z _ (same_new nz _) upd_same⟩
theorem ok_step_down {f : Addr} {fd : FuncData} (F : Fun K "step_down" "step_down" s_step_down f fd) (T : Txt K mg t) (H_root_or_prime : Has P w K mg base CX0 7 "root_or_prime" ["number", "n"] (spRoot)) (H_core_of : Has P w K mg base CX0 3 "core_of" ["number"] (spCore0)) : FnOk P w K mg base CX0 8 f fd ["a", "b"] (spStep) := by
  obtain ⟨f_root_or_prime, d_root_or_prime, G_root_or_prime, b_root_or_prime, k_root_or_prime, m_root_or_prime⟩ := H_root_or_prime
  obtain ⟨f_core_of, d_core_of, G_core_of, b_core_of, k_core_of, m_core_of⟩ := H_core_of
  refine F.ok sc_step_down (fun vs H Q E h => ?_) (fun cdv A outer s H vs Q E hr h => ?_)
  · obtain ⟨_, _, rfl, _⟩ := h
    rfl
  obtain ⟨a, b, rfl, sa, sb, g, a6, b6, nl, ab, q⟩ := h
  have hr_root_or_prime := hr.mono (show 7 ≤ 7 by decide)
  have hr_core_of := hr.mono (show 3 ≤ 7 by decide)
  have a1 : a ≠ 1 := fun z => nl (.inl z)
  have b0 := sb.n0
  have b2 : 2 ≤ b.natAbs := by
    by_cases c : 2 ≤ b.natAbs
    · exact c
    · have e1 : b = -1 := by
        have : b ≠ 1 := fun z => nl (.inr (.inl z))
        omega
      have e2 : a = -1 := by
        have := sa.n0
        omega
      have i := g.i
      rw [e1, e2] at i
      cases i
  have ab1 : (b.natAbs : Int) = absI b := by
    unfold absI
    split <;> omega
  have sf : Jc.Sf (absI b) := ⟨by omega, fun p hp h => sb.sq p hp (abs_dvd.mp h)⟩
  refine ⟨_, pss_cons (ps_set (i := 2) sc_step_down.nd rfl (Or.inl rfl) (pe_ix ix_tup (pe_call G_root_or_prime hr_root_or_prime rfl m_root_or_prime k_root_or_prime b_root_or_prime .nil pass0 (pa_cons (pv 0) (pa_cons (pe_callB call_abs rfl T.z_abs b_abs (pa_cons (pv 1) pa_nil)) pa_nil))) pe_int (fun _ _ => rfl)))
    (pss_cons (ps_set (i := 3) sc_step_down.nd rfl (Or.inl rfl) (pe_call G_core_of hr_core_of rfl m_core_of k_core_of b_core_of .nil pass0 (pa_cons (pe_op op_fdivL (pe_op op_sub (pe_op op_mulG (pv 2) (pv 2)) (pv 0)) (pv 1)) pa_nil)))
    (pss_one (ps_ret (pe_tup (pa_cons pe_str (pa_cons (pv 2) (pa_cons (pe_ix ix_tup (pv 3) pe_int (fun _ _ => rfl)) (pa_cons (pe_ix ix_tup (pv 3) pe_int (fun _ _ => rfl)) pa_nil)))))))), ?_⟩
  refine ⟨_, rfl, _, rfl, b, rfl, a, absI b, rfl, by omega, by omega, sf, fun p hp hd => g.root sb hp (abs_dvd.mp hd), fun t w H1 g1 ht w0 w1 hw => ?_⟩
  refine ⟨t, _, _, _, rfl, rfl, SqT.of ht, rfl, ?_⟩
  have w5 : w.natAbs ≤ 500000 := by omega
  obtain ⟨k, ek⟩ : b ∣ w * w - a := abs_dvd' (Int.dvd_of_emod_eq_zero hw)
  have fd : (w * w - a).fdiv b = k := by rw [ek]; exact Int.mul_fdiv_cancel_left k b0
  have wa := Jc.no_root (w := w) sa a1
  have k0 : k ≠ 0 := fun z => wa (by rw [ek, z, Int.mul_zero])
  have sk := Jc.small_c (c := k) (u := 1) ab b2 w0 (by omega) (by decide) (by rw [ek]; omega)
  have k10 : k.natAbs ≤ 1000000 := by
    have := sk.2
    have e1 : (1 : Int).natAbs = 1 := rfl
    rw [e1, Nat.mul_one] at this
    omega
  refine ⟨_, rfl, _, rfl, _, _, rfl, rfl, small_mul (by omega), _, rfl, _, _, rfl, rfl, _, rfl, _, _, rfl, rfl, ⟨b0, Nat.lt_of_lt_of_le (log2_lt_of (k := 64) (by omega) (by decide)) (by decide)⟩, k, (by show [V.int ((w * w - a).fdiv b)] = [V.int k]; rw [fd]), k0, by omega, by omega, fun p xs H2 g2 told hp => ?_⟩
  have cr := Pr.core_root told.all
  rw [told.prod] at cr
  have cu : (sgn k * Pr.coreP xs) * (Pr.rootP xs * Pr.rootP xs) = k := by
    have := abs_sgn k
    rw [← cr] at this
    rw [← this]
    grind
  have sgk : sgn k = 1 ∨ sgn k = -1 := by
    unfold sgn
    split <;> simp
  have u1 := Pr.rootP_pos told.all
  have sc : Jc.Sf (sgn k * Pr.coreP xs) := by
    refine ⟨fun z => k0 (by rw [← cu, z, Int.zero_mul]), fun q hq h => Pr.core_no_sq hq told.all told.rise ?_⟩
    rcases sgk with e | e
    · rw [e, Int.one_mul] at h
      exact h
    · rw [e, Int.neg_mul, Int.one_mul, Int.dvd_neg] at h
      exact h
  generalize sgn k * Pr.coreP xs = c at hp cu sc
  generalize Pr.rootP xs = u at hp cu u1
  have e : w * w - a = b * c * (u * u) := by rw [ek, ← cu, Int.mul_assoc]
  have sm := Jc.small_c ab b2 w0 (by omega) u1 e
  refine ⟨_, rfl, _, rfl, p, _, _, _, rfl, rfl, SqT.of hp, rfl, _, rfl, p, _, _, _, rfl, rfl, SqT.of hp, rfl, (by show 4 ≤ sizeLine; decide), fun r hr => ?_⟩
  exact q r w c u _ (g1.trans (g2.trans (same_new hr _))) upd_same e u1 sc sm.1 sm.2 w5 (g.down sa sc.n0 (by omega) e)
theorem ok_point_of_lower {f : Addr} {fd : FuncData} (F : Fun K "point_of_lower" "point_of_lower" s_point_of_lower f fd) (T : Txt K mg t)  : FnOk P w K mg base CX0 1 f fd ["a", "step", "point"] (spLower) := by
  refine F.ok sc_point_of_lower (fun vs H Q E h => ?_) (fun cdv A outer s H vs Q E hr h => ?_)
  · obtain ⟨_, _, _, _, _, _, _, _, _, rfl, _⟩ := h
    rfl
  obtain ⟨a, r, p, w, c, u, x, y, z, rfl, hr1, hp, a6, w6, c6, u6, cu6, q⟩ := h
  unfold Sq3 at hp
  have cu : (c * u).natAbs ≤ 1000000 := by rw [Int.natAbs_mul]; exact cu6
  refine ⟨_, pss_cons (ps_set (i := 3) sc_point_of_lower.nd rfl (Or.inl rfl) (pe_ix ix_tup (pv 1) pe_int (fun _ _ => rfl)))
    (pss_one (ps_ret (pe_tup (pa_cons (pe_op op_add (pe_op op_mulG (pv 3) (pe_ix ix_tup (pv 2) pe_int (fun _ _ => rfl))) (pe_op op_mulG (pv 0) (pe_ix ix_tup (pv 2) pe_int (fun _ _ => rfl)))) (pa_cons (pe_op op_add (pe_ix ix_tup (pv 2) pe_int (fun _ _ => rfl)) (pe_op op_mulG (pv 3) (pe_ix ix_tup (pv 2) pe_int (fun _ _ => rfl)))) (pa_cons (pe_op op_mulG (pe_op op_mulG (pe_ix ix_tup (pv 1) pe_int (fun _ _ => rfl)) (pe_ix ix_tup (pv 1) pe_int (fun _ _ => rfl))) (pe_ix ix_tup (pv 2) pe_int (fun _ _ => rfl))) pa_nil)))))), ?_⟩
  refine ⟨_, rfl, r, _, _, _, rfl, rfl, SqT.of hr1, rfl, ?_⟩
  exact ⟨_, rfl, _, rfl, p, _, _, _, rfl, rfl, SqT.of hp, rfl, _, _, rfl, rfl, small_mul w6, _, rfl, _, rfl, p, _, _, _, rfl, rfl, SqT.of hp, rfl, _, _, rfl, rfl, small_mul a6, _, _, rfl, rfl, _, rfl, p, _, _, _, rfl, rfl, SqT.of hp, rfl, _, rfl, _, rfl, p, _, _, _, rfl, rfl, SqT.of hp, rfl, _, _, rfl, rfl, small_mul w6, _, _, rfl, rfl, _, rfl, r, _, _, _, rfl, rfl, SqT.of hr1, rfl, _, rfl, r, _, _, _, rfl, rfl, SqT.of hr1, rfl, _, _, rfl, rfl, small_mul c6, _, rfl, p, _, _, _, rfl, rfl, SqT.of hp, rfl, _, _, rfl, rfl, small_mul cu, (by show 3 ≤ sizeLine; decide), fun z nz => q z _ (same_new nz _) upd_same⟩
theorem ok_walked_down {f : Addr} {fd : FuncData} (F : Fun K "walked_down" "walked_down" s_walked_down f fd) (T : Txt K mg t) (H_point_of_last : Has P w K mg base CX0 1 "point_of_last" ["a", "b"] (spLastP)) (H_turn : Has P w K mg base CX0 1 "turn" [] (spTurn)) (H_point_of_turned : Has P w K mg base CX0 1 "point_of_turned" ["point"] (spTurned)) (H_step_down : Has P w K mg base CX0 8 "step_down" ["a", "b"] (spStep)) (H_point_of_lower : Has P w K mg base CX0 1 "point_of_lower" ["a", "step", "point"] (spLower)) (n : Nat) (H_walked_down : Has P w K mg base CX0 (8 + n) "walked_down" ["a", "b"] (spWalk n)) : FnOk P w K mg base CX0 (8 + n + 1) f fd ["a", "b"] (spWalk (n + 1)) := by
  obtain ⟨f_point_of_last, d_point_of_last, G_point_of_last, b_point_of_last, k_point_of_last, m_point_of_last⟩ := H_point_of_last
  obtain ⟨f_turn, d_turn, G_turn, b_turn, k_turn, m_turn⟩ := H_turn
  obtain ⟨f_point_of_turned, d_point_of_turned, G_point_of_turned, b_point_of_turned, k_point_of_turned, m_point_of_turned⟩ := H_point_of_turned
  obtain ⟨f_step_down, d_step_down, G_step_down, b_step_down, k_step_down, m_step_down⟩ := H_step_down
  obtain ⟨f_point_of_lower, d_point_of_lower, G_point_of_lower, b_point_of_lower, k_point_of_lower, m_point_of_lower⟩ := H_point_of_lower
  obtain ⟨f_walked_down, d_walked_down, G_walked_down, b_walked_down, k_walked_down, m_walked_down⟩ := H_walked_down
  refine F.ok sc_walked_down (fun vs H Q E h => ?_) (fun cdv A outer s H vs Q E hr h => ?_)
  · obtain ⟨_, _, rfl, _⟩ := h
    rfl
  obtain ⟨a, b, rfl, sa, sb, g, a6, b6, lt, q⟩ := h
  have hr_point_of_last := hr.mono (show 1 ≤ 8 + n by omega)
  have hr_turn := hr.mono (show 1 ≤ 8 + n by omega)
  have hr_point_of_turned := hr.mono (show 1 ≤ 8 + n by omega)
  have hr_step_down := hr.mono (show 8 ≤ 8 + n by omega)
  have hr_point_of_lower := hr.mono (show 1 ≤ 8 + n by omega)
  have hr_walked_down := hr
  have fa : ∀ x : Int, (if x < 0 then -x else x) = (x.natAbs : Int) := fun x => by split <;> omega
  refine ⟨_, pss_cons (ps_if (PW.pt (pw_or (pt_cmpR op_eq (pv 0) pe_int (nomark _)) (pw_or (pt_cmpR op_eq (pv 1) pe_int (nomark _)) (pw_or1 (pt_cmpR op_eq (pe_op op_add (pv 0) (pv 1)) pe_int (nomark _)))))) (pss_one (ps_ret (pe_tup (pa_cons (pe_call G_point_of_last hr_point_of_last rfl m_point_of_last k_point_of_last b_point_of_last .nil pass0 (pa_cons (pv 0) (pa_cons (pv 1) pa_nil))) (pa_cons (pe_lst pa_nil) pa_nil))))) pss_nil)
    (pss_cons (ps_if (pt_cmpR op_gt (pe_callB call_abs rfl T.z_abs b_abs (pa_cons (pv 0) pa_nil)) (pe_callB call_abs rfl T.z_abs b_abs (pa_cons (pv 1) pa_nil)) (nomark _)) (pss_cons (ps_set (i := 3) sc_walked_down.nd rfl (Or.inl rfl) (pe_call G_walked_down hr_walked_down rfl m_walked_down k_walked_down b_walked_down .nil pass0 (pa_cons (pv 1) (pa_cons (pv 0) pa_nil))))
    (pss_one (ps_ret (pe_tup (pa_cons (pe_call G_point_of_turned hr_point_of_turned rfl m_point_of_turned k_point_of_turned b_point_of_turned .nil pass0 (pa_cons (pe_ix ix_tup (pv 3) pe_int (fun _ _ => rfl)) pa_nil)) (pa_cons (pe_op op_cat (pe_lst (pa_cons (pe_call0 G_turn hr_turn rfl m_turn k_turn b_turn .nil pass0) pa_nil)) (pe_ix ix_tup (pv 3) pe_int (fun _ _ => rfl))) pa_nil)))))) pss_nil)
    (pss_cons (ps_set (i := 2) sc_walked_down.nd rfl (Or.inl rfl) (pe_call G_step_down hr_step_down rfl m_step_down k_step_down b_step_down .nil pass0 (pa_cons (pv 0) (pa_cons (pv 1) pa_nil))))
    (pss_cons (ps_set (i := 3) sc_walked_down.nd rfl (Or.inl rfl) (pe_call G_walked_down hr_walked_down rfl m_walked_down k_walked_down b_walked_down .nil pass0 (pa_cons (pv 0) (pa_cons (pe_ix ix_tup (pv 2) pe_int (fun _ _ => rfl)) pa_nil))))
    (pss_one (ps_ret (pe_tup (pa_cons (pe_call G_point_of_lower hr_point_of_lower rfl m_point_of_lower k_point_of_lower b_point_of_lower .nil pass0 (pa_cons (pv 0) (pa_cons (pv 2) (pa_cons (pe_ix ix_tup (pv 3) pe_int (fun _ _ => rfl)) pa_nil)))) (pa_cons (pe_op op_cat (pe_lst (pa_cons (pv 2) pa_nil)) (pe_ix ix_tup (pv 3) pe_int (fun _ _ => rfl))) pa_nil)))))))), ?_⟩
  refine ⟨_, rfl, rfl, _, rfl, ite2 (fun c => iteT ?_) (fun c => ⟨_, rfl, rfl, _, rfl, ite2 (fun c2 => iteT ?_) (fun c2 => ⟨_, rfl, _, rfl, _, _, rfl, rfl, rfl, _, rfl, ite2 (fun c3 => ?_) (fun c3 => ?_)⟩)⟩)⟩
  · exact ⟨_, rfl, _, rfl, a, b, rfl, (.inl (int_inj (decT c))), fun p x y z H1 g1 hp ch sm => ⟨(by show 0 ≤ sizeLine; decide), fun s hs => ⟨(by show 2 ≤ sizeLine; decide), fun t ht => q t p s x y z [] [] _ (g1.trans ((same_new hs _).trans (same_new ht _))) (g1.free hs) upd_same ((same_new ht _) _ _ ((same_new hs _) _ _ hp)) ((same_new ht _) _ _ upd_same) .nil (Nat.zero_le _) ch ⟨Nat.le_trans sm.x (bd2_pos a b), Nat.le_trans sm.y (bd2_pos a b), Nat.le_trans sm.z (bd2_pos a b)⟩⟩⟩⟩
  · exact ⟨_, rfl, _, rfl, a, b, rfl, (.inr (.inl (int_inj (decT c2)))), fun p x y z H1 g1 hp ch sm => ⟨(by show 0 ≤ sizeLine; decide), fun s hs => ⟨(by show 2 ≤ sizeLine; decide), fun t ht => q t p s x y z [] [] _ (g1.trans ((same_new hs _).trans (same_new ht _))) (g1.free hs) upd_same ((same_new ht _) _ _ ((same_new hs _) _ _ hp)) ((same_new ht _) _ _ upd_same) .nil (Nat.zero_le _) ch ⟨Nat.le_trans sm.x (bd2_pos a b), Nat.le_trans sm.y (bd2_pos a b), Nat.le_trans sm.z (bd2_pos a b)⟩⟩⟩⟩
  · exact ⟨_, rfl, _, rfl, a, b, rfl, (.inr (.inr (int_inj (decT c3)))), fun p x y z H1 g1 hp ch sm => ⟨(by show 0 ≤ sizeLine; decide), fun s hs => ⟨(by show 2 ≤ sizeLine; decide), fun t ht => q t p s x y z [] [] _ (g1.trans ((same_new hs _).trans (same_new ht _))) (g1.free hs) upd_same ((same_new ht _) _ _ ((same_new hs _) _ _ hp)) ((same_new ht _) _ _ upd_same) .nil (Nat.zero_le _) ch ⟨Nat.le_trans sm.x (bd2_pos a b), Nat.le_trans sm.y (bd2_pos a b), Nat.le_trans sm.z (bd2_pos a b)⟩⟩⟩⟩
  have nl : ¬ Last a b := by
    rintro (z | z | z)
    · exact decF c (congrArg V.int z)
    · exact decF c2 (congrArg V.int z)
    · exact decF c3 (congrArg V.int z)
  refine ⟨_, rfl, a, rfl, _, rfl, b, rfl, _, _, rfl, rfl, _, rfl, ite2 (fun c4 => ?_) (fun c4 => ?_)⟩
  · have c5 : (if a < 0 then -a else a) > (if b < 0 then -b else b) := decT c4
    rw [fa, fa] at c5
    have ab : b.natAbs < a.natAbs := by omega
    have mt := ms_turn ab
    refine ⟨_, rfl, _, rfl, b, a, rfl, sb, sa, g.sym, b6, a6, by omega, fun t p s x y z us ss H1 g1 fs ht hp hs sat ln ch sm => ?_⟩
    refine ⟨_, rfl, t, _, _, _, rfl, rfl, SqT.of ht, rfl, p, x, y, z, rfl, hp, fun r H2 g2 hr2 => ?_⟩
    refine ⟨rfl, fun v H3 g3 hv => ⟨(by show 1 ≤ sizeLine; decide), fun l hl => ?_⟩⟩
    have g4 := same_new hl (.lst [.ref v])
    have g24 := g2.trans (g3.trans g4)
    have l1 := sat.len
    have m78 := ms_le sb.n0 sa.n0 b6 a6
    refine ⟨_, rfl, t, _, _, _, rfl, rfl, SqT.of (g24 _ _ ht), rfl, l, s, _, _, rfl, rfl, upd_same, g24 _ _ hs, Nat.le_trans (by show 1 + us.length ≤ 100; omega) (by decide), fun l2 hl2 => ⟨(by show 2 ≤ sizeLine; decide), fun t2 ht2 => ?_⟩⟩
    have g5 := same_new hl2 (.lst ([.ref v] ++ us))
    have g6 := same_new ht2 (.tup [.ref r, .ref l2])
    have g56 := g5.trans g6
    refine q t2 r l2 x z y (.ref v :: us) (.turn :: ss) _ (g1.trans (g24.trans g56)) (g1.free (g24.free hl2)) upd_same (g56 _ _ (g4 _ _ (g3 _ _ hr2))) (g6 _ _ upd_same) (.turn (g56 _ _ (g4 _ _ hv)) (sat.mono (g24.trans g56))) (by show ss.length + 1 ≤ _; omega) (.turn nl ch) ?_
    rw [bd2_sym]
    exact ⟨sm.x, sm.z, sm.y⟩
  · have c5 : ¬ (if a < 0 then -a else a) > (if b < 0 then -b else b) := decF c4
    rw [fa, fa] at c5
    have ab : a.natAbs ≤ b.natAbs := by omega
    refine ⟨_, rfl, _, rfl, a, b, rfl, sa, sb, g, a6, b6, nl, ab, fun r w c u H1 g1 hr1 e u1 sc c2 cu w5 gc => ?_⟩
    have md := ms_down (a := a) sc.n0 sb.n0 c2
    have cuu : c.natAbs * u.natAbs ≤ 1000000 := by omega
    have c6 : c.natAbs ≤ 1000000 := by omega
    have u6 : u.natAbs ≤ 1000000 := by
      have := Nat.le_mul_of_pos_left u.natAbs (show 0 < c.natAbs by have := sc.n0; omega)
      omega
    refine ⟨_, rfl, _, rfl, r, _, _, _, rfl, rfl, SqT.of hr1, rfl, a, c, rfl, sa, sc, gc, a6, c6, by omega, fun t p s x y z us ss H2 g2 fs ht hp hs sat ln ch sm => ?_⟩
    refine ⟨_, rfl, _, rfl, _, rfl, t, _, _, _, rfl, rfl, SqT.of ht, rfl, a, r, p, w, c, u, x, y, z, rfl, g2 _ _ hr1, hp, a6, by omega, c6, u6, cuu, fun o H3 g3 ho => ?_⟩
    refine ⟨_, rfl, (by show 1 ≤ sizeLine; decide), fun l hl => ?_⟩
    have g4 := same_new hl (.lst [.ref r])
    have g34 := g3.trans g4
    have l1 := sat.len
    have m78 := ms_le sa.n0 sc.n0 a6 c6
    refine ⟨_, rfl, t, _, _, _, rfl, rfl, SqT.of (g34 _ _ ht), rfl, l, s, _, _, rfl, rfl, upd_same, g34 _ _ hs, Nat.le_trans (by show 1 + us.length ≤ 100; omega) (by decide), fun l2 hl2 => ⟨(by show 2 ≤ sizeLine; decide), fun t2 ht2 => ?_⟩⟩
    have g5 := same_new hl2 (.lst ([.ref r] ++ us))
    have g6 := same_new ht2 (.tup [.ref o, .ref l2])
    have g56 := g5.trans g6
    have lb := lin_bd w5 a6 sm.x sm.y
    have b21 := bd2_down (a := a) sc.n0 sb.n0 c2
    refine q t2 o l2 (w * x + a * y) (x + w * y) (c * u * z) (.ref r :: us) (.down w c u :: ss) _ (g1.trans (g2.trans (g34.trans g56))) (g1.free (g2.free (g34.free hl2))) upd_same (g56 _ _ (g4 _ _ ho)) (g6 _ _ upd_same) (.down ((g2.trans (g34.trans g56)) _ _ hr1) (sat.mono (g34.trans g56))) (by show ss.length + 1 ≤ _; omega) (.down nl e u1 sc c2 cu w5 ch) ⟨Nat.le_trans lb.1 b21, Nat.le_trans lb.2 b21, ?_⟩
    refine Nat.le_trans ?_ b21
    rw [Int.natAbs_mul, Int.natAbs_mul]
    exact Nat.mul_le_mul (by omega) sm.z
theorem ok_churn {f : Addr} {fd : FuncData} (F : Fun K "_law_churn" "_law_churn" s_churn f fd) (T : Txt K mg t)  : FnOk P w K mg base CX0 1 f fd ["_law_cell", "_law_turn"] (spChurn) := by
  refine F.ok sc_churn (fun vs H Q E h => ?_) (fun cdv A outer s H vs Q E hr h => ?_)
  · obtain ⟨_, _, rfl, _⟩ := h
    rfl
  obtain ⟨c, t, rfl, t0, t1, q⟩ := h
  refine ⟨_, pss_cons (ps_set (i := 2) sc_churn.nd rfl (Or.inl rfl) (pe_op op_add (pe_op op_mod (pv 0) pe_int) pe_int))
    (pss_cons (ps_for PassesOwn.never rfl (pi_range1 rfl T.z_range (pa_cons (pe_op op_add (pe_op op_mod (pv 1) pe_int) pe_int) pa_nil)) (pg_name (i := 3) sc_churn.nd rfl (Or.inl rfl)) (pss_cons (ps_set (i := 4) sc_churn.nd rfl (Or.inl rfl) (pe_op op_mulG (pe_op op_mod (pe_op op_mulG (pv 2) (pv 2)) pe_int) (pe_op op_add (pv 1) pe_int)))
    (pss_one (ps_set (i := 2) sc_churn.nd rfl (Or.inl rfl) (pe_op op_mod (pe_op op_add (pe_op op_add (pe_op op_add (pv 4) (pe_op op_mulG pe_int (pv 2))) (pe_op op_mulG pe_int (pv 3))) (pv 1)) pe_int)))))
    (pss_one (ps_ret (pv 2)))), ?_⟩
  refine ⟨_, rfl, _, _, rfl, rfl, (by show (0 : Int) < 2147483563; decide), _, _, rfl, rfl, ?_⟩
  refine ⟨_, rfl, _, _, rfl, rfl, (by show (0 : Int) < 5; decide), _, _, rfl, rfl, t % 5 + 2, rfl, by omega, by omega, ?_⟩
  refine for_range (fun i σ H' => ∃ (x : Int) (k y : Option V), σ = [some (.int c), some (.int t), some (.int x), k, y] ∧ H = H' ∧ 0 ≤ x ∧ x ≤ 2147483563) ⟨c % 2147483563 + 1, none, none, rfl, rfl, by omega, by omega⟩ ?_ ?_
  · rintro i σ H' hi ⟨x, k, y, rfl, rfl, x0, x1⟩
    refine ⟨_, rfl, _, rfl, _, _, rfl, rfl, mulS (by omega) (by omega), _, _, rfl, rfl, (by show (0 : Int) < 2147483563; decide), _, rfl, _, _, rfl, rfl, _, _, rfl, rfl, mulS (by omega) (by omega), ?_⟩
    refine ⟨_, rfl, _, rfl, _, _, rfl, rfl, mulS (by omega) (by omega), _, _, rfl, rfl, _, rfl, _, _, rfl, rfl, IntMulOk.of_left (intBits_le_64 (by decide) (by decide)), _, _, rfl, rfl, _, rfl, _, _, rfl, rfl, _, _, rfl, rfl, (by show (0 : Int) < 2147483563; decide), ?_⟩
    exact ⟨_, _, _, rfl, rfl, Int.emod_nonneg _ (by decide), Int.le_of_lt (Int.emod_lt_of_pos _ (by decide))⟩
  · rintro σ H' ⟨x, k, y, rfl, rfl, x0, x1⟩
    exact ⟨_, rfl, q x x0 x1⟩
theorem ok_lowest {f : Addr} {fd : FuncData} (F : Fun K "_law_lowest" "_law_lowest" s_lowest f fd) (T : Txt K mg t)  : FnOk P w K mg base CX0 1 f fd ["_law_point_here"] (spLowest) := by
  refine F.ok sc_lowest (fun vs H Q E h => ?_) (fun cdv A outer s H vs Q E hr h => ?_)
  · obtain ⟨_, _, _, _, rfl, _⟩ := h
    rfl
  obtain ⟨p, x, y, z, rfl, hp, hb, nzr, q⟩ := h
  unfold Sq3 at hp
  obtain ⟨bx, by', bz⟩ := in3_abs hb
  refine ⟨_, pss_cons (ps_set (i := 1) sc_lowest.nd rfl (Or.inr rfl) pe_int)
    (pss_cons (ps_for PassesOwn.never rfl (pi_tup (pv 0)) (pg_name (i := 2) sc_lowest.nd rfl (Or.inl rfl)) (pss_cons (ps_set (i := 3) sc_lowest.nd rfl (Or.inl rfl) (pe_callB call_abs rfl T.z_abs b_abs (pa_cons (pv 2) pa_nil)))
    (pss_one (ps_while PassesOwn.never (pt_cmpR op_ne (pv 3) pe_int (nomark _)) (pss_one (ps_asg (pe_tup (pa_cons (pv 3) (pa_cons (pe_op op_mod (pv 1) (pv 3)) pa_nil))) (pg_tup rfl (pgs_cons (pg_name (i := 1) sc_lowest.nd rfl (Or.inr rfl)) (pgs_cons (pg_name (i := 3) sc_lowest.nd rfl (Or.inl rfl)) pgs_nil)))))))))
    (pss_cons (ps_if (pt_cmpR op_eq (pv 1) pe_int (nomark _)) (pss_one (ps_ret (pv 0))) pss_nil)
    (pss_cut (ps_if (pt_cmpR op_lt (pe_ix ix_list (pe_compIfC rfl (CompScope.gen (cl := []) [] [] [(".0", .local), ("_law_number", .local)] rfl (by decide +kernel) (by decide +kernel) rfl rfl (by intro p hp; cases hp) rfl (by intro p hp h; simp only [List.mem_cons, List.not_mem_nil, or_false] at hp; rcases hp with rfl | rfl <;> first | rfl | (rcases h with h | h <;> cases h)) (by decide) (by decide +kernel) rfl (by intro p hp; cases hp)) (pi_tup (pv 0)) (fun C s0 H0 fp pins => pt_cmpR op_ne (pv 0) pe_int (nomark _)) (fun C s0 H0 fp pins => pv 0)) pe_int (fun _ _ => rfl)) pe_int (nomark _)) (pss_one (ps_set (i := 1) sc_lowest.nd rfl (Or.inr rfl) (pe_op op_sub pe_int (pv 1)))) pss_nil)
    (pss_one (ps_ret (pe_callTy call_tuple_of rfl T.z_tuple b_tuple (pa_cons (pe_compC rfl (CompScope.gen (cl := [("_law_share", _)]) ["_law_share"] [1] [(".0", .local), ("_law_number", .local), ("_law_share", .cell)] rfl (by decide +kernel) (by decide +kernel) rfl rfl (by intro p hp; simp only [List.mem_cons, List.not_mem_nil, or_false] at hp; rcases hp with rfl <;> rfl) rfl (by intro p hp h; simp only [List.mem_cons, List.not_mem_nil, or_false] at hp; rcases hp with rfl | rfl | rfl <;> first | rfl | (rcases h with h | h <;> cases h)) (by decide) (by decide +kernel) rfl (by intro p hp; simp only [List.zip_cons_cons, List.zip_nil_left, List.mem_cons, List.not_mem_nil, or_false] at hp; rcases hp with rfl <;> exact ⟨rfl, rfl⟩)) (pi_tup (pv 0)) (fun C s0 H0 fp pins => pe_op op_fdivL (pv 0) (pv 1))) pa_nil))))))), ?_⟩
  refine ⟨_, rfl, p, rfl, ⟨_, SqT.of hp⟩, for_tup (xs := [.int x, .int y, .int z]) (fun i σ H' => ∃ (g : Int) (nh ot : Option V), σ = [some (.ref p), some (.int g), nh, ot] ∧ Same H H' ∧ 0 ≤ g ∧ Cmb x y z g ∧ ∀ n ∈ [x, y, z].take i, g ∣ n) ⟨0, none, none, rfl, Same.refl _, by decide, ⟨0, 0, 0, by omega⟩, fun n hn => by cases hn⟩ ?_ ?_ ?_⟩
  · rintro i σ H' hi ⟨g, nh, ot, rfl, gs, _⟩
    exact SqT.of (gs _ _ hp)
  · rintro i v σ H' hv ⟨g, nh, ot, rfl, gs, g0, gc, hd⟩
    obtain ⟨n, rfl, hn⟩ := get3 hv
    have nm := List.mem_of_getElem? hn
    refine ⟨_, rfl, n, rfl, ?_⟩
    refine ⟨fun m σ H' => ∃ (f o : Int), σ = [some (.ref p), some (.int f), some (.int n), some (.int o)] ∧ Same H H' ∧ 0 ≤ f ∧ 0 ≤ o ∧ Cmb x y z f ∧ Cmb x y z o ∧ (∀ d : Int, d ∣ f → d ∣ o → d ∣ g ∧ d ∣ n) ∧ m = o.toNat, ⟨_, g, _, rfl, gs, g0, ?_, gc, ?_, fun d d1 d2 => ⟨d1, ?_⟩, rfl⟩, ?_⟩
    · show 0 ≤ (if n < 0 then -n else n)
      split <;> omega
    · show Cmb x y z (if n < 0 then -n else n)
      split
      · exact (Cmb.mem nm).neg
      · exact .mem nm
    · have d2' : d ∣ (if n < 0 then -n else n) := d2
      split at d2'
      · exact Int.dvd_neg.mp d2'
      · exact d2'
    rintro m σ H1 ⟨f, o', rfl, gs1, f0, o0, fc, oc, hd2, rfl⟩
    refine ⟨_, rfl, rfl, _, rfl, ite2 (fun c => ?_) (fun c => ?_)⟩
    · have on : o' ≠ 0 := fun zz => neT c (congrArg V.int zz)
      have op : 0 < o' := by omega
      have r0 := Int.emod_nonneg f on
      have r1 := Int.emod_lt_of_pos f op
      refine ⟨fun σ' H2 => σ' = [some (.ref p), some (.int o'), some (.int n), some (.int (f % o'))] ∧ Same H H2, ?_, ?_⟩
      · rintro σ' H2 ⟨rfl, gs2⟩
        exact ⟨(f % o').toNat, by omega, o', f % o', rfl, gs2, o0, r0, oc, fc.rest oc, fun d d1 d2 => (fun z => hd2 d z.1 z.2) (step_dvd d1 d2), rfl⟩
      · exact ⟨_, rfl, _, rfl, _, rfl, _, _, rfl, rfl, op, (by show 2 ≤ sizeLine; decide), fun t ht => ⟨t, _, rfl, SqT.of upd_same, rfl, _, _, rfl, _, _, rfl, rfl, rfl, gs1.trans (same_new ht _)⟩⟩
    · have on : o' = 0 := int_inj (neF c)
      subst on
      obtain ⟨w1, w2⟩ := hd2 f (Int.dvd_refl f) (Int.dvd_zero f)
      refine ⟨f, _, _, rfl, gs1, f0, fc, fun w hw => ?_⟩
      rw [List.take_succ, hn] at hw
      rcases List.mem_append.mp hw with z | z
      · exact Int.dvd_trans w1 (hd w z)
      · have : w = n := by simpa using z
        rw [this]
        exact w2
  · rintro σ H1 ⟨g, nh, ot, rfl, gs, g0, gc, hd⟩
    have hp1 := gs _ _ hp
    have hd' : ∀ n ∈ [x, y, z], g ∣ n := hd
    have dx := hd' x (by simp)
    have dy := hd' y (by simp)
    have dz := hd' z (by simp)
    have gn : g ≠ 0 := fun w => by
      subst w
      have h1 := Int.zero_dvd.mp dx
      have h2 := Int.zero_dvd.mp dy
      have h3 := Int.zero_dvd.mp dz
      unfold NZ at nzr
      omega
    have gb : g.natAbs ≤ Lm := by
      rcases nzr with h | h | h
      · have := Nat.le_of_dvd (by omega) (Int.natAbs_dvd_natAbs.mpr dx)
        omega
      · have := Nat.le_of_dvd (by omega) (Int.natAbs_dvd_natAbs.mpr dy)
        omega
      · have := Nat.le_of_dvd (by omega) (Int.natAbs_dvd_natAbs.mpr dz)
        omega
    refine ⟨_, rfl, rfl, _, rfl, iteDF (fun w => gn (int_inj w)) ?_⟩
    refine ⟨fun σ' H' => ∃ e : Int, σ' = [some (.ref p), some (.int e), nh, ot] ∧ Same H H' ∧ ((e = g ∧ 0 < fst3 x y z) ∨ (e = -g ∧ fst3 x y z < 0)), ?_, ?_⟩
    · refine ⟨_, rfl, p, rfl, ⟨_, SqT.of hp1⟩, compIf_tupF (xs := [.int x, .int y, .int z]) (by show 3 < sizeLine; decide) nz id (fun H' g => SqT.of (g _ _ hp1)) ?_ ?_ ?_⟩
      · intro i v H' Q' hv g k
        obtain ⟨n, rfl, _⟩ := get3 hv
        exact ⟨_, rfl, rfl, _, rfl, k _ (Same.refl _)⟩
      · intro i v H' Q' hv e g k
        exact ⟨_, rfl, k _ (Same.refl _)⟩
      · intro l H' g' h0 hl
        have fz := fst_nz nzr
        refine ⟨l, _, _, _, rfl, rfl, SqL.of hl, fst_ok nzr, _, _, rfl, rfl, _, rfl, ite2 (fun c => ?_) (fun c => ?_)⟩
        · have c' := decT c
          exact ⟨_, rfl, _, _, rfl, rfl, 0 - g, rfl, gs.trans g', .inr ⟨by omega, c'⟩⟩
        · have c' := decF c
          exact ⟨g, rfl, gs.trans g', .inl ⟨rfl, by omega⟩⟩
    · rintro _ H3 ⟨e, rfl, g3, he⟩
      have hp3 := g3 _ _ hp
      have en : e ≠ 0 := by omega
      have be : e.natAbs ≤ Lm := by omega
      refine ⟨_, rfl, p, rfl, ⟨_, SqT.of hp3⟩, comp_tupF (xs := [.int x, .int y, .int z]) (SqT.of hp3) (by show 3 < sizeLine; decide) (fdv e) (fun H' g => SqT.of (g _ _ hp3)) ?_ ?_⟩
      · intro i v H' Q' hv g k
        obtain ⟨n, rfl, _⟩ := get3 hv
        exact ⟨_, rfl, _, rfl, _, _, rfl, rfl, ⟨en, Lm_log (by omega)⟩, k _ (Same.refl _)⟩
      intro l4 H4 g4 _ hl4
      refine ⟨l4, _, rfl, .inl ⟨SqL.of hl4, fun r nr => ?_⟩⟩
      have ed : ∀ {n : Int}, g ∣ n → e ∣ n := fun h => by
        rcases he with ⟨w, _⟩ | ⟨w, _⟩ <;> rw [w]
        · exact h
        · exact Int.neg_dvd.mpr h
      have ec : Cmb x y z e := by
        rcases he with ⟨w, _⟩ | ⟨w, _⟩ <;> rw [w]
        · exact gc
        · exact gc.neg
      obtain ⟨o3, e1, e2, e3⟩ := low_ok en (ed dx) (ed dy) (ed dz) ec
      exact q r _ (x.fdiv e) (y.fdiv e) (z.fdiv e) e (g3.trans (g4.trans (same_new nr _))) upd_same o3 (pos_of en e1 e2 e3 nzr (by omega)) en e1 e2 e3
theorem ok_point {f : Addr} {fd : FuncData} (F : Fun K "_law_point" "_law_point" s_point f fd) (T : Txt K mg t) (H_whole : Has P w K mg base CX0 1 "_law_whole" ["_law_found"] (spWhole)) (H_lowest : Has P w K mg base CX0 1 "_law_lowest" ["_law_point_here"] (spLowest)) : FnOk P w K mg base CX0 2 f fd ["_law_found", "_law_a", "_law_b"] (spPointT) := by
  obtain ⟨f_whole, d_whole, G_whole, b_whole, k_whole, m_whole⟩ := H_whole
  obtain ⟨f_lowest, d_lowest, G_lowest, b_lowest, k_lowest, m_lowest⟩ := H_lowest
  refine F.ok sc_point (fun vs H Q E h => ?_) (fun cdv A outer s H vs Q E hr h => ?_)
  · obtain ⟨_, _, _, _, _, _, rfl, _⟩ := h
    rfl
  obtain ⟨p, a, b, x, y, z, rfl, hp, hb, o3, p3, a6, b6, eq, q⟩ := h
  have hu64 := hu64_of hr
  have hr_whole := hr.mono (show 1 ≤ 1 by decide)
  have hr_lowest := hr.mono (show 1 ≤ 1 by decide)
  have hp' : H p = some (.tup [.int x, .int y, .int z]) := hp
  have nzr := pos_nz p3
  refine ⟨_, pss_cons (ps_if (PW.pt (pw_or (pt_not (pt_val (pe_callB call_isi rfl T.z_isinstance b_isi (pa_cons (pv 0) (pa_cons (pe_bltn (v := .ty "tuple") rfl T.z_tuple b_tuple rfl) pa_nil))) (fun _ => rfl))) (pw_or (pt_cmpR op_ne (pe_callB call_len_seq rfl T.z_len PySem.boot_len (pa_cons (pv 0) pa_nil)) pe_int (nomark _)) (pw_or1 (pt_not (pt_val (pe_callB (call_all rfl) rfl T.z_all b_all (pa_cons (pe_compC rfl (CompScope.gen (cl := []) [] [] [(".0", .local), ("_law_number", .local), ("_law_whole", .globalImplicit)] rfl (by decide +kernel) (by decide +kernel) rfl rfl (by intro p hp; cases hp) rfl (by intro p hp h; simp only [List.mem_cons, List.not_mem_nil, or_false] at hp; rcases hp with rfl | rfl | rfl <;> first | rfl | (rcases h with h | h <;> cases h)) (by decide) (by decide +kernel) rfl (by intro p hp; cases hp)) (pi_tup (pv 0)) (fun C s0 H0 fp pins => pe_call G_whole hr_whole rfl m_whole k_whole b_whole .nil pass0 (pa_cons (pv 0) pa_nil))) pa_nil)) (fun _ => rfl))))))) (pss_one (ps_ret pe_bl)) pss_nil)
    (pss_cons (ps_asg (pv 0) (pg_tup rfl (pgs_cons (pg_name (i := 3) sc_point.nd rfl (Or.inl rfl)) (pgs_cons (pg_name (i := 4) sc_point.nd rfl (Or.inl rfl)) (pgs_cons (pg_name (i := 5) sc_point.nd rfl (Or.inl rfl)) pgs_nil)))))
    (pss_one (ps_ret (pe_and (pe_cmpR (op_neD hu64) (pv 0) (pe_tup (pa_cons pe_int (pa_cons pe_int (pa_cons pe_int pa_nil)))) (nomark _)) (pe_and (pe_cmpR (op_eqD hu64) (pe_call G_lowest hr_lowest rfl m_lowest k_lowest b_lowest .nil pass0 (pa_cons (pv 0) pa_nil)) (pv 0) (nomark _)) (pe_one (pe_cmpR op_eq (pe_op op_mulG (pv 3) (pv 3)) (pe_op op_add (pe_op op_mulG (pe_op op_mulG (pv 1) (pv 4)) (pv 4)) (pe_op op_mulG (pe_op op_mulG (pv 2) (pv 5)) (pv 5))) (nomark _)))))))), ?_⟩
  refine ⟨_, rfl, _, _, _, _, rfl, .inr ⟨_, rfl⟩, .of (.tup hp'), rfl, _, rfl, iteF ?_⟩
  refine ⟨_, rfl, p, _, rfl, .inr (SqT.of hp'), rfl, _, rfl, iteNS rfl ?_⟩
  refine ⟨_, rfl, p, rfl, ⟨_, SqT.of hp'⟩, comp_tupF (xs := [.int x, .int y, .int z]) (SqT.of hp') (by show 3 < sizeLine; decide) (fun _ => .bl true) (fun H' g => SqT.of (g _ _ hp')) ?_ ?_⟩
  · intro i v H' Q' hv g k
    obtain ⟨n, rfl, _⟩ := get3 hv
    exact ⟨_, rfl, n, rfl, k _ (Same.refl _)⟩
  intro l H2 g2 _ hl
  refine ⟨l, [true, true, true], rfl, hl, _, rfl, iteF ?_⟩
  have hp2 := g2 _ _ hp'
  refine ⟨_, rfl, p, _, rfl, SqT.of hp2, rfl, _, _, rfl, _, _, rfl, _, _, rfl, rfl, ?_⟩
  refine ⟨_, rfl, (by show 3 ≤ sizeLine; decide), fun z0 hz0 => ?_⟩
  have g3 := same_new hz0 (.tup [.int 0, .int 0, .int 0])
  refine ⟨_, _, DA3 (g3 _ _ hp2), DA3 (x := 0) (y := 0) (z := 0) upd_same, rfl, rfl, _, rfl, ?_⟩
  rw [eqv3, decide_eq_false (fun w => by unfold NZ at nzr; omega)]
  refine iteT ?_
  refine ⟨_, rfl, p, x, y, z, rfl, g3 _ _ hp2, hb, nzr, fun r H4 a' b' c' d g4 hr4 o4 p4 d0 ex ey ez => ?_⟩
  obtain ⟨rfl, rfl, rfl⟩ := low_same o3 p3 o4 p4 ex ey ez
  have hp4 := g4 _ _ (g3 _ _ hp2)
  refine ⟨_, rfl, _, _, DA3 hr4, DA3 hp4, rfl, rfl, _, rfl, ?_⟩
  rw [eqv3, decide_eq_true (show a' = a' ∧ b' = b' ∧ c' = c' from ⟨rfl, rfl, rfl⟩)]
  refine iteT ?_
  have bx := bd_in hb.1
  have by' := bd_in hb.2.1
  have bz := bd_in hb.2.2
  have ba := bd6 a6
  have bb := bd6 b6
  refine ⟨_, rfl, _, rfl, _, _, rfl, rfl, okM bx bx, _, rfl, _, rfl, _, _, rfl, rfl, okM ba by', _, rfl, _, _, rfl, rfl, okM (ba.mul by') by', _, rfl, _, rfl, _, _, rfl, rfl, okM bb bz, _, rfl, _, _, rfl, rfl, okM (bb.mul bz) bz, _, _, rfl, rfl, rfl, ?_⟩
  have eq' : a' * a' = a * b' * b' + b * c' * c' := by rw [eq, Int.mul_assoc, Int.mul_assoc]
  exact blT (Q := Q) (c := V.int (a' * a') = V.int (a * b' * b' + b * c' * c')) (congrArg V.int eq') (q _ (g2.trans (g3.trans g4)))
theorem ok_picked {f : Addr} {fd : FuncData} (F : Fun K "_law_picked" "_law_picked" s_picked f fd) (T : Txt K mg t) (H_cell_at : Has P w K mg base CX0 1 "_law_cell_at" ["_law_script", "_law_k"] (spCell K)) (H_churn : Has P w K mg base CX0 1 "_law_churn" ["_law_cell", "_law_turn"] (spChurn)) : FnOk P w K mg base CX0 2 f fd ["_law_script", "_law_start", "_law_turn", "_law_most"] (spPickM K) := by
  obtain ⟨f_cell_at, d_cell_at, G_cell_at, b_cell_at, k_cell_at, m_cell_at⟩ := H_cell_at
  obtain ⟨f_churn, d_churn, G_churn, b_churn, k_churn, m_churn⟩ := H_churn
  refine F.ok sc_picked (fun vs H Q E h => ?_) (fun cdv A outer s H vs Q E hr h => ?_)
  · obtain ⟨_, _, _, _, _, rfl, _⟩ := h
    rfl
  obtain ⟨a, ns, st, tn, M, rfl, hS, st0, st1, t0, t1, M0, M1, q⟩ := h
  have hr_cell_at := hr.mono (show 1 ≤ 1 by decide)
  have hr_churn := hr.mono (show 1 ≤ 1 by decide)
  refine ⟨_, pss_cons (ps_set (i := 4) sc_picked.nd rfl (Or.inl rfl) pe_int)
    (pss_cons (ps_for PassesOwn.never rfl (pi_range1 rfl T.z_range (pa_cons pe_int pa_nil)) (pg_name (i := 5) sc_picked.nd rfl (Or.inl rfl)) (pss_cons (ps_set (i := 7) sc_picked.nd rfl (Or.inl rfl) (pe_ix ix_list (pe_lst (pa_ints hes10)) (pv 5) (fun _ _ => rfl)))
    (pss_one (ps_if (PW.pt (pw_and (pt_cmpR op_eq (pe_op op_mod (pe_call G_churn hr_churn rfl m_churn k_churn b_churn .nil pass0 (pa_cons (pe_call G_cell_at hr_cell_at rfl m_cell_at k_cell_at b_cell_at .nil pass0 (pa_cons (pv 0) (pa_cons (pe_op op_add (pv 1) (pv 5)) pa_nil))) (pa_cons (pe_op op_add (pv 5) (pv 2)) pa_nil))) pe_int) pe_int (nomark _)) (pw_and1 (pt_cmpR op_le (pe_op op_mulG (pv 4) (pv 7)) (pv 3) (nomark _))))) (pss_one (ps_set (i := 4) sc_picked.nd rfl (Or.inl rfl) (pe_op op_mulG (pv 4) (pv 7)))) pss_nil))))
    (pss_cons (ps_set (i := 6) sc_picked.nd rfl (Or.inl rfl) (pe_op op_mod (pe_call G_churn hr_churn rfl m_churn k_churn b_churn .nil pass0 (pa_cons (pe_call G_cell_at hr_cell_at rfl m_cell_at k_cell_at b_cell_at .nil pass0 (pa_cons (pv 0) (pa_cons (pe_op op_add (pv 1) pe_int) pa_nil))) (pa_cons (pe_op op_add (pv 2) pe_int) pa_nil))) pe_int))
    (pss_cut (ps_if (PW.pt (pw_and (pt_cmpR op_lt (pv 6) pe_int (nomark _)) (pw_and1 (pt_cmpR op_le (pe_op op_mulG (pv 4) (pe_ix ix_list (pe_lst (pa_ints (.cons (.cons (.cons (.cons (.cons (.cons (.cons (.cons .nil)))))))))) (pv 6) (fun _ _ => rfl))) (pv 3) (nomark _))))) (pss_one (ps_set (i := 4) sc_picked.nd rfl (Or.inl rfl) (pe_op op_mulG (pv 4) (pe_ix ix_list (pe_lst (pa_ints (.cons (.cons (.cons (.cons (.cons (.cons (.cons (.cons .nil)))))))))) (pv 6) (fun _ _ => rfl))))) pss_nil)
    (pss_cons (ps_if (pt_cmpR op_eq (pe_op op_mod (pe_call G_churn hr_churn rfl m_churn k_churn b_churn .nil pass0 (pa_cons (pe_call G_cell_at hr_cell_at rfl m_cell_at k_cell_at b_cell_at .nil pass0 (pa_cons (pv 0) (pa_cons (pv 1) pa_nil))) (pa_cons (pe_op op_add (pv 2) pe_int) pa_nil))) pe_int) pe_int (nomark _)) (pss_one (ps_ret (pe_op op_sub pe_int (pv 4)))) pss_nil)
    (pss_one (ps_ret (pv 4))))))), ?_⟩
  refine ⟨10, rfl, by decide, by decide, for_range (fun i σ H' => ∃ (n : Int) (x5 x7 : Option V), σ = [some (.ref a), some (.int st), some (.int tn), some (.int M), some (.int n), x5, none, x7] ∧ Same H H' ∧ Mad n (P10.take i) ∧ n ≤ M) ⟨1, none, none, rfl, Same.refl _, Mad.one, M0⟩ ?_ ?_⟩
  · rintro i σ H1 hi ⟨n, x5, x7, rfl, g1, md, nM⟩
    have i10 : i < 10 := hi
    obtain ⟨z0, z1, z2, z3, z4⟩ := step10 i i10
    have hz := at10 i10
    have zp := prm18 z0
    refine ⟨(by show 10 ≤ sizeLine; decide), fun w hw => ⟨_, rfl, w, _, _, _, rfl, rfl, SqL.of upd_same, hz, ?_⟩⟩
    have g2 := g1.trans (same_new hw (.lst (P10.map V.int)))
    generalize P10.getD i 0 = z at *
    have z5 := zp.two
    have np := md.pos
    refine ⟨_, rfl, _, rfl, _, rfl, _, _, rfl, rfl, a, ns, _, rfl, g2.seq hS, (by show 0 ≤ st + (0 + (i : Int)); omega), _, rfl, _, rfl, _, _, rfl, rfl, _, _, rfl, (by show 0 ≤ 0 + (i : Int) + tn; omega), (by show 0 + (i : Int) + tn ≤ 100; omega), fun x x0 x1 => ⟨_, _, rfl, rfl, (by show (0 : Int) < 3; decide), rfl, _, rfl, ite2 (fun c1 => ?_) (fun c1 => ?_)⟩⟩
    · refine ⟨_, rfl, _, rfl, _, _, rfl, rfl, mulS (by omega) (by omega), _, rfl, _, _, rfl, rfl, _, rfl, ite2 (fun c2 => ?_) (fun c2 => ?_)⟩
      · have c3 : n * z ≤ M := decT c2
        exact ⟨_, rfl, _, rfl, _, _, rfl, rfl, mulS (by omega) (by omega), n * z, _, _, rfl, g2, md.mul zp z1 z3 z2, c3⟩
      · exact ⟨n, _, _, rfl, g2, md.mono z3, nM⟩
    · exact ⟨n, _, _, rfl, g2, md.mono z3, nM⟩
  · rintro σ H1 ⟨n, x5, x7, rfl, g1, md, nM⟩
    have md : Mad n P10 := md
    refine ⟨_, rfl, _, rfl, _, _, rfl, rfl, a, ns, _, rfl, g1.seq hS, (by show 0 ≤ st + 1; omega), _, rfl, _, _, rfl, rfl, _, _, rfl, (by show 0 ≤ tn + 11; omega), (by show tn + 11 ≤ 100; omega), fun x x0 x1 => ⟨_, _, rfl, rfl, (by show (0 : Int) < 16; decide), ?_⟩⟩
    refine ⟨fun σ' H' => ∃ (n : Int), σ' = [some (.ref a), some (.int st), some (.int tn), some (.int M), some (.int n), x5, some (.int (x % 16)), x7] ∧ Same H H' ∧ Jc.Sf n ∧ 0 < n ∧ n ≤ M ∧ (∀ p, Pr.Prm p → p ∣ n → p ∈ P18), ?_, ?_⟩
    · have np := md.pos
      refine ⟨_, rfl, _, _, rfl, rfl, _, rfl, ite2 (fun c1 => ?_) (fun c1 => ?_)⟩
      · have c2 : x % 16 < 8 := decT c1
        obtain ⟨z0, z1, z2⟩ := step8 (x % 16).toNat (by omega)
        have hz := atL2 (L := P8) (k := x % 16) (by omega) (by show x % 16 < 8; omega)
        have zp := prm18 z0
        have z5 := zp.two
        generalize P8.getD (x % 16).toNat 0 = z at *
        refine ⟨_, rfl, (by show 8 ≤ sizeLine; decide), fun w hw => ⟨_, rfl, w, _, _, _, rfl, rfl, SqL.of upd_same, hz, _, _, rfl, rfl, mulS (by omega) (by omega), _, rfl, _, _, rfl, rfl, _, rfl, ite2 (fun c3 => ?_) (fun c3 => ?_)⟩⟩
        · have c4 : n * z ≤ M := decT c3
          have g2 := g1.trans (same_new hw (.lst (P8.map V.int)))
          refine ⟨_, rfl, (by show 8 ≤ sizeLine; decide), fun w2 hw2 => ⟨_, rfl, w2, _, _, _, rfl, rfl, SqL.of upd_same, hz, _, _, rfl, rfl, mulS (by omega) (by omega), n * z, rfl, g2.trans (same_new hw2 _), sf_mul md.sf zp (fun d => z1 (md.mem z zp d)), Int.mul_pos np (by omega), c4, fun p hp d => (Pr.euclid hp d).elim (fun k => p10_18 _ (md.mem p hp k)) fun k => Pr.prm_dvd_prm hp zp k ▸ z0⟩⟩
        · exact ⟨n, rfl, g1.trans (same_new hw _), md.sf, np, nM, fun p hp d => p10_18 _ (md.mem p hp d)⟩
      · exact ⟨n, rfl, g1, md.sf, np, nM, fun p hp d => p10_18 _ (md.mem p hp d)⟩
    · clear md nM g1
      rintro _ H1 ⟨n, rfl, g1, sf, np, nM, pm⟩
      refine ⟨_, rfl, _, rfl, a, ns, _, rfl, g1.seq hS, st0, _, rfl, _, _, rfl, rfl, _, _, rfl, (by show 0 ≤ tn + 17; omega), (by show tn + 17 ≤ 100; omega), fun x x0 x1 => ⟨_, _, rfl, rfl, (by show (0 : Int) < 2; decide), rfl, _, rfl, ite2 (fun c1 => ?_) (fun c1 => ?_)⟩⟩
      · exact ⟨_, rfl, _, _, rfl, rfl, q _ _ g1 (sf_neg sf) (by omega) fun p hp d => pm p hp (by rw [Int.zero_sub, Int.dvd_neg] at d; exact d)⟩
      · exact ⟨_, rfl, q _ _ g1 sf (by omega) pm⟩
theorem ok_root {f : Addr} {fd : FuncData} (F : Fun K "_law_root" "_law_root" s_root f fd) (T : Txt K mg t)  : FnOk P w K mg base CX0 1 f fd ["_law_number", "_law_prime"] (spRootB) := by
  refine F.ok sc_root (fun vs H Q E h => ?_) (fun cdv A outer s H vs Q E hr h => ?_)
  · obtain ⟨_, _, rfl, _⟩ := h
    rfl
  obtain ⟨n, p, rfl, p2, p3, q⟩ := h
  refine ⟨_, pss_cons (ps_for PassesOwn.never rfl (pi_range1 rfl T.z_range (pa_cons (pe_op op_add (pe_op op_fdiv (pv 1) pe_int) pe_int) pa_nil)) (pg_name (i := 2) sc_root.nd rfl (Or.inl rfl)) (pss_one (ps_if (pt_cmpR op_eq (pe_op op_mod (pe_op op_sub (pe_op op_mulG (pv 2) (pv 2)) (pv 0)) (pv 1)) pe_int (nomark _)) (pss_one (ps_ret pe_bl)) pss_nil)))
    (pss_one (ps_ret pe_bl)), ?_⟩
  refine ⟨_, rfl, _, _, rfl, rfl, ⟨by decide, by decide⟩, _, _, rfl, rfl, p / 2 + 1, rfl, by omega, by omega, for_range (fun i σ H' => ∃ x : Option V, σ = [some (.int n), some (.int p), x] ∧ H = H' ∧ ∀ r : Int, 0 ≤ r → r < i → (r * r - n) % p ≠ 0) ⟨none, rfl, rfl, fun r r0 r1 => by omega⟩ ?_ ?_⟩
  · rintro i σ H' hi ⟨x, rfl, rfl, no⟩
    refine ⟨_, rfl, _, rfl, _, _, rfl, rfl, mulS (by omega) (by omega), _, rfl, _, _, rfl, rfl, _, rfl, _, _, rfl, rfl, (by show 0 < p; omega), rfl, _, rfl, ?_⟩
    refine ite2 (fun c => ?_) (fun c => ?_)
    · have f : ((0 + (i : Int)) * (0 + (i : Int)) - n) % p = 0 := int_inj (decT c)
      exact q true ⟨fun _ => ⟨_, Int.dvd_of_emod_eq_zero f⟩, fun _ => rfl⟩
    · have f : ¬ ((0 + (i : Int)) * (0 + (i : Int)) - n) % p = 0 := fun z => decF c (congrArg V.int z)
      rw [Int.zero_add] at f
      refine ⟨_, rfl, rfl, fun r r0 r1 => ?_⟩
      by_cases e : r = i
      · rw [e]; exact f
      · exact no r r0 (by omega)
  · rintro σ H' ⟨x, rfl, rfl, no⟩
    refine q false ⟨fun z => (by cases z), fun z => ?_⟩
    obtain ⟨r, r0, r1, r2⟩ := rt_small (by omega) z
    exact absurd r2 (no r r0 (by omega))
theorem ok_pair_point {f : Addr} {fd : FuncData} (F : Fun K "pair_point" "pair_point" s_pair_point f fd) (T : Txt K mg t) (H_is_without_squares : Has P w K mg base CX0 4 "is_without_squares" ["number"] (spNoSqB)) (H_places_without_point : Has P w K mg base CX0 5 "places_without_point" ["a", "b", "c"] (spBadH)) (H_walked_down : Has P w K mg base CX0 86 "walked_down" ["a", "b"] (spWalk 78)) (H_lowest_point : Has P w K mg base CX0 3 "lowest_point" ["P"] (spLowest)) : FnOk P w K mg base (XF P w) 87 f fd ["a", "b"] (spPPX t.c13) := by
  obtain ⟨f_is_without_squares, d_is_without_squares, G_is_without_squares, b_is_without_squares, k_is_without_squares, m_is_without_squares⟩ := H_is_without_squares
  obtain ⟨f_places_without_point, d_places_without_point, G_places_without_point, b_places_without_point, k_places_without_point, m_places_without_point⟩ := H_places_without_point
  obtain ⟨f_walked_down, d_walked_down, G_walked_down, b_walked_down, k_walked_down, m_walked_down⟩ := H_walked_down
  obtain ⟨f_lowest_point, d_lowest_point, G_lowest_point, b_lowest_point, k_lowest_point, m_lowest_point⟩ := H_lowest_point
  refine F.okX sc_pair_point (fun vs H Q E h => ?_) (fun cdv A outer s H vs Q E hr h => ?_)
  · obtain ⟨_, _, rfl, _⟩ := h
    rfl
  obtain ⟨a, b, rfl, a6, b6, qe, qs⟩ := h
  have hu64 := hu64_of hr
  have hr_is_without_squares := hr.mono (show 4 ≤ 86 by decide)
  have hr_places_without_point := hr.mono (show 5 ≤ 86 by decide)
  have hr_walked_down := hr.mono (show 86 ≤ 86 by decide)
  have hr_lowest_point := hr.mono (show 3 ≤ 86 by decide)
  refine ⟨_, pss_cons (ps_if (pt_not (PW.pt (pw_and (pt_val (pe_call G_is_without_squares hr_is_without_squares rfl m_is_without_squares k_is_without_squares b_is_without_squares .nil pass0 (pa_cons (pv 0) pa_nil)) (fun _ => rfl)) (pw_and1 (pt_val (pe_call G_is_without_squares hr_is_without_squares rfl m_is_without_squares k_is_without_squares b_is_without_squares .nil pass0 (pa_cons (pv 1) pa_nil)) (fun _ => rfl)))))) (pss_one (ps_raise T.m_NotPlain T.x_NotPlain rfl (pa_cons pe_str pa_nil))) pss_nil)
    (pss_cons (PS.nox (ps_set (i := 2) sc_pair_point.nd rfl (Or.inl rfl) (pe_call G_places_without_point hr_places_without_point rfl m_places_without_point k_places_without_point b_places_without_point .nil pass0 (pa_cons (pv 0) (pa_cons (pv 1) (pa_cons (pe_un un_neg pe_int) pa_nil))))))
    (pss_cons (PS.nox (ps_if (pt_cmpR (op_neNil hu64) (pv 2) (pe_lst pa_nil) (nomark _)) (pss_one (ps_ret (pe_tup (pa_cons pe_str (pa_cons (pe_ix ix_list (pv 2) pe_int (fun _ _ => rfl)) pa_nil))))) pss_nil))
    (pss_cons (PS.nox (ps_set (i := 3) sc_pair_point.nd rfl (Or.inl rfl) (pe_call G_walked_down hr_walked_down rfl m_walked_down k_walked_down b_walked_down .nil pass0 (pa_cons (pv 0) (pa_cons (pv 1) pa_nil)))))
    (pss_one (PS.nox (ps_ret (pe_tup (pa_cons pe_str (pa_cons (pe_call G_lowest_point hr_lowest_point rfl m_lowest_point k_lowest_point b_lowest_point .nil pass0 (pa_cons (pe_ix ix_tup (pv 3) pe_int (fun _ _ => rfl)) pa_nil)) (pa_cons (pe_ix ix_tup (pv 3) pe_int (fun _ _ => rfl)) pa_nil)))))))))), ?_⟩
  refine ⟨_, rfl, a, rfl, a6, fun t1 H1 g1 h1 => ⟨_, rfl, ?_⟩⟩
  cases t1 with
  | false =>
    refine iteF (iteT ?_)
    exact ⟨(by show 1 ≤ sizeLine; decide), qe (fun z => (Bool.false_ne_true (h1.mpr z.1)).elim) _ g1⟩
  | true =>
  refine iteT ⟨_, rfl, b, rfl, b6, fun t2 H2 g2 h2 => ⟨_, rfl, ?_⟩⟩
  cases t2 with
  | false =>
    refine iteT ?_
    exact ⟨(by show 1 ≤ sizeLine; decide), qe (fun z => (Bool.false_ne_true (h2.mpr z.2)).elim) _ (g1.trans g2)⟩
  | true =>
  refine iteF ?_
  have sa := sf_iff.mp (h1.mp rfl)
  have sb := sf_iff.mp (h2.mp rfl)
  obtain ⟨_, _, e, _, _, _, _, qp, qn⟩ := qs (h1.mp rfl) (h2.mp rfl)
  cases e
  have a0 := sa.n0
  have b0 := sb.n0
  refine ⟨_, rfl, _, rfl, _, rfl, a, b, -1, rfl, ⟨a0, b0, by decide⟩, a6, b6, (by show (-1 : Int).natAbs ≤ 1000000; decide), fun pl ks H3 g3 npl hq lk hpl => ?_⟩
  refine ⟨_, rfl, (by show 0 ≤ sizeLine; decide), fun e1 he1 => ?_⟩
  have g4 := same_new he1 (.lst [])
  have hpl4 := g4 _ _ hpl
  have g14 := g1.trans (g2.trans (g3.trans g4))
  refine ⟨pl, e1, bads a b (-1) ks, rfl, rfl, hpl4, upd_same, _, rfl, ?_⟩
  cases eb : bads a b (-1) ks with
  | nil =>
    refine iteF ?_
    have gd := bads_nil a0 b0 hq eb
    refine ⟨_, rfl, _, rfl, a, b, rfl, sa, sb, gd, a6, b6, ms_le a0 b0 a6 b6, fun t p s x y z us ss H5 g5 fs ht hp hs sat ln ch sm => ?_⟩
    have tp := bd2_top a0 b0 a6 b6
    have nz := ch.nz a0 b0
    have in3 : In3 Top x y z := by
      have h1 := sm.x
      have h2 := sm.y
      have h3 := sm.z
      refine ⟨⟨?_, ?_⟩, ⟨?_, ?_⟩, ⟨?_, ?_⟩⟩ <;> omega
    refine ⟨_, rfl, t, _, _, _, rfl, rfl, SqT.of ht, rfl, p, x, y, z, rfl, hp, in3, nz, fun r H6 x' y' z' d g6 hr6 o3 p3 d0 ex ey ez => ?_⟩
    refine ⟨_, rfl, t, _, _, _, rfl, rfl, SqT.of (g6 _ _ ht), rfl, (by show 3 ≤ sizeLine; decide), fun t2 ht2 => ?_⟩
    have g7 := same_new ht2 (.tup [.str ("point" : Str), .ref r, .ref s])
    have m78 := ms_le a0 b0 a6 b6
    exact qp t2 r s x' y' z' x y z d us ss _ gd (g14.trans (g5.trans (g6.trans g7))) (g14.free fs) upd_same (g7 _ _ hr6) o3 p3 (scale_eq ch.eq d0 ex ey ez) (g7 _ _ (g6 _ _ hs)) (sat.mono (g6.trans g7)) (by omega) ch d0 ex ey ez sm
  | cons p ps =>
    refine iteT ?_
    rw [eb] at hpl4
    refine ⟨_, rfl, pl, _, _, _, rfl, rfl, SqL.of hpl4, at0 (v := V.int p) (l := ps.map V.int), (by show 2 ≤ sizeLine; decide), fun t2 ht2 => ?_⟩
    have hm := (bads_pq hq p).mp (by rw [eb]; exact List.mem_cons_self ..)
    exact qn t2 p _ (g14.trans (same_new ht2 _)) upd_same hm.1 hm.2
theorem ok_none_by_16 {f : Addr} {fd : FuncData} (F : Fun K "_law_none_by_16" "_law_none_by_16" s_none_by_16 f fd) (T : Txt K mg t)  : FnOk P w K mg base CX0 1 f fd ["_law_a", "_law_b"] (spNone16) := by
  refine F.ok sc_none_by_16 (fun vs H Q E h => ?_) (fun cdv A outer s H vs Q E hr h => ?_)
  · obtain ⟨_, _, rfl, _⟩ := h
    rfl
  obtain ⟨x, y, rfl, nf, q⟩ := h
  have hu := hu_of hr
  refine ⟨_, pss_cons (ps_set (i := 2) sc_none_by_16.nd rfl (Or.inl rfl) pe_dnewK)
    (pss_cons (ps_for PassesOwn.never rfl (pi_range1 rfl T.z_range (pa_cons pe_int pa_nil)) (pg_name (i := 3) sc_none_by_16.nd rfl (Or.inl rfl)) (pss_one (ps_dput hu (pv 2) (pe_op op_mod (pe_op op_mulG (pv 3) (pv 3)) pe_int) pe_bl rfl)))
    (pss_cons (ps_for PassesOwn.never rfl (pi_range1 rfl T.z_range (pa_cons pe_int pa_nil)) (pg_name (i := 4) sc_none_by_16.nd rfl (Or.inl rfl)) (pss_one (ps_for PassesOwn.never rfl (pi_range1 rfl T.z_range (pa_cons pe_int pa_nil)) (pg_name (i := 5) sc_none_by_16.nd rfl (Or.inl rfl)) (pss_one (ps_if (PW.pt (pw_and (PW.pt (pw_or (pt_cmpR op_gt (pe_op op_mod (pv 4) pe_int) pe_int (nomark _)) (pw_or1 (pt_cmpR op_gt (pe_op op_mod (pv 5) pe_int) pe_int (nomark _))))) (pw_and1 (pt_cmp (pc_din hu (pe_op op_mod (pe_op op_add (pe_op op_mulG (pe_op op_mulG (pv 0) (pv 4)) (pv 4)) (pe_op op_mulG (pe_op op_mulG (pv 1) (pv 5)) (pv 5))) pe_int) (pv 2)))))) (pss_one (ps_ret pe_bl)) pss_nil)))))
    (pss_one (ps_ret pe_bl)))), ?_⟩
  refine fun d hd => ?_
  refine ⟨16, rfl, by decide, by decide, for_range (fun i σ H' => ∃ (w : Option V) (kvs : List (Key × V)), σ = [some (.int x), some (.int y), some (.ref d), w, none, none] ∧ (∀ b, b ≠ d → H' b = H b) ∧ H' d = some (.dK kvs) ∧ kvs.length ≤ i ∧ ∀ r : Int, (valV kvs (.inl r)).isSome = true ↔ ∃ w : Nat, w < i ∧ (w : Int) * w % (16 : Nat) = r)
    ⟨none, [], rfl, fun b hb => upd_ne hb, upd_same, Nat.le_refl _, fun r => ⟨(fun z => by rw [valV_nil] at z; cases z), fun ⟨w, z, _⟩ => absurd z (Nat.not_lt_zero w)⟩⟩ ?_ ?_⟩
  · rintro i σ H1 hi ⟨w, kvs, rfl, sm, hd1, kl, all⟩
    have hi' : i < 16 := hi
    refine ⟨_, rfl, _, rfl, _, rfl, _, _, rfl, rfl, mulS (by omega) (by omega), _, _, rfl, rfl, (by show (0 : Int) < 16; decide), d, _, rfl, DPut.k (k := .inl ((0 + (i : Int)) * (0 + (i : Int)) % 16)) hd1 (small1000 (by omega)), ?_⟩
    refine ⟨_, _, rfl, fun b hb => by rw [upd_ne hb]; exact sm b hb, upd_same, Nat.le_trans (length_putK _ _ _) (by omega), fun r => ?_⟩
    rw [valV_put]
    constructor
    · intro z
      split at z
      · next e =>
        refine ⟨i, Nat.lt_succ_self i, ?_⟩
        have e' := Sum.inl.inj e
        rw [e', Int.zero_add]
        rfl
      · obtain ⟨w, w1, w2⟩ := (all r).mp z
        exact ⟨w, by omega, w2⟩
    · rintro ⟨w, w1, w2⟩
      split
      · rfl
      · next e =>
        rcases (show w < i ∨ w = i by omega) with h | h
        · exact (all r).mpr ⟨w, h, w2⟩
        · subst h
          exact absurd (congrArg Sum.inl (by rw [Int.zero_add]; exact w2.symm)) e
  rintro σ H1 ⟨w, kvs, rfl, sm, hd1, kl, all⟩
  have gd : Same H H1 := fun b o z => by rw [sm b (ne_of_none z hd)]; exact z
  have no : ∀ (i j : Nat), i < 16 → j < 16 → 1 ≤ i % 2 + j % 2 → ¬ (valV kvs (.inl ((x * (0 + (i : Int)) * (0 + (i : Int)) + y * (0 + (j : Int)) * (0 + (j : Int))) % 16))).isSome = true := fun i j hi hj k c => by
    obtain ⟨w, w1, w2⟩ := (all _).mp c
    rw [Int.zero_add, Int.zero_add] at w2
    exact nf ⟨i, j, hi, hj, k, w, w1, w2⟩
  refine ⟨16, rfl, by decide, by decide, for_range (fun i σ H' => ∃ (y' z' : Option V), σ = [some (.int x), some (.int y), some (.ref d), w, y', z'] ∧ H1 = H') ⟨none, none, rfl, rfl⟩ ?_ ?_⟩
  · rintro i σ H' hi0 ⟨y', z', rfl, rfl⟩
    have hi : i < 16 := hi0
    refine ⟨16, rfl, by decide, by decide, for_range (fun j σ H' => ∃ (z' : Option V), σ = [some (.int x), some (.int y), some (.ref d), w, some (.int (0 + (i : Int))), z'] ∧ H1 = H') ⟨z', rfl, rfl⟩ ?_ ?_⟩
    · rintro j σ H' hj0 ⟨z', rfl, rfl⟩
      have hj : j < 16 := hj0
      by_cases hA : 0 < i % 2
      · have hA' : 0 < (0 + (i : Int)) % 2 := by omega
        refine ⟨_, rfl, _, _, rfl, rfl, (by show (0 : Int) < 2; decide), _, _, rfl, rfl, _, rfl, iteE (decide_eq_true hA') (iteT ?_)⟩
        refine ⟨_, rfl, _, rfl, _, _, rfl, rfl, mulS (by omega) (by omega), _, rfl, _, _, rfl, rfl, mulS (by omega) (by omega), _, rfl, _, rfl, _, _, rfl, rfl, mulS (by omega) (by omega), _, rfl, _, _, rfl, rfl, mulS (by omega) (by omega), _, _, rfl, rfl, _, _, rfl, rfl, (by show (0 : Int) < 16; decide), _, rfl, d, _, rfl, DGet.k (k := .inl ((x * (0 + (i : Int)) * (0 + (i : Int)) + y * (0 + (j : Int)) * (0 + (j : Int))) % 16)) hd1, _, rfl, ?_⟩
        refine ite2 (fun c => absurd c (no i j hi hj (by omega))) (fun c => ⟨_, rfl, rfl⟩)
      · have hA' : ¬ 0 < (0 + (i : Int)) % 2 := by omega
        refine ⟨_, rfl, _, _, rfl, rfl, (by show (0 : Int) < 2; decide), _, _, rfl, rfl, _, rfl, iteDF hA' ⟨_, rfl, _, _, rfl, rfl, (by show (0 : Int) < 2; decide), _, _, rfl, rfl, _, rfl, ?_⟩⟩
        by_cases hB : 0 < j % 2
        · have hB' : 0 < (0 + (j : Int)) % 2 := by omega
          refine iteE (decide_eq_true hB') ?_
          refine ⟨_, rfl, _, rfl, _, _, rfl, rfl, mulS (by omega) (by omega), _, rfl, _, _, rfl, rfl, mulS (by omega) (by omega), _, rfl, _, rfl, _, _, rfl, rfl, mulS (by omega) (by omega), _, rfl, _, _, rfl, rfl, mulS (by omega) (by omega), _, _, rfl, rfl, _, _, rfl, rfl, (by show (0 : Int) < 16; decide), _, rfl, d, _, rfl, DGet.k (k := .inl ((x * (0 + (i : Int)) * (0 + (i : Int)) + y * (0 + (j : Int)) * (0 + (j : Int))) % 16)) hd1, _, rfl, ?_⟩
          refine ite2 (fun c => absurd c (no i j hi hj (by omega))) (fun c => ⟨_, rfl, rfl⟩)
        · have hB' : ¬ 0 < (0 + (j : Int)) % 2 := by omega
          exact iteDF hB' (iteF ⟨_, rfl, rfl⟩)
    · rintro σ H' ⟨z', rfl, rfl⟩
      exact ⟨_, _, rfl, rfl⟩
  · rintro σ H' ⟨y', z', rfl, rfl⟩
    exact q _ gd
theorem ok_no_point {f : Addr} {fd : FuncData} (F : Fun K "_law_no_point" "_law_no_point" s_no_point f fd) (T : Txt K mg t) (H_whole : Has P w K mg base CX0 1 "_law_whole" ["_law_found"] (spWhole)) (H_none_by_16 : Has P w K mg base CX0 1 "_law_none_by_16" ["_law_a", "_law_b"] (spNone16)) (H_root : Has P w K mg base CX0 1 "_law_root" ["_law_number", "_law_prime"] (spRootB)) : FnOk P w K mg base CX0 2 f fd ["_law_a", "_law_b", "_law_place"] (spNoPt) := by
  obtain ⟨f_whole, d_whole, G_whole, b_whole, k_whole, m_whole⟩ := H_whole
  obtain ⟨f_none_by_16, d_none_by_16, G_none_by_16, b_none_by_16, k_none_by_16, m_none_by_16⟩ := H_none_by_16
  obtain ⟨f_root, d_root, G_root, b_root, k_root, m_root⟩ := H_root
  refine F.ok sc_no_point (fun vs H Q E h => ?_) (fun cdv A outer s H vs Q E hr h => ?_)
  · obtain ⟨_, _, _, rfl, _⟩ := h
    rfl
  obtain ⟨a, b, p, rfl, sa, sb, a6, b6, pq, at1, ways, q⟩ := h
  have hr_whole := hr.mono (show 1 ≤ 1 by decide)
  have hr_none_by_16 := hr.mono (show 1 ≤ 1 by decide)
  have hr_root := hr.mono (show 1 ≤ 1 by decide)
  have p0 : 0 ≤ p := by
    rcases ways with z | z | z
    · omega
    · omega
    · have := p17_lt p z
      omega
  obtain ⟨es, p1, p2, p3, p4, hes, e⟩ : ∃ (es : List Expr) (p1 p2 p3 p4 : Pos), IntsE es P17 ∧ defBody s_no_point = (defBody s_no_point).getD 0 (.Pass ⟨0, 0, 0, 0⟩) :: (defBody s_no_point).getD 1 (.Pass ⟨0, 0, 0, 0⟩) :: (defBody s_no_point).getD 2 (.Pass ⟨0, 0, 0, 0⟩) :: .If (.Compare (.Name "_law_place" p1) [.NotIn] [.List es p2] p3) b17 [] p4 :: (defBody s_no_point).drop 4 :=
    ⟨_, _, _, _, _, (.cons (.cons (.cons (.cons (.cons (.cons (.cons (.cons (.cons (.cons (.cons (.cons (.cons (.cons (.cons (.cons (.cons .nil))))))))))))))))), rfl⟩
  rw [e]
  refine ⟨_, pss_cons (ps_if (PW.pt (pw_or (pt_not (pt_val (pe_call G_whole hr_whole rfl m_whole k_whole b_whole .nil pass0 (pa_cons (pv 2) pa_nil)) (fun _ => rfl))) (pw_or1 (pt_cmpR op_lt (pv 2) pe_int (nomark _))))) (pss_one (ps_ret pe_bl)) pss_nil)
    (pss_cons (ps_if (pt_cmpR op_eq (pv 2) pe_int (nomark _)) (pss_one (ps_ret (pe_and (pe_cmpR op_lt (pv 0) pe_int (nomark _)) (pe_one (pe_cmpR op_lt (pv 1) pe_int (nomark _)))))) pss_nil)
    (pss_cons (ps_if (pt_cmpR op_eq (pv 2) pe_int (nomark _)) (pss_one (ps_ret (pe_call G_none_by_16 hr_none_by_16 rfl m_none_by_16 k_none_by_16 b_none_by_16 .nil pass0 (pa_cons (pv 0) (pa_cons (pv 1) pa_nil))))) pss_nil)
    (pss_cons (ps_if (pt_cmpR op_notIn_seq (pv 2) (pe_lst (pa_ints hes)) (by with_unfolding_all rfl)) (pss_one (ps_ret pe_bl)) pss_nil)
    (pss_cons (ps_if (PW.pt (pw_and (pt_cmpR op_eq (pe_op op_mod (pv 0) (pv 2)) pe_int (nomark _)) (pw_and1 (pt_cmpR op_eq (pe_op op_mod (pv 1) (pv 2)) pe_int (nomark _))))) (pss_one (ps_ret (pe_not (pe_call G_root hr_root rfl m_root k_root b_root .nil pass0 (pa_cons (pe_op op_sub pe_int (pe_op op_mulG (pe_op op_fdivL (pv 0) (pv 2)) (pe_op op_fdivL (pv 1) (pv 2)))) (pa_cons (pv 2) pa_nil)))))) pss_nil)
    (pss_cons (ps_if (pt_cmpR op_eq (pe_op op_mod (pv 0) (pv 2)) pe_int (nomark _)) (pss_one (ps_ret (pe_not (pe_call G_root hr_root rfl m_root k_root b_root .nil pass0 (pa_cons (pv 1) (pa_cons (pv 2) pa_nil)))))) pss_nil)
    (pss_one (ps_ret (pe_and (pe_cmpR op_eq (pe_op op_mod (pv 1) (pv 2)) pe_int (nomark _)) (pe_one (pe_not (pe_call G_root hr_root rfl m_root k_root b_root .nil pass0 (pa_cons (pv 0) (pa_cons (pv 2) pa_nil))))))))))))), ?_⟩
  refine ⟨_, rfl, p, rfl, _, rfl, iteF ⟨_, rfl, _, _, rfl, rfl, _, rfl, iteDF (show ¬ p < 0 by omega) ?_⟩⟩
  by_cases z0 : p = 0
  · subst z0
    refine ⟨_, rfl, rfl, _, rfl, iteE (decide_eq_true rfl) ?_⟩
    have e : Jc.At0 a b 0 = Jc.inf a b := if_pos rfl
    rw [e] at at1
    unfold Jc.inf at at1
    have ab : a < 0 ∧ b < 0 := by
      split at at1
      · assumption
      · cases at1
    exact ⟨_, rfl, _, _, rfl, rfl, _, rfl, iteE (decide_eq_true ab.1) ⟨_, rfl, _, _, rfl, rfl, blT (Q := Q) (c := b < 0) ab.2 (q _ (Same.refl _))⟩⟩
  refine ⟨_, rfl, rfl, _, rfl, iteDF (fun z => z0 (int_inj z)) ?_⟩
  by_cases z2 : p = 2
  · subst z2
    refine ⟨_, rfl, rfl, _, rfl, iteE (decide_eq_true rfl) ?_⟩
    exact ⟨_, rfl, _, rfl, a, b, rfl, none16 sa sb at1, fun H' g => q _ g⟩
  refine ⟨_, rfl, rfl, _, rfl, iteDF (fun z => z2 (int_inj z)) ?_⟩
  have pm : p ∈ P17 := ways.resolve_left z0 |>.resolve_left z2
  obtain ⟨p3, p62⟩ := p17_lt p pm
  have hp : Pr.Prm p := by
    rcases pq with z | z | z
    · exact absurd z z0
    · exact absurd z z2
    · exact z.1
  refine ⟨_, rfl, (by show 17 ≤ sizeLine; decide), fun w hw => ⟨w, P17.map V.int, rfl, .inl (SqL.of upd_same), rfl, flat_ints P17, _, rfl, iteFE (by rw [inV_int pm]; rfl) ?_⟩⟩
  have g1 := same_new hw (.lst (P17.map V.int))
  have ma : a % p = 0 ↔ p ∣ a := ⟨Int.dvd_of_emod_eq_zero, Int.emod_eq_zero_of_dvd⟩
  have mb : b % p = 0 ↔ p ∣ b := ⟨Int.dvd_of_emod_eq_zero, Int.emod_eq_zero_of_dvd⟩
  have pp : 0 < p := by omega
  have lg : p.natAbs.log2 < 9000 := Nat.lt_of_lt_of_le (log2_lt_of (k := 64) (by omega) (by decide)) (by decide)
  rcases odd_ways sa sb hp z2 at1 with ⟨l1, l2, e1, e2, nr⟩ | ⟨d1, nd, nr⟩ | ⟨nd, d2, nr⟩
  · have da : p ∣ a := ⟨l1, e1⟩
    have db : p ∣ b := ⟨l2, e2⟩
    have f1 : a.fdiv p = l1 := by rw [e1]; exact Int.mul_fdiv_cancel_left l1 (by omega)
    have f2 : b.fdiv p = l2 := by rw [e2]; exact Int.mul_fdiv_cancel_left l2 (by omega)
    have l16 : l1.natAbs ≤ 1000000 := by
      rw [e1, Int.natAbs_mul] at a6
      exact Nat.le_trans (Nat.le_mul_of_pos_left _ (by omega)) a6
    refine ⟨_, rfl, _, rfl, _, _, rfl, rfl, pp, rfl, _, rfl, iteE (decide_eq_true (congrArg V.int (ma.mpr da))) ⟨_, rfl, _, rfl, _, _, rfl, rfl, pp, rfl, _, rfl, iteE (decide_eq_true (congrArg V.int (mb.mpr db))) ?_⟩⟩
    refine ⟨_, rfl, _, rfl, _, _, rfl, rfl, ⟨by omega, lg⟩, _, rfl, _, rfl, _, _, rfl, rfl, ⟨by omega, lg⟩, _, _, rfl, rfl, small_mul (by show (a.fdiv p).natAbs ≤ 1000000; rw [f1]; exact l16), _, _, rfl, rfl, _, rfl, 0 - l1 * l2, p, (by show [V.int (0 - a.fdiv p * b.fdiv p), V.int p] = _; rw [f1, f2]), p3, by omega, fun t ht => ⟨_, rfl, ?_⟩⟩
    cases t with
    | true => exact absurd (ht.mp rfl) nr
    | false => exact q _ g1
  · have nb : ¬ b % p = 0 := fun z => nd (mb.mp z)
    refine ⟨_, rfl, _, rfl, _, _, rfl, rfl, pp, rfl, _, rfl, iteE (decide_eq_true (congrArg V.int (ma.mpr d1))) ⟨_, rfl, _, rfl, _, _, rfl, rfl, pp, rfl, _, rfl, iteDF (fun z => nb (int_inj z)) ?_⟩⟩
    refine ⟨_, rfl, _, rfl, _, _, rfl, rfl, pp, rfl, _, rfl, iteE (decide_eq_true (congrArg V.int (ma.mpr d1))) ?_⟩
    refine ⟨_, rfl, _, rfl, b, p, rfl, p3, by omega, fun t ht => ⟨_, rfl, ?_⟩⟩
    cases t with
    | true => exact absurd (ht.mp rfl) nr
    | false => exact q _ g1
  · have na : ¬ a % p = 0 := fun z => nd (ma.mp z)
    refine ⟨_, rfl, _, rfl, _, _, rfl, rfl, pp, rfl, _, rfl, iteDF (fun z => na (int_inj z)) (iteF ?_)⟩
    refine ⟨_, rfl, _, rfl, _, _, rfl, rfl, pp, rfl, _, rfl, iteDF (fun z => na (int_inj z)) ?_⟩
    refine ⟨_, rfl, _, rfl, _, _, rfl, rfl, pp, rfl, _, rfl, iteE (decide_eq_true (congrArg V.int (mb.mpr d2))) ⟨_, rfl, _, rfl, a, p, rfl, p3, by omega, fun t ht => ⟨_, rfl, ?_⟩⟩⟩
    cases t with
    | true => exact absurd (ht.mp rfl) nr
    | false => exact q _ g1
theorem ok_refused {f : Addr} {fd : FuncData} (F : Fun K "_law_refused" "_law_refused" s_refused f fd) (T : Txt K mg t) (H_pair_point : Has P w K mg base (XF P w) 87 "pair_point" ["a", "b"] (spPPX t.c13)) (H_alone : Has P w K mg base CX0 1 "_law_alone" ["_law_e", "_law_sort"] (spAloneS t.c13 13)) : FnOk P w K mg base CX0 88 f fd ["_law_a", "_law_b"] (spRef32) := by
  obtain ⟨f_pair_point, d_pair_point, G_pair_point, b_pair_point, k_pair_point, m_pair_point⟩ := H_pair_point
  obtain ⟨f_alone, d_alone, G_alone, b_alone, k_alone, m_alone⟩ := H_alone
  refine F.ok sc_refused (fun vs H Q E h => ?_) (fun cdv A outer s H vs Q E hr h => ?_)
  · obtain ⟨_, _, rfl, _⟩ := h
    rfl
  obtain ⟨a, b, rfl, a6, b6, np, q⟩ := h
  have hr_pair_point := hr.mono (show 87 ≤ 87 by decide)
  have hr_alone := hr.mono (show 1 ≤ 87 by decide)
  refine ⟨_, pss_cons (ps_set (i := 2) sc_refused.nd rfl (Or.inl rfl) pe_non)
    (pss_cons (ps_tryAs2 (i := 3) (C := t.c13) G_pair_point hr_pair_point rfl m_pair_point k_pair_point b_pair_point (pa_cons (pv 0) (pa_cons (pv 1) pa_nil)) T.m_CurveError rfl T.x_NotPlain T.x_CurveError T.u_NotPlain sc_refused.nd rfl rfl (fun ea => pss_one (ps_set (i := 2) sc_refused.nd rfl (Or.inl rfl) (pv 3))))
    (pss_one (ps_ret (pe_call G_alone hr_alone rfl m_alone k_alone b_alone .nil pass0 (pa_cons (pv 2) (pa_cons pe_int pa_nil)))))), ?_⟩
  refine ⟨_, rfl, _, rfl, a, b, rfl, a6, b6, fun _ H1 g1 => ⟨rfl, fun e he => ?_⟩, fun x y => absurd ⟨x, y⟩ np⟩
  refine ⟨_, rfl, ?_⟩
  exact ⟨_, rfl, e, rfl, upd_same, fun H' g => q H' (g1.trans ((same_new he _).trans g))⟩
theorem ok_law {f : Addr} {fd : FuncData} (F : Fun K "law" "law" s_law f fd) (T : Txt K mg t) (H_cell_at : Has P w K mg base CX0 1 "_law_cell_at" ["_law_script", "_law_k"] (spCell K)) (H_picked : Has P w K mg base CX0 2 "_law_picked" ["_law_script", "_law_start", "_law_turn", "_law_most"] (spPickM K)) (H_pair_point : Has P w K mg base (XF P w) 87 "pair_point" ["a", "b"] (spPPX t.c13)) (H_point : Has P w K mg base CX0 2 "_law_point" ["_law_found", "_law_a", "_law_b"] (spPointT)) (H_no_point : Has P w K mg base CX0 2 "_law_no_point" ["_law_a", "_law_b", "_law_place"] (spNoPt)) (H_churn : Has P w K mg base CX0 1 "_law_churn" ["_law_cell", "_law_turn"] (spChurn)) (H_refused : Has P w K mg base CX0 88 "_law_refused" ["_law_a", "_law_b"] (spRef32)) : FnOk P w K mg base CX0 89 f fd ["_law_script"] (spLaw K) := by
  obtain ⟨f_cell_at, d_cell_at, G_cell_at, b_cell_at, k_cell_at, m_cell_at⟩ := H_cell_at
  obtain ⟨f_picked, d_picked, G_picked, b_picked, k_picked, m_picked⟩ := H_picked
  obtain ⟨f_pair_point, d_pair_point, G_pair_point, b_pair_point, k_pair_point, m_pair_point⟩ := H_pair_point
  obtain ⟨f_point, d_point, G_point, b_point, k_point, m_point⟩ := H_point
  obtain ⟨f_no_point, d_no_point, G_no_point, b_no_point, k_no_point, m_no_point⟩ := H_no_point
  obtain ⟨f_churn, d_churn, G_churn, b_churn, k_churn, m_churn⟩ := H_churn
  obtain ⟨f_refused, d_refused, G_refused, b_refused, k_refused, m_refused⟩ := H_refused
  refine F.ok sc_law (fun vs H Q E h => ?_) (fun cdv A outer s H vs Q E hr h => ?_)
  · obtain ⟨a, ns, rfl, _⟩ := h
    rfl
  obtain ⟨l, ns, rfl, hS, h63, hb, q⟩ := h
  have hr_cell_at := hr.mono (show 1 ≤ 88 by decide)
  have hr_picked := hr.mono (show 2 ≤ 88 by decide)
  have hr_pair_point := hr.mono (show 87 ≤ 88 by decide)
  have hr_point := hr.mono (show 2 ≤ 88 by decide)
  have hr_no_point := hr.mono (show 2 ≤ 88 by decide)
  have hr_churn := hr.mono (show 1 ≤ 88 by decide)
  have hr_refused := hr.mono (show 88 ≤ 88 by decide)
  refine ⟨_, pss_cons (ps_set (i := 1) sc_law.nd rfl (Or.inl rfl) (pe_ix ix_list (pe_lst (pa_cons pe_int (pa_cons (pe_op op_pow pe_int pe_int) (pa_cons (pe_op op_pow pe_int pe_int) pa_nil)))) (pe_op op_mod (pe_call G_cell_at hr_cell_at rfl m_cell_at k_cell_at b_cell_at .nil pass0 (pa_cons (pv 0) (pa_cons pe_int pa_nil))) pe_int) (fun _ _ => rfl)))
    (pss_cons (ps_set (i := 2) sc_law.nd rfl (Or.inl rfl) (pe_call G_picked hr_picked rfl m_picked k_picked b_picked .nil pass0 (pa_cons (pv 0) (pa_cons pe_int (pa_cons pe_int (pa_cons (pv 1) pa_nil))))))
    (pss_cons (ps_set (i := 3) sc_law.nd rfl (Or.inl rfl) (pe_call G_picked hr_picked rfl m_picked k_picked b_picked .nil pass0 (pa_cons (pv 0) (pa_cons pe_int (pa_cons pe_int (pa_cons (pv 1) pa_nil))))))
    (pss_cons (ps_set (i := 4) sc_law.nd rfl (Or.inl rfl) (pe_call G_pair_point hr_pair_point rfl m_pair_point k_pair_point b_pair_point .nil passF (pa_cons (pv 2) (pa_cons (pv 3) pa_nil))))
    (pss_cons (ps_if (PW.pt (pw_or (pt_not (pt_val (pe_callB call_isi rfl T.z_isinstance b_isi (pa_cons (pv 4) (pa_cons (pe_bltn (v := .ty "tuple") rfl T.z_tuple b_tuple rfl) pa_nil))) (fun _ => rfl))) (pw_or1 (pt_cmpR op_notIn_seq (pe_callB call_len_seq rfl T.z_len PySem.boot_len (pa_cons (pv 4) pa_nil)) (pe_lst (pa_cons pe_int (pa_cons pe_int pa_nil))) (by with_unfolding_all rfl))))) (pss_one (ps_ret pe_bl)) pss_nil)
    (pss_cut (ps_if (pt_cmpR op_eq (pe_ix ix_tup (pv 4) pe_int (fun _ _ => rfl)) pe_str (nomark _)) (pss_one (ps_if (PW.pt (pw_or (pt_cmpR op_ne (pe_callB call_len_seq rfl T.z_len PySem.boot_len (pa_cons (pv 4) pa_nil)) pe_int (nomark _)) (pw_or (pt_not (pt_val (pe_call G_point hr_point rfl m_point k_point b_point .nil pass0 (pa_cons (pe_ix ix_tup (pv 4) pe_int (fun _ _ => rfl)) (pa_cons (pv 2) (pa_cons (pv 3) pa_nil)))) (fun _ => rfl))) (pw_or1 (pt_not (pt_val (pe_callB call_isi rfl T.z_isinstance b_isi (pa_cons (pe_ix ix_tup (pv 4) pe_int (fun _ _ => rfl)) (pa_cons (pe_bltn (v := .ty "list") rfl T.z_list b_list rfl) pa_nil))) (fun _ => rfl))))))) (pss_one (ps_ret pe_bl)) pss_nil)) (pss_one (ps_if (PW.pt (pw_or (pt_cmpR op_ne (pe_ix ix_tup (pv 4) pe_int (fun _ _ => rfl)) pe_str (nomark _)) (pw_or (pt_cmpR op_ne (pe_callB call_len_seq rfl T.z_len PySem.boot_len (pa_cons (pv 4) pa_nil)) pe_int (nomark _)) (pw_or1 (pt_not (pt_val (pe_call G_no_point hr_no_point rfl m_no_point k_no_point b_no_point .nil pass0 (pa_cons (pv 2) (pa_cons (pv 3) (pa_cons (pe_ix ix_tup (pv 4) pe_int (fun _ _ => rfl)) pa_nil)))) (fun _ => rfl))))))) (pss_one (ps_ret pe_bl)) pss_nil)))
    (pss_cons (ps_set (i := 5) sc_law.nd rfl (Or.inl rfl) (pe_op op_add pe_int (pe_op op_mod (pe_call G_churn hr_churn rfl m_churn k_churn b_churn .nil pass0 (pa_cons (pe_call G_cell_at hr_cell_at rfl m_cell_at k_cell_at b_cell_at .nil pass0 (pa_cons (pv 0) (pa_cons pe_int pa_nil))) (pa_cons pe_int pa_nil))) pe_int)))
    (pss_cons (ps_set (i := 6) sc_law.nd rfl (Or.inl rfl) (pe_lst (pa_cons pe_int (pa_cons (pe_op op_mulG (pv 5) (pv 5)) (pa_cons (pe_op op_sub pe_int (pe_op op_mulG (pe_op op_mulG (pv 5) (pv 5)) (pe_op op_add pe_int (pe_op op_mod (pe_call G_churn hr_churn rfl m_churn k_churn b_churn .nil pass0 (pa_cons (pe_call G_cell_at hr_cell_at rfl m_cell_at k_cell_at b_cell_at .nil pass0 (pa_cons (pv 0) (pa_cons pe_int pa_nil))) (pa_cons pe_int pa_nil))) pe_int)))) pa_nil)))))
    (pss_cons (ps_set (i := 6) sc_law.nd rfl (Or.inl rfl) (pe_ix ix_list (pv 6) (pe_op op_mod (pe_call G_churn hr_churn rfl m_churn k_churn b_churn .nil pass0 (pa_cons (pe_call G_cell_at hr_cell_at rfl m_cell_at k_cell_at b_cell_at .nil pass0 (pa_cons (pv 0) (pa_cons pe_int pa_nil))) (pa_cons pe_int pa_nil))) pe_int) (fun _ _ => rfl)))
    (pss_cons (ps_if (PW.pt (pw_or (pt_not (pt_val (pe_call G_refused hr_refused rfl m_refused k_refused b_refused .nil pass0 (pa_cons (pv 2) (pa_cons (pv 6) pa_nil))) (fun _ => rfl))) (pw_or (pt_not (pt_val (pe_call G_refused hr_refused rfl m_refused k_refused b_refused .nil pass0 (pa_cons (pv 6) (pa_cons (pv 3) pa_nil))) (fun _ => rfl))) (pw_or1 (pt_not (pt_val (pe_call G_refused hr_refused rfl m_refused k_refused b_refused .nil pass0 (pa_cons (pv 6) (pa_cons pe_int pa_nil))) (fun _ => rfl))))))) (pss_one (ps_ret pe_bl)) pss_nil)
    (pss_one (ps_ret (pe_and (pe_call G_refused hr_refused rfl m_refused k_refused b_refused .nil pass0 (pa_cons (pv 6) (pa_cons (pe_op op_sub pe_int (pv 6)) pa_nil))) (pe_one (pe_call G_refused hr_refused rfl m_refused k_refused b_refused .nil pass0 (pa_cons pe_int (pa_cons (pv 6) pa_nil)))))))))))))))), ?_⟩
  obtain ⟨M, eM, M0, M1⟩ := at3p (ns.getD (0 : Int).toNat 0)
  refine ⟨_, _, rfl, rfl, ⟨by decide, by decide, by decide⟩, _, _, rfl, rfl, ⟨by decide, by decide, by decide⟩, (by show 3 ≤ sizeLine; decide), fun w hw => ?_⟩
  have g0 := same_new hw (.lst [.int 30, .int (10 ^ Int.toNat 6), .int (10 ^ Int.toNat 6)])
  refine ⟨_, rfl, l, ns, 0, rfl, g0.seq hS, by decide, _, _, rfl, rfl, (by show (0 : Int) < 3; decide), w, _, _, _, rfl, rfl, SqL.of upd_same, eM, ?_⟩
  refine ⟨_, rfl, _, rfl, l, ns, 2, 1, M, rfl, g0.seq hS, by decide, by decide, by decide, by decide, M0, M1, fun a H1 g1 sa aM ma => ?_⟩
  have g01 := g0.trans g1
  refine ⟨_, rfl, _, rfl, l, ns, 12, 2, M, rfl, g01.seq hS, by decide, by decide, by decide, by decide, M0, M1, fun b H2 g2 sb bM mb => ?_⟩
  have g02 := g01.trans g2
  have a6 : a.natAbs ≤ 1000000 := by omega
  have b6 : b.natAbs ≤ 1000000 := by omega
  have tp := bd2_top sa.n0 sb.n0 a6 b6
  refine ⟨_, rfl, _, rfl, a, b, rfl, a6, b6, fun z => absurd ⟨sf_iff.mpr sa, sf_iff.mpr sb⟩ z, fun _ _ => ⟨a, b, rfl, sa, sb, a6, b6, ?_, ?_⟩⟩
  · intro t p s x y z X Y Z d us ss H3 _ g3 fs ht hp o3 p3 eq hs sat ln ch d0 ex ey ez sm
    refine ⟨_, rfl, _, _, _, _, rfl, .inr ⟨_, rfl⟩, .of (.tup ht), rfl, _, rfl, iteF ?_⟩
    refine ⟨_, rfl, t, _, rfl, .inr (SqT.of ht), (by show 2 ≤ sizeLine; decide), fun v hv => ⟨v, _, rfl, .inl (SqL.of upd_same), rfl, rfl, _, rfl, iteFE rfl ?_⟩⟩
    have g4 := same_new hv (.lst [.int 2, .int 3])
    have ht4 := g4 _ _ ht
    have hp4 : Sq3 _ p x y z := g4 _ _ hp
    refine ⟨fun σ' H' => σ' = [some (.ref l), some (.int M), some (.int a), some (.int b), some (.ref t), none, none] ∧ Same H H', ?_, ?_⟩
    · refine ⟨_, rfl, t, _, _, _, rfl, rfl, SqT.of ht4, rfl, rfl, _, rfl, iteE (decide_eq_true rfl) ?_⟩
      refine ⟨_, rfl, t, _, rfl, .inr (SqT.of ht4), rfl, _, rfl, iteNS rfl ?_⟩
      refine ⟨_, rfl, t, _, _, _, rfl, rfl, SqT.of ht4, rfl, _, rfl, _, rfl, p, a, b, x, y, z, rfl, hp4, in3_of_sm sm tp d0 ex ey ez, o3, p3, a6, b6, eq, fun H5 g5 => ⟨_, rfl, iteF ?_⟩⟩
      refine ⟨_, rfl, t, _, _, _, rfl, rfl, SqT.of (g5 _ _ ht4), rfl, _, _, _, _, rfl, .inr ⟨_, rfl⟩, .of (.lst (g5 _ _ (g4 _ _ hs))), rfl, _, rfl, iteF ?_⟩
      exact ⟨rfl, g02.trans (g3.trans (g4.trans g5))⟩
    rintro _ H6 ⟨rfl, g6⟩
    refine ⟨_, rfl, l, ns, 1, rfl, g6.seq hS, by decide, _, _, rfl, by decide, by decide, fun u u0 u1 => ⟨_, _, rfl, rfl, (by show (0 : Int) < 9; decide), _, _, rfl, rfl, ?_⟩⟩
    have k0 := Int.emod_nonneg u (show (9 : Int) ≠ 0 by decide)
    have k1 := Int.emod_lt_of_pos u (show (0 : Int) < 9 by decide)
    have mk : ∀ {x : Int}, IntMulOk x (2 + u % 9) := fun {x} => IntMulOk.of_right (intBits_le_64 (by omega) (by omega))
    refine ⟨_, rfl, _, rfl, _, _, rfl, rfl, mk, _, rfl, _, rfl, _, _, rfl, rfl, mk, _, rfl, l, ns, 1, rfl, g6.seq hS, by decide, _, _, rfl, by decide, by decide, fun v v0 v1 => ⟨_, _, rfl, rfl, (by show (0 : Int) < 100; decide), _, _, rfl, rfl, ?_⟩⟩
    have j0 := Int.emod_nonneg v (show (100 : Int) ≠ 0 by decide)
    have j1 := Int.emod_lt_of_pos v (show (0 : Int) < 100 by decide)
    refine ⟨_, _, rfl, rfl, IntMulOk.of_right (intBits_le_64 (by show -(2 ^ 64) < 1 + v % 100; omega) (by show 1 + v % 100 < 2 ^ 64; omega)), _, _, rfl, rfl, (by show 3 ≤ sizeLine; decide), fun pl hpl => ?_⟩
    have sq := Int.mul_le_mul (show 2 + u % 9 ≤ 10 by omega) (show 2 + u % 9 ≤ 10 by omega) (show 0 ≤ 2 + u % 9 by omega) (by decide)
    have sq0 := Int.mul_nonneg (show 0 ≤ 2 + u % 9 by omega) (show 0 ≤ 2 + u % 9 by omega)
    have g7 := g6.trans (same_new hpl (.lst [.int 0, .int ((2 + u % 9) * (2 + u % 9)), .int (0 - (2 + u % 9) * (2 + u % 9) * (1 + v % 100))]))
    refine ⟨_, rfl, _, rfl, l, ns, 1, rfl, g7.seq hS, by decide, _, _, rfl, by decide, by decide, fun w' w0 w1 => ⟨_, _, rfl, rfl, (by show (0 : Int) < 3; decide), ?_⟩⟩
    have i0 := Int.emod_nonneg w' (show (3 : Int) ≠ 0 by decide)
    have i1 := Int.emod_lt_of_pos w' (show (0 : Int) < 3 by decide)
    obtain ⟨o, eo, oo⟩ := at3s (a := 0) (b := (2 + u % 9) * (2 + u % 9)) (c := 0 - (2 + u % 9) * (2 + u % 9) * (1 + v % 100)) i0 i1
    have od : (2 + u % 9) * (2 + u % 9) ∣ o := by
      rcases oo with z | z | z
      · rw [z]; exact Int.dvd_zero _
      · rw [z]; exact Int.dvd_refl _
      · rw [z, Int.zero_sub, Int.dvd_neg]; exact Int.dvd_mul_right _ _
    have o6 : o.natAbs ≤ 1000000 := by
      have m1 := Int.mul_le_mul sq (show 1 + v % 100 ≤ 100 by omega) (show 0 ≤ 1 + v % 100 by omega) (by decide)
      have m0 := Int.mul_nonneg sq0 (show 0 ≤ 1 + v % 100 by omega)
      rcases oo with z | z | z <;> omega
    have ns' := nsq_of (show 2 ≤ 2 + u % 9 by omega) od
    have nsn := nsq_of (show 2 ≤ 2 + u % 9 by omega) (n := 0 - o) (by rw [Int.zero_sub, Int.dvd_neg]; exact od)
    refine ⟨pl, _, _, _, rfl, rfl, SqL.of upd_same, eo, ?_⟩
    refine ⟨_, rfl, _, rfl, a, o, rfl, a6, o6, fun z => ns' z.2, fun H8 g8 => ⟨_, rfl, iteF ⟨_, rfl, _, rfl, o, b, rfl, o6, b6, fun z => ns' z.1, fun H9 g9 => ⟨_, rfl, iteF ⟨_, rfl, o, 1, rfl, o6, by decide, fun z => ns' z.1, fun Ha ga => ⟨_, rfl, iteF ?_⟩⟩⟩⟩⟩⟩
    refine ⟨_, rfl, _, rfl, _, _, rfl, rfl, o, 0 - o, rfl, o6, by omega, fun z => ns' z.1, fun Hb gb => ⟨_, rfl, iteT ⟨_, rfl, 1, o, rfl, by decide, o6, fun z => ns' z.2, fun Hc gc => q _⟩⟩⟩
  · intro t p H3 g3 ht hpq ha
    refine ⟨_, rfl, _, _, _, _, rfl, .inr ⟨_, rfl⟩, .of (.tup ht), rfl, _, rfl, iteF ?_⟩
    refine ⟨_, rfl, t, _, rfl, .inr (SqT.of ht), (by show 2 ≤ sizeLine; decide), fun v hv => ⟨v, _, rfl, .inl (SqL.of upd_same), rfl, rfl, _, rfl, iteFE rfl ?_⟩⟩
    have g4 := same_new hv (.lst [.int 2, .int 3])
    have ht4 := g4 _ _ ht
    refine ⟨fun σ' H' => σ' = [some (.ref l), some (.int M), some (.int a), some (.int b), some (.ref t), none, none] ∧ Same H H', ?_, ?_⟩
    · refine ⟨_, rfl, t, _, _, _, rfl, rfl, SqT.of ht4, rfl, rfl, _, rfl, iteDF (fun z => absurd (V.str.inj z) (by decide +kernel)) ?_⟩
      refine ⟨_, rfl, t, _, _, _, rfl, rfl, SqT.of ht4, rfl, rfl, _, rfl, iteNS rfl ?_⟩
      refine ⟨_, rfl, t, _, rfl, .inr (SqT.of ht4), rfl, _, rfl, iteNS rfl ?_⟩
      have ways : p = 0 ∨ p = 2 ∨ p ∈ P17 := by
        rcases hpq with z | z | ⟨hp, n2, z⟩
        · exact .inl z
        · exact .inr (.inl z)
        · exact .inr (.inr (p17_of p (z.elim (ma p hp) (mb p hp)) n2))
      refine ⟨_, rfl, _, rfl, _, rfl, t, _, _, _, rfl, rfl, SqT.of ht4, rfl, a, b, p, rfl, sa, sb, a6, b6, hpq, ha, ways, fun H5 g5 => ⟨_, rfl, iteF ?_⟩⟩
      exact ⟨rfl, g02.trans (g3.trans (g4.trans g5))⟩
    rintro _ H6 ⟨rfl, g6⟩
    refine ⟨_, rfl, l, ns, 1, rfl, g6.seq hS, by decide, _, _, rfl, by decide, by decide, fun u u0 u1 => ⟨_, _, rfl, rfl, (by show (0 : Int) < 9; decide), _, _, rfl, rfl, ?_⟩⟩
    have k0 := Int.emod_nonneg u (show (9 : Int) ≠ 0 by decide)
    have k1 := Int.emod_lt_of_pos u (show (0 : Int) < 9 by decide)
    have mk : ∀ {x : Int}, IntMulOk x (2 + u % 9) := fun {x} => IntMulOk.of_right (intBits_le_64 (by omega) (by omega))
    refine ⟨_, rfl, _, rfl, _, _, rfl, rfl, mk, _, rfl, _, rfl, _, _, rfl, rfl, mk, _, rfl, l, ns, 1, rfl, g6.seq hS, by decide, _, _, rfl, by decide, by decide, fun v v0 v1 => ⟨_, _, rfl, rfl, (by show (0 : Int) < 100; decide), _, _, rfl, rfl, ?_⟩⟩
    have j0 := Int.emod_nonneg v (show (100 : Int) ≠ 0 by decide)
    have j1 := Int.emod_lt_of_pos v (show (0 : Int) < 100 by decide)
    refine ⟨_, _, rfl, rfl, IntMulOk.of_right (intBits_le_64 (by show -(2 ^ 64) < 1 + v % 100; omega) (by show 1 + v % 100 < 2 ^ 64; omega)), _, _, rfl, rfl, (by show 3 ≤ sizeLine; decide), fun pl hpl => ?_⟩
    have sq := Int.mul_le_mul (show 2 + u % 9 ≤ 10 by omega) (show 2 + u % 9 ≤ 10 by omega) (show 0 ≤ 2 + u % 9 by omega) (by decide)
    have sq0 := Int.mul_nonneg (show 0 ≤ 2 + u % 9 by omega) (show 0 ≤ 2 + u % 9 by omega)
    have g7 := g6.trans (same_new hpl (.lst [.int 0, .int ((2 + u % 9) * (2 + u % 9)), .int (0 - (2 + u % 9) * (2 + u % 9) * (1 + v % 100))]))
    refine ⟨_, rfl, _, rfl, l, ns, 1, rfl, g7.seq hS, by decide, _, _, rfl, by decide, by decide, fun w' w0 w1 => ⟨_, _, rfl, rfl, (by show (0 : Int) < 3; decide), ?_⟩⟩
    have i0 := Int.emod_nonneg w' (show (3 : Int) ≠ 0 by decide)
    have i1 := Int.emod_lt_of_pos w' (show (0 : Int) < 3 by decide)
    obtain ⟨o, eo, oo⟩ := at3s (a := 0) (b := (2 + u % 9) * (2 + u % 9)) (c := 0 - (2 + u % 9) * (2 + u % 9) * (1 + v % 100)) i0 i1
    have od : (2 + u % 9) * (2 + u % 9) ∣ o := by
      rcases oo with z | z | z
      · rw [z]; exact Int.dvd_zero _
      · rw [z]; exact Int.dvd_refl _
      · rw [z, Int.zero_sub, Int.dvd_neg]; exact Int.dvd_mul_right _ _
    have o6 : o.natAbs ≤ 1000000 := by
      have m1 := Int.mul_le_mul sq (show 1 + v % 100 ≤ 100 by omega) (show 0 ≤ 1 + v % 100 by omega) (by decide)
      have m0 := Int.mul_nonneg sq0 (show 0 ≤ 1 + v % 100 by omega)
      rcases oo with z | z | z <;> omega
    have ns' := nsq_of (show 2 ≤ 2 + u % 9 by omega) od
    have nsn := nsq_of (show 2 ≤ 2 + u % 9 by omega) (n := 0 - o) (by rw [Int.zero_sub, Int.dvd_neg]; exact od)
    refine ⟨pl, _, _, _, rfl, rfl, SqL.of upd_same, eo, ?_⟩
    refine ⟨_, rfl, _, rfl, a, o, rfl, a6, o6, fun z => ns' z.2, fun H8 g8 => ⟨_, rfl, iteF ⟨_, rfl, _, rfl, o, b, rfl, o6, b6, fun z => ns' z.1, fun H9 g9 => ⟨_, rfl, iteF ⟨_, rfl, o, 1, rfl, o6, by decide, fun z => ns' z.1, fun Ha ga => ⟨_, rfl, iteF ?_⟩⟩⟩⟩⟩⟩
    refine ⟨_, rfl, _, rfl, _, _, rfl, rfl, o, 0 - o, rfl, o6, by omega, fun z => ns' z.1, fun Hb gb => ⟨_, rfl, iteT ⟨_, rfl, 1, o, rfl, by decide, o6, fun z => ns' z.2, fun Hc gc => q _⟩⟩⟩

end
theorem all_mk {l : PySem.W.OpenLaw} {w : World} {K : PySem.W.Frag} {h : Heap} {mg : Str → Option Value} {fa qce qc0 qc1 qc2 qc3 qc4 qc5 qc6 qc7 qc8 qc9 qc10 qc11 qc12 qc13 qc14 : Addr} (X : K.In h) (G : h.Ns mainGlobals mg) (hfa : mg "law" = some (.ref fa))
    {f1 f2 f3 f4 f5 f6 f7 f8 f9 f10 f11 f12 f13 f14 f15 f16 f17 f18 f19 f20 f21 f22 f23 f24 f25 f26 f27 f28 f29 f30 f31 f32 f33 f34 f35 f36 f37 f38 f39 f40 f41 f42 : Addr} {od1 an1 od2 an2 od3 an3 od4 an4 od5 an5 od6 an6 od7 an7 od8 an8 od9 an9 od10 an10 od11 an11 od12 an12 od13 an13 od14 an14 od15 an15 od16 an16 od17 an17 od18 an18 od19 an19 od20 an20 od21 an21 od22 an22 od23 an23 od24 an24 od25 an25 od26 an26 od27 an27 od28 an28 od29 an29 od30 an30 od31 an31 od32 an32 od33 an33 od34 an34 od35 an35 od36 an36 od37 an37 od38 an38 od39 an39 od40 an40 od41 an41 od42 an42 : Option Addr} {sl1 sl2 sl3 sl4 sl5 sl6 sl7 sl8 sl9 sl10 sl11 sl12 sl13 sl14 sl15 sl16 sl17 sl18 sl19 sl20 sl21 sl22 sl23 sl24 sl25 sl26 sl27 sl28 sl29 sl30 sl31 sl32 sl33 sl34 sl35 sl36 sl37 sl38 sl39 sl40 sl41 sl42 : Array (Option Value)} {oc1 kV1 dc1 pm1 cd1 ct1 oc2 kV2 dc2 pm2 cd2 ct2 oc3 kV3 dc3 pm3 cd3 ct3 oc4 kV4 dc4 pm4 cd4 ct4 oc5 kV5 dc5 pm5 cd5 ct5 oc6 kV6 dc6 pm6 cd6 ct6 oc7 kV7 dc7 pm7 cd7 ct7 oc8 kV8 dc8 pm8 cd8 ct8 oc9 kV9 dc9 pm9 cd9 ct9 oc10 kV10 dc10 pm10 cd10 ct10 oc11 kV11 dc11 pm11 cd11 ct11 oc12 kV12 dc12 pm12 cd12 ct12 oc13 kV13 dc13 pm13 cd13 ct13 oc14 kV14 dc14 pm14 cd14 ct14 oc15 kV15 dc15 pm15 cd15 ct15 oc16 kV16 dc16 pm16 cd16 ct16 oc17 kV17 dc17 pm17 cd17 ct17 oc18 kV18 dc18 pm18 cd18 ct18 oc19 kV19 dc19 pm19 cd19 ct19 oc20 kV20 dc20 pm20 cd20 ct20 oc21 kV21 dc21 pm21 cd21 ct21 oc22 kV22 dc22 pm22 cd22 ct22 oc23 kV23 dc23 pm23 cd23 ct23 oc24 kV24 dc24 pm24 cd24 ct24 oc25 kV25 dc25 pm25 cd25 ct25 oc26 kV26 dc26 pm26 cd26 ct26 oc27 kV27 dc27 pm27 cd27 ct27 oc28 kV28 dc28 pm28 cd28 ct28 oc29 kV29 dc29 pm29 cd29 ct29 oc30 kV30 dc30 pm30 cd30 ct30 oc31 kV31 dc31 pm31 cd31 ct31 oc32 kV32 dc32 pm32 cd32 ct32 oc33 kV33 dc33 pm33 cd33 ct33 oc34 kV34 dc34 pm34 cd34 ct34 oc35 kV35 dc35 pm35 cd35 ct35 oc36 kV36 dc36 pm36 cd36 ct36 oc37 kV37 dc37 pm37 cd37 ct37 oc38 kV38 dc38 pm38 cd38 ct38 oc39 kV39 dc39 pm39 cd39 ct39 oc40 kV40 dc40 pm40 cd40 ct40 oc41 kV41 dc41 pm41 cd41 ct41 oc42 kV42 dc42 pm42 cd42 ct42 : Value}
    (a1 : PySem.W.nsIn K mainGlobals "taken_out" = some (some (.ref f1))) (l1 : K.lookup f1 = some ⟨oc1, od1, .func (PySem.W.fnOf "taken_out" "taken_out" (defArgs s_taken_out) (defBody s_taken_out) (defScope s_taken_out) .none kV1 dc1 pm1 an1 cd1 ct1), sl1⟩) (g1 : PySem.W.codeIn K cd1 "taken_out" = true) (k1 : PySem.W.keepIn K (.ref f1) = true)
    (a2 : PySem.W.nsIn K mainGlobals "divisor_after" = some (some (.ref f2))) (l2 : K.lookup f2 = some ⟨oc2, od2, .func (PySem.W.fnOf "divisor_after" "divisor_after" (defArgs s_divisor_after) (defBody s_divisor_after) (defScope s_divisor_after) .none kV2 dc2 pm2 an2 cd2 ct2), sl2⟩) (g2 : PySem.W.codeIn K cd2 "divisor_after" = true) (k2 : PySem.W.keepIn K (.ref f2) = true)
    (a3 : PySem.W.nsIn K mainGlobals "prime_parts" = some (some (.ref f3))) (l3 : K.lookup f3 = some ⟨oc3, od3, .func (PySem.W.fnOf "prime_parts" "prime_parts" (defArgs s_prime_parts) (defBody s_prime_parts) (defScope s_prime_parts) .none kV3 dc3 pm3 an3 cd3 ct3), sl3⟩) (g3 : PySem.W.codeIn K cd3 "prime_parts" = true) (k3 : PySem.W.keepIn K (.ref f3) = true)
    (a4 : PySem.W.nsIn K mainGlobals "core_of" = some (some (.ref f4))) (l4 : K.lookup f4 = some ⟨oc4, od4, .func (PySem.W.fnOf "core_of" "core_of" (defArgs s_core_of) (defBody s_core_of) (defScope s_core_of) .none kV4 dc4 pm4 an4 cd4 ct4), sl4⟩) (g4 : PySem.W.codeIn K cd4 "core_of" = true) (k4 : PySem.W.keepIn K (.ref f4) = true)
    (a5 : PySem.W.nsIn K mainGlobals "is_without_squares" = some (some (.ref f5))) (l5 : K.lookup f5 = some ⟨oc5, od5, .func (PySem.W.fnOf "is_without_squares" "is_without_squares" (defArgs s_is_without_squares) (defBody s_is_without_squares) (defScope s_is_without_squares) .none kV5 dc5 pm5 an5 cd5 ct5), sl5⟩) (g5 : PySem.W.codeIn K cd5 "is_without_squares" = true) (k5 : PySem.W.keepIn K (.ref f5) = true)
    (a6 : PySem.W.nsIn K mainGlobals "power_by" = some (some (.ref f6))) (l6 : K.lookup f6 = some ⟨oc6, od6, .func (PySem.W.fnOf "power_by" "power_by" (defArgs s_power_by) (defBody s_power_by) (defScope s_power_by) .none kV6 dc6 pm6 an6 cd6 ct6), sl6⟩) (g6 : PySem.W.codeIn K cd6 "power_by" = true) (k6 : PySem.W.keepIn K (.ref f6) = true)
    (a7 : PySem.W.nsIn K mainGlobals "sign_of_two" = some (some (.ref f7))) (l7 : K.lookup f7 = some ⟨oc7, od7, .func (PySem.W.fnOf "sign_of_two" "sign_of_two" (defArgs s_sign_of_two) (defBody s_sign_of_two) (defScope s_sign_of_two) .none kV7 dc7 pm7 an7 cd7 ct7), sl7⟩) (g7 : PySem.W.codeIn K cd7 "sign_of_two" = true) (k7 : PySem.W.keepIn K (.ref f7) = true)
    (a8 : PySem.W.nsIn K mainGlobals "sign_of_turn" = some (some (.ref f8))) (l8 : K.lookup f8 = some ⟨oc8, od8, .func (PySem.W.fnOf "sign_of_turn" "sign_of_turn" (defArgs s_sign_of_turn) (defBody s_sign_of_turn) (defScope s_sign_of_turn) .none kV8 dc8 pm8 an8 cd8 ct8), sl8⟩) (g8 : PySem.W.codeIn K cd8 "sign_of_turn" = true) (k8 : PySem.W.keepIn K (.ref f8) = true)
    (a9 : PySem.W.nsIn K mainGlobals "sign_by" = some (some (.ref f9))) (l9 : K.lookup f9 = some ⟨oc9, od9, .func (PySem.W.fnOf "sign_by" "sign_by" (defArgs s_sign_by) (defBody s_sign_by) (defScope s_sign_by) .none kV9 dc9 pm9 an9 cd9 ct9), sl9⟩) (g9 : PySem.W.codeIn K cd9 "sign_by" = true) (k9 : PySem.W.keepIn K (.ref f9) = true)
    (a10 : PySem.W.nsIn K mainGlobals "row_less" = some (some (.ref f10))) (l10 : K.lookup f10 = some ⟨oc10, od10, .func (PySem.W.fnOf "row_less" "row_less" (defArgs s_row_less) (defBody s_row_less) (defScope s_row_less) .none kV10 dc10 pm10 an10 cd10 ct10), sl10⟩) (g10 : PySem.W.codeIn K cd10 "row_less" = true) (k10 : PySem.W.keepIn K (.ref f10) = true)
    (a11 : PySem.W.nsIn K mainGlobals "shares_of" = some (some (.ref f11))) (l11 : K.lookup f11 = some ⟨oc11, od11, .func (PySem.W.fnOf "shares_of" "shares_of" (defArgs s_shares_of) (defBody s_shares_of) (defScope s_shares_of) .none kV11 dc11 pm11 an11 cd11 ct11), sl11⟩) (g11 : PySem.W.codeIn K cd11 "shares_of" = true) (k11 : PySem.W.keepIn K (.ref f11) = true)
    (a12 : PySem.W.nsIn K mainGlobals "sign_at_two" = some (some (.ref f12))) (l12 : K.lookup f12 = some ⟨oc12, od12, .func (PySem.W.fnOf "sign_at_two" "sign_at_two" (defArgs s_sign_at_two) (defBody s_sign_at_two) (defScope s_sign_at_two) .none kV12 dc12 pm12 an12 cd12 ct12), sl12⟩) (g12 : PySem.W.codeIn K cd12 "sign_at_two" = true) (k12 : PySem.W.keepIn K (.ref f12) = true)
    (a13 : PySem.W.nsIn K mainGlobals "sign_at_odd" = some (some (.ref f13))) (l13 : K.lookup f13 = some ⟨oc13, od13, .func (PySem.W.fnOf "sign_at_odd" "sign_at_odd" (defArgs s_sign_at_odd) (defBody s_sign_at_odd) (defScope s_sign_at_odd) .none kV13 dc13 pm13 an13 cd13 ct13), sl13⟩) (g13 : PySem.W.codeIn K cd13 "sign_at_odd" = true) (k13 : PySem.W.keepIn K (.ref f13) = true)
    (a14 : PySem.W.nsIn K mainGlobals "sign_at" = some (some (.ref f14))) (l14 : K.lookup f14 = some ⟨oc14, od14, .func (PySem.W.fnOf "sign_at" "sign_at" (defArgs s_sign_at) (defBody s_sign_at) (defScope s_sign_at) .none kV14 dc14 pm14 an14 cd14 ct14), sl14⟩) (g14 : PySem.W.codeIn K cd14 "sign_at" = true) (k14 : PySem.W.keepIn K (.ref f14) = true)
    (a15 : PySem.W.nsIn K mainGlobals "places_in_question" = some (some (.ref f15))) (l15 : K.lookup f15 = some ⟨oc15, od15, .func (PySem.W.fnOf "places_in_question" "places_in_question" (defArgs s_places_in_question) (defBody s_places_in_question) (defScope s_places_in_question) .none kV15 dc15 pm15 an15 cd15 ct15), sl15⟩) (g15 : PySem.W.codeIn K cd15 "places_in_question" = true) (k15 : PySem.W.keepIn K (.ref f15) = true)
    (a16 : PySem.W.nsIn K mainGlobals "places_without_point" = some (some (.ref f16))) (l16 : K.lookup f16 = some ⟨oc16, od16, .func (PySem.W.fnOf "places_without_point" "places_without_point" (defArgs s_places_without_point) (defBody s_places_without_point) (defScope s_places_without_point) .none kV16 dc16 pm16 an16 cd16 ct16), sl16⟩) (g16 : PySem.W.codeIn K cd16 "places_without_point" = true) (k16 : PySem.W.keepIn K (.ref f16) = true)
    (a17 : PySem.W.nsIn K mainGlobals "joined_rests" = some (some (.ref f17))) (l17 : K.lookup f17 = some ⟨oc17, od17, .func (PySem.W.fnOf "joined_rests" "joined_rests" (defArgs s_joined_rests) (defBody s_joined_rests) (defScope s_joined_rests) .none kV17 dc17 pm17 an17 cd17 ct17), sl17⟩) (g17 : PySem.W.codeIn K cd17 "joined_rests" = true) (k17 : PySem.W.keepIn K (.ref f17) = true)
    (a18 : PySem.W.nsIn K mainGlobals "has_root" = some (some (.ref f18))) (l18 : K.lookup f18 = some ⟨oc18, od18, .func (PySem.W.fnOf "has_root" "has_root" (defArgs s_has_root) (defBody s_has_root) (defScope s_has_root) .none kV18 dc18 pm18 an18 cd18 ct18), sl18⟩) (g18 : PySem.W.codeIn K cd18 "has_root" = true) (k18 : PySem.W.keepIn K (.ref f18) = true)
    (a19 : PySem.W.nsIn K mainGlobals "least_without_root" = some (some (.ref f19))) (l19 : K.lookup f19 = some ⟨oc19, od19, .func (PySem.W.fnOf "least_without_root" "least_without_root" (defArgs s_least_without_root) (defBody s_least_without_root) (defScope s_least_without_root) .none kV19 dc19 pm19 an19 cd19 ct19), sl19⟩) (g19 : PySem.W.codeIn K cd19 "least_without_root" = true) (k19 : PySem.W.keepIn K (.ref f19) = true)
    (a20 : PySem.W.nsIn K mainGlobals "root_by_odd_prime" = some (some (.ref f20))) (l20 : K.lookup f20 = some ⟨oc20, od20, .func (PySem.W.fnOf "root_by_odd_prime" "root_by_odd_prime" (defArgs s_root_by_odd_prime) (defBody s_root_by_odd_prime) (defScope s_root_by_odd_prime) .none kV20 dc20 pm20 an20 cd20 ct20), sl20⟩) (g20 : PySem.W.codeIn K cd20 "root_by_odd_prime" = true) (k20 : PySem.W.keepIn K (.ref f20) = true)
    (a21 : PySem.W.nsIn K mainGlobals "root_by_prime" = some (some (.ref f21))) (l21 : K.lookup f21 = some ⟨oc21, od21, .func (PySem.W.fnOf "root_by_prime" "root_by_prime" (defArgs s_root_by_prime) (defBody s_root_by_prime) (defScope s_root_by_prime) .none kV21 dc21 pm21 an21 cd21 ct21), sl21⟩) (g21 : PySem.W.codeIn K cd21 "root_by_prime" = true) (k21 : PySem.W.keepIn K (.ref f21) = true)
    (a22 : PySem.W.nsIn K mainGlobals "root_or_prime" = some (some (.ref f22))) (l22 : K.lookup f22 = some ⟨oc22, od22, .func (PySem.W.fnOf "root_or_prime" "root_or_prime" (defArgs s_root_or_prime) (defBody s_root_or_prime) (defScope s_root_or_prime) .none kV22 dc22 pm22 an22 cd22 ct22), sl22⟩) (g22 : PySem.W.codeIn K cd22 "root_or_prime" = true) (k22 : PySem.W.keepIn K (.ref f22) = true)
    (a23 : PySem.W.nsIn K mainGlobals "lowest_point" = some (some (.ref f23))) (l23 : K.lookup f23 = some ⟨oc23, od23, .func (PySem.W.fnOf "lowest_point" "lowest_point" (defArgs s_lowest_point) (defBody s_lowest_point) (defScope s_lowest_point) .none kV23 dc23 pm23 an23 cd23 ct23), sl23⟩) (g23 : PySem.W.codeIn K cd23 "lowest_point" = true) (k23 : PySem.W.keepIn K (.ref f23) = true)
    (a24 : PySem.W.nsIn K mainGlobals "point_of_last" = some (some (.ref f24))) (l24 : K.lookup f24 = some ⟨oc24, od24, .func (PySem.W.fnOf "point_of_last" "point_of_last" (defArgs s_point_of_last) (defBody s_point_of_last) (defScope s_point_of_last) .none kV24 dc24 pm24 an24 cd24 ct24), sl24⟩) (g24 : PySem.W.codeIn K cd24 "point_of_last" = true) (k24 : PySem.W.keepIn K (.ref f24) = true)
    (a25 : PySem.W.nsIn K mainGlobals "turn" = some (some (.ref f25))) (l25 : K.lookup f25 = some ⟨oc25, od25, .func (PySem.W.fnOf "turn" "turn" (defArgs s_turn) (defBody s_turn) (defScope s_turn) .none kV25 dc25 pm25 an25 cd25 ct25), sl25⟩) (g25 : PySem.W.codeIn K cd25 "turn" = true) (k25 : PySem.W.keepIn K (.ref f25) = true)
    (a26 : PySem.W.nsIn K mainGlobals "point_of_turned" = some (some (.ref f26))) (l26 : K.lookup f26 = some ⟨oc26, od26, .func (PySem.W.fnOf "point_of_turned" "point_of_turned" (defArgs s_point_of_turned) (defBody s_point_of_turned) (defScope s_point_of_turned) .none kV26 dc26 pm26 an26 cd26 ct26), sl26⟩) (g26 : PySem.W.codeIn K cd26 "point_of_turned" = true) (k26 : PySem.W.keepIn K (.ref f26) = true)
    (a27 : PySem.W.nsIn K mainGlobals "step_down" = some (some (.ref f27))) (l27 : K.lookup f27 = some ⟨oc27, od27, .func (PySem.W.fnOf "step_down" "step_down" (defArgs s_step_down) (defBody s_step_down) (defScope s_step_down) .none kV27 dc27 pm27 an27 cd27 ct27), sl27⟩) (g27 : PySem.W.codeIn K cd27 "step_down" = true) (k27 : PySem.W.keepIn K (.ref f27) = true)
    (a28 : PySem.W.nsIn K mainGlobals "point_of_lower" = some (some (.ref f28))) (l28 : K.lookup f28 = some ⟨oc28, od28, .func (PySem.W.fnOf "point_of_lower" "point_of_lower" (defArgs s_point_of_lower) (defBody s_point_of_lower) (defScope s_point_of_lower) .none kV28 dc28 pm28 an28 cd28 ct28), sl28⟩) (g28 : PySem.W.codeIn K cd28 "point_of_lower" = true) (k28 : PySem.W.keepIn K (.ref f28) = true)
    (a29 : PySem.W.nsIn K mainGlobals "walked_down" = some (some (.ref f29))) (l29 : K.lookup f29 = some ⟨oc29, od29, .func (PySem.W.fnOf "walked_down" "walked_down" (defArgs s_walked_down) (defBody s_walked_down) (defScope s_walked_down) .none kV29 dc29 pm29 an29 cd29 ct29), sl29⟩) (g29 : PySem.W.codeIn K cd29 "walked_down" = true) (k29 : PySem.W.keepIn K (.ref f29) = true)
    (a30 : PySem.W.nsIn K mainGlobals "pair_point" = some (some (.ref f30))) (l30 : K.lookup f30 = some ⟨oc30, od30, .func (PySem.W.fnOf "pair_point" "pair_point" (defArgs s_pair_point) (defBody s_pair_point) (defScope s_pair_point) .none kV30 dc30 pm30 an30 cd30 ct30), sl30⟩) (g30 : PySem.W.codeIn K cd30 "pair_point" = true) (k30 : PySem.W.keepIn K (.ref f30) = true)
    (a31 : PySem.W.nsIn K mainGlobals "_law_cell_at" = some (some (.ref f31))) (l31 : K.lookup f31 = some ⟨oc31, od31, .func (PySem.W.fnOf "_law_cell_at" "_law_cell_at" (defArgs s_cell_at) (defBody s_cell_at) (defScope s_cell_at) .none kV31 dc31 pm31 an31 cd31 ct31), sl31⟩) (g31 : PySem.W.codeIn K cd31 "_law_cell_at" = true) (k31 : PySem.W.keepIn K (.ref f31) = true)
    (a32 : PySem.W.nsIn K mainGlobals "_law_churn" = some (some (.ref f32))) (l32 : K.lookup f32 = some ⟨oc32, od32, .func (PySem.W.fnOf "_law_churn" "_law_churn" (defArgs s_churn) (defBody s_churn) (defScope s_churn) .none kV32 dc32 pm32 an32 cd32 ct32), sl32⟩) (g32 : PySem.W.codeIn K cd32 "_law_churn" = true) (k32 : PySem.W.keepIn K (.ref f32) = true)
    (a33 : PySem.W.nsIn K mainGlobals "_law_whole" = some (some (.ref f33))) (l33 : K.lookup f33 = some ⟨oc33, od33, .func (PySem.W.fnOf "_law_whole" "_law_whole" (defArgs s_whole) (defBody s_whole) (defScope s_whole) .none kV33 dc33 pm33 an33 cd33 ct33), sl33⟩) (g33 : PySem.W.codeIn K cd33 "_law_whole" = true) (k33 : PySem.W.keepIn K (.ref f33) = true)
    (a34 : PySem.W.nsIn K mainGlobals "_law_lowest" = some (some (.ref f34))) (l34 : K.lookup f34 = some ⟨oc34, od34, .func (PySem.W.fnOf "_law_lowest" "_law_lowest" (defArgs s_lowest) (defBody s_lowest) (defScope s_lowest) .none kV34 dc34 pm34 an34 cd34 ct34), sl34⟩) (g34 : PySem.W.codeIn K cd34 "_law_lowest" = true) (k34 : PySem.W.keepIn K (.ref f34) = true)
    (a35 : PySem.W.nsIn K mainGlobals "_law_point" = some (some (.ref f35))) (l35 : K.lookup f35 = some ⟨oc35, od35, .func (PySem.W.fnOf "_law_point" "_law_point" (defArgs s_point) (defBody s_point) (defScope s_point) .none kV35 dc35 pm35 an35 cd35 ct35), sl35⟩) (g35 : PySem.W.codeIn K cd35 "_law_point" = true) (k35 : PySem.W.keepIn K (.ref f35) = true)
    (a36 : PySem.W.nsIn K mainGlobals "_law_picked" = some (some (.ref f36))) (l36 : K.lookup f36 = some ⟨oc36, od36, .func (PySem.W.fnOf "_law_picked" "_law_picked" (defArgs s_picked) (defBody s_picked) (defScope s_picked) .none kV36 dc36 pm36 an36 cd36 ct36), sl36⟩) (g36 : PySem.W.codeIn K cd36 "_law_picked" = true) (k36 : PySem.W.keepIn K (.ref f36) = true)
    (a37 : PySem.W.nsIn K mainGlobals "_law_root" = some (some (.ref f37))) (l37 : K.lookup f37 = some ⟨oc37, od37, .func (PySem.W.fnOf "_law_root" "_law_root" (defArgs s_root) (defBody s_root) (defScope s_root) .none kV37 dc37 pm37 an37 cd37 ct37), sl37⟩) (g37 : PySem.W.codeIn K cd37 "_law_root" = true) (k37 : PySem.W.keepIn K (.ref f37) = true)
    (a38 : PySem.W.nsIn K mainGlobals "_law_none_by_16" = some (some (.ref f38))) (l38 : K.lookup f38 = some ⟨oc38, od38, .func (PySem.W.fnOf "_law_none_by_16" "_law_none_by_16" (defArgs s_none_by_16) (defBody s_none_by_16) (defScope s_none_by_16) .none kV38 dc38 pm38 an38 cd38 ct38), sl38⟩) (g38 : PySem.W.codeIn K cd38 "_law_none_by_16" = true) (k38 : PySem.W.keepIn K (.ref f38) = true)
    (a39 : PySem.W.nsIn K mainGlobals "_law_no_point" = some (some (.ref f39))) (l39 : K.lookup f39 = some ⟨oc39, od39, .func (PySem.W.fnOf "_law_no_point" "_law_no_point" (defArgs s_no_point) (defBody s_no_point) (defScope s_no_point) .none kV39 dc39 pm39 an39 cd39 ct39), sl39⟩) (g39 : PySem.W.codeIn K cd39 "_law_no_point" = true) (k39 : PySem.W.keepIn K (.ref f39) = true)
    (a40 : PySem.W.nsIn K mainGlobals "_law_alone" = some (some (.ref f40))) (l40 : K.lookup f40 = some ⟨oc40, od40, .func (PySem.W.fnOf "_law_alone" "_law_alone" (defArgs s_alone) (defBody s_alone) (defScope s_alone) .none kV40 dc40 pm40 an40 cd40 ct40), sl40⟩) (g40 : PySem.W.codeIn K cd40 "_law_alone" = true) (k40 : PySem.W.keepIn K (.ref f40) = true)
    (a41 : PySem.W.nsIn K mainGlobals "_law_refused" = some (some (.ref f41))) (l41 : K.lookup f41 = some ⟨oc41, od41, .func (PySem.W.fnOf "_law_refused" "_law_refused" (defArgs s_refused) (defBody s_refused) (defScope s_refused) .none kV41 dc41 pm41 an41 cd41 ct41), sl41⟩) (g41 : PySem.W.codeIn K cd41 "_law_refused" = true) (k41 : PySem.W.keepIn K (.ref f41) = true)
    (a42 : PySem.W.nsIn K mainGlobals "law" = some (some (.ref f42))) (l42 : K.lookup f42 = some ⟨oc42, od42, .func (PySem.W.fnOf "law" "law" (defArgs s_law) (defBody s_law) (defScope s_law) .none kV42 dc42 pm42 an42 cd42 ct42), sl42⟩) (g42 : PySem.W.codeIn K cd42 "law" = true) (k42 : PySem.W.keepIn K (.ref f42) = true)
    (xm_CurveError : PySem.W.nsIn K mainGlobals "CurveError" = some (some (.ref qce)))
    (xm_BadPlace : PySem.W.nsIn K mainGlobals "BadPlace" = some (some (.ref qc0)))
    (xm_Flat : PySem.W.nsIn K mainGlobals "Flat" = some (some (.ref qc1)))
    (xm_NoBack : PySem.W.nsIn K mainGlobals "NoBack" = some (some (.ref qc2)))
    (xm_NoJoin : PySem.W.nsIn K mainGlobals "NoJoin" = some (some (.ref qc3)))
    (xm_NoLine : PySem.W.nsIn K mainGlobals "NoLine" = some (some (.ref qc4)))
    (xm_NoName : PySem.W.nsIn K mainGlobals "NoName" = some (some (.ref qc5)))
    (xm_NoNumber : PySem.W.nsIn K mainGlobals "NoNumber" = some (some (.ref qc6)))
    (xm_NoPair : PySem.W.nsIn K mainGlobals "NoPair" = some (some (.ref qc7)))
    (xm_NoPlace : PySem.W.nsIn K mainGlobals "NoPlace" = some (some (.ref qc8)))
    (xm_NoRow : PySem.W.nsIn K mainGlobals "NoRow" = some (some (.ref qc9)))
    (xm_NoSign : PySem.W.nsIn K mainGlobals "NoSign" = some (some (.ref qc10)))
    (xm_NoText : PySem.W.nsIn K mainGlobals "NoText" = some (some (.ref qc11)))
    (xm_NoVertex : PySem.W.nsIn K mainGlobals "NoVertex" = some (some (.ref qc12)))
    (xm_NotPlain : PySem.W.nsIn K mainGlobals "NotPlain" = some (some (.ref qc13)))
    (xm_OffCurve : PySem.W.nsIn K mainGlobals "OffCurve" = some (some (.ref qc14)))
    (xi_ce : PySem.W.kitOne K (.ref qc13) (.ref qce) = some true)
    (xi_0 : PySem.W.kitOne K (.ref qc13) (.ref qc0) = some false)
    (xi_1 : PySem.W.kitOne K (.ref qc13) (.ref qc1) = some false)
    (xi_2 : PySem.W.kitOne K (.ref qc13) (.ref qc2) = some false)
    (xi_3 : PySem.W.kitOne K (.ref qc13) (.ref qc3) = some false)
    (xi_4 : PySem.W.kitOne K (.ref qc13) (.ref qc4) = some false)
    (xi_5 : PySem.W.kitOne K (.ref qc13) (.ref qc5) = some false)
    (xi_6 : PySem.W.kitOne K (.ref qc13) (.ref qc6) = some false)
    (xi_7 : PySem.W.kitOne K (.ref qc13) (.ref qc7) = some false)
    (xi_8 : PySem.W.kitOne K (.ref qc13) (.ref qc8) = some false)
    (xi_9 : PySem.W.kitOne K (.ref qc13) (.ref qc9) = some false)
    (xi_10 : PySem.W.kitOne K (.ref qc13) (.ref qc10) = some false)
    (xi_11 : PySem.W.kitOne K (.ref qc13) (.ref qc11) = some false)
    (xi_12 : PySem.W.kitOne K (.ref qc13) (.ref qc12) = some false)
    (xi_13 : PySem.W.kitOne K (.ref qc13) (.ref qc13) = some true)
    (xi_14 : PySem.W.kitOne K (.ref qc13) (.ref qc14) = some false)
    (xi_ve : PySem.W.kitOne K (.ref qc13) (.type "ValueError") = some true)
    (xe0 : (PySem.W.clsIn K qc13).isSome = true)
    (xe1 : PySem.W.findIn K (.ref qc13) "__getattribute__" = some (some (.builtin "BaseException.__getattribute__")))
    (xe2 : PySem.W.findIn K (.ref qc13) "__getattr__" = some none)
    (xe3 : PySem.W.findIn K (.ref qc13) "__class__" = some (some (.builtin "object.__class__")))
    (xe4 : PySem.W.specialIn K (.builtin "object.__class__") "__get__" = some (some (.builtin "getset_descriptor.__get__")))
    (xe5 : PySem.W.takesIn K (.builtin "object.__class__") = some true)
    (xe6 : PySem.W.mroIn K qc13 (.type "object") = some true)
    (xe7 : PySem.W.mroIn K qc13 (.type "BaseException") = some true)
    (xx_NotPlain : PySem.W.excIn K qc13 bmVE "ValueError.__new__" = true)
    (xx_CurveError : PySem.W.excIn K qce bmVE "ValueError.__new__" = true)
    (xu_NotPlain : PySem.W.mroIn K qc13 (.ref qce) = some true)
    (xi_ib : PySem.W.kitOne K (.type "int") (.type "bool") = some false)
    (xz_isinstance : PySem.W.nsIn K mainGlobals "isinstance" = some none)
    (xz_int : PySem.W.nsIn K mainGlobals "int" = some none)
    (xz_bool : PySem.W.nsIn K mainGlobals "bool" = some none)
    (xz_len : PySem.W.nsIn K mainGlobals "len" = some none)
    (xz_range : PySem.W.nsIn K mainGlobals "range" = some none)
    (xz_all : PySem.W.nsIn K mainGlobals "all" = some none)
    (xz_abs : PySem.W.nsIn K mainGlobals "abs" = some none)
    (xz_sorted : PySem.W.nsIn K mainGlobals "sorted" = some none)
    (xz_list : PySem.W.nsIn K mainGlobals "list" = some none)
    (xz_max : PySem.W.nsIn K mainGlobals "max" = some none)
    (xz_min : PySem.W.nsIn K mainGlobals "min" = some none)
    (xz_set : PySem.W.nsIn K mainGlobals "set" = some none)
    (xz_sum : PySem.W.nsIn K mainGlobals "sum" = some none)
    (xz_tuple : PySem.W.nsIn K mainGlobals "tuple" = some none)
    (xz_ValueError : PySem.W.nsIn K mainGlobals "ValueError" = some none)
    : ∃ fd : FuncData, (∀ (s : Shared) (v : Value), BindsTo s fd ⟨[v], []⟩ [("_law_script", v)]) ∧ ∀ base : Heap, K.In base → base.Ns mainGlobals mg → FnOk l.prog w K mg base CX0 89 fa fd ["_law_script"] (spLaw K) := by
  have e := hfa.symm.trans (PySem.W.mg_of X G a42)
  cases e
  have T : Txt K mg ⟨qce, qc0, qc1, qc2, qc3, qc4, qc5, qc6, qc7, qc8, qc9, qc10, qc11, qc12, qc13, qc14⟩ := ⟨PySem.W.mg_of X G xm_CurveError, PySem.W.mg_of X G xm_BadPlace, PySem.W.mg_of X G xm_Flat, PySem.W.mg_of X G xm_NoBack, PySem.W.mg_of X G xm_NoJoin, PySem.W.mg_of X G xm_NoLine, PySem.W.mg_of X G xm_NoName, PySem.W.mg_of X G xm_NoNumber, PySem.W.mg_of X G xm_NoPair, PySem.W.mg_of X G xm_NoPlace, PySem.W.mg_of X G xm_NoRow, PySem.W.mg_of X G xm_NoSign, PySem.W.mg_of X G xm_NoText, PySem.W.mg_of X G xm_NoVertex, PySem.W.mg_of X G xm_NotPlain, PySem.W.mg_of X G xm_OffCurve, xi_ce, xi_0, xi_1, xi_2, xi_3, xi_4, xi_5, xi_6, xi_7, xi_8, xi_9, xi_10, xi_11, xi_12, xi_13, xi_14, xi_ve, xe0, xe1, xe2, xe3, xe4, xe5, xe6, xe7, xx_NotPlain, xx_CurveError, xu_NotPlain, xi_ib, PySem.W.mg_none_of X G xz_isinstance, PySem.W.mg_none_of X G xz_int, PySem.W.mg_none_of X G xz_bool, PySem.W.mg_none_of X G xz_len, PySem.W.mg_none_of X G xz_range, PySem.W.mg_none_of X G xz_all, PySem.W.mg_none_of X G xz_abs, PySem.W.mg_none_of X G xz_sorted, PySem.W.mg_none_of X G xz_list, PySem.W.mg_none_of X G xz_max, PySem.W.mg_none_of X G xz_min, PySem.W.mg_none_of X G xz_set, PySem.W.mg_none_of X G xz_sum, PySem.W.mg_none_of X G xz_tuple, PySem.W.mg_none_of X G xz_ValueError⟩
  have F1 := fun_mk (st := s_taken_out) l1 g1 k1
  have b1 := F1.binds (ps := ["number", "prime"]) fun _ _ _ _ _ _ => byL2 fun _ _ => rfl
  have F2 := fun_mk (st := s_divisor_after) l2 g2 k2
  have b2 := F2.binds (ps := ["divisor"]) fun _ _ _ _ _ _ => byL1 fun _ => rfl
  have F3 := fun_mk (st := s_prime_parts) l3 g3 k3
  have b3 := F3.binds (ps := ["number"]) fun _ _ _ _ _ _ => byL1 fun _ => rfl
  have F4 := fun_mk (st := s_core_of) l4 g4 k4
  have b4 := F4.binds (ps := ["number"]) fun _ _ _ _ _ _ => byL1 fun _ => rfl
  have F5 := fun_mk (st := s_is_without_squares) l5 g5 k5
  have b5 := F5.binds (ps := ["number"]) fun _ _ _ _ _ _ => byL1 fun _ => rfl
  have F6 := fun_mk (st := s_power_by) l6 g6 k6
  have b6 := F6.binds (ps := ["number", "k", "n"]) fun _ _ _ _ _ _ => byL3 fun _ _ _ => rfl
  have F7 := fun_mk (st := s_sign_of_two) l7 g7 k7
  have b7 := F7.binds (ps := ["odd"]) fun _ _ _ _ _ _ => byL1 fun _ => rfl
  have F8 := fun_mk (st := s_sign_of_turn) l8 g8 k8
  have b8 := F8.binds (ps := ["one", "other"]) fun _ _ _ _ _ _ => byL2 fun _ _ => rfl
  have F9 := fun_mk (st := s_sign_by) l9 g9 k9
  have b9 := F9.binds (ps := ["number", "n"]) fun _ _ _ _ _ _ => byL2 fun _ _ => rfl
  have F10 := fun_mk (st := s_row_less) l10 g10 k10
  have b10 := F10.binds (ps := ["row", "taken", "times"]) fun _ _ _ _ _ _ => byL3 fun _ _ _ => rfl
  have F11 := fun_mk (st := s_shares_of) l11 g11 k11
  have b11 := F11.binds (ps := ["one", "other"]) fun _ _ _ _ _ _ => byL2 fun _ _ => rfl
  have F12 := fun_mk (st := s_sign_at_two) l12 g12 k12
  have b12 := F12.binds (ps := ["one", "other"]) fun _ _ _ _ _ _ => byL2 fun _ _ => rfl
  have F13 := fun_mk (st := s_sign_at_odd) l13 g13 k13
  have b13 := F13.binds (ps := ["one", "other", "prime"]) fun _ _ _ _ _ _ => byL3 fun _ _ _ => rfl
  have F14 := fun_mk (st := s_sign_at) l14 g14 k14
  have b14 := F14.binds (ps := ["a", "b", "place"]) fun _ _ _ _ _ _ => byL3 fun _ _ _ => rfl
  have F15 := fun_mk (st := s_places_in_question) l15 g15 k15
  have b15 := F15.binds (ps := ["a", "b", "c"]) fun _ _ _ _ _ _ => byL3 fun _ _ _ => rfl
  have F16 := fun_mk (st := s_places_without_point) l16 g16 k16
  have b16 := F16.binds (ps := ["a", "b", "c"]) fun _ _ _ _ _ _ => byL3 fun _ _ _ => rfl
  have F17 := fun_mk (st := s_joined_rests) l17 g17 k17
  have b17 := F17.binds (ps := ["r", "n", "s", "m"]) fun _ _ _ _ _ _ => byL4 fun _ _ _ _ => rfl
  have F18 := fun_mk (st := s_has_root) l18 g18 k18
  have b18 := F18.binds (ps := ["number", "prime"]) fun _ _ _ _ _ _ => byL2 fun _ _ => rfl
  have F19 := fun_mk (st := s_least_without_root) l19 g19 k19
  have b19 := F19.binds (ps := ["prime"]) fun _ _ _ _ _ _ => byL1 fun _ => rfl
  have F20 := fun_mk (st := s_root_by_odd_prime) l20 g20 k20
  have b20 := F20.binds (ps := ["number", "prime"]) fun _ _ _ _ _ _ => byL2 fun _ _ => rfl
  have F21 := fun_mk (st := s_root_by_prime) l21 g21 k21
  have b21 := F21.binds (ps := ["number", "prime"]) fun _ _ _ _ _ _ => byL2 fun _ _ => rfl
  have F22 := fun_mk (st := s_root_or_prime) l22 g22 k22
  have b22 := F22.binds (ps := ["number", "n"]) fun _ _ _ _ _ _ => byL2 fun _ _ => rfl
  have F23 := fun_mk (st := s_lowest_point) l23 g23 k23
  have b23 := F23.binds (ps := ["P"]) fun _ _ _ _ _ _ => byL1 fun _ => rfl
  have F24 := fun_mk (st := s_point_of_last) l24 g24 k24
  have b24 := F24.binds (ps := ["a", "b"]) fun _ _ _ _ _ _ => byL2 fun _ _ => rfl
  have F25 := fun_mk (st := s_turn) l25 g25 k25
  have b25 := F25.binds (ps := []) fun _ _ _ _ _ _ => byL0 rfl
  have F26 := fun_mk (st := s_point_of_turned) l26 g26 k26
  have b26 := F26.binds (ps := ["point"]) fun _ _ _ _ _ _ => byL1 fun _ => rfl
  have F27 := fun_mk (st := s_step_down) l27 g27 k27
  have b27 := F27.binds (ps := ["a", "b"]) fun _ _ _ _ _ _ => byL2 fun _ _ => rfl
  have F28 := fun_mk (st := s_point_of_lower) l28 g28 k28
  have b28 := F28.binds (ps := ["a", "step", "point"]) fun _ _ _ _ _ _ => byL3 fun _ _ _ => rfl
  have F29 := fun_mk (st := s_walked_down) l29 g29 k29
  have b29 := F29.binds (ps := ["a", "b"]) fun _ _ _ _ _ _ => byL2 fun _ _ => rfl
  have F30 := fun_mk (st := s_pair_point) l30 g30 k30
  have b30 := F30.binds (ps := ["a", "b"]) fun _ _ _ _ _ _ => byL2 fun _ _ => rfl
  have F31 := fun_mk (st := s_cell_at) l31 g31 k31
  have b31 := F31.binds (ps := ["_law_script", "_law_k"]) fun _ _ _ _ _ _ => byL2 fun _ _ => rfl
  have F32 := fun_mk (st := s_churn) l32 g32 k32
  have b32 := F32.binds (ps := ["_law_cell", "_law_turn"]) fun _ _ _ _ _ _ => byL2 fun _ _ => rfl
  have F33 := fun_mk (st := s_whole) l33 g33 k33
  have b33 := F33.binds (ps := ["_law_found"]) fun _ _ _ _ _ _ => byL1 fun _ => rfl
  have F34 := fun_mk (st := s_lowest) l34 g34 k34
  have b34 := F34.binds (ps := ["_law_point_here"]) fun _ _ _ _ _ _ => byL1 fun _ => rfl
  have F35 := fun_mk (st := s_point) l35 g35 k35
  have b35 := F35.binds (ps := ["_law_found", "_law_a", "_law_b"]) fun _ _ _ _ _ _ => byL3 fun _ _ _ => rfl
  have F36 := fun_mk (st := s_picked) l36 g36 k36
  have b36 := F36.binds (ps := ["_law_script", "_law_start", "_law_turn", "_law_most"]) fun _ _ _ _ _ _ => byL4 fun _ _ _ _ => rfl
  have F37 := fun_mk (st := s_root) l37 g37 k37
  have b37 := F37.binds (ps := ["_law_number", "_law_prime"]) fun _ _ _ _ _ _ => byL2 fun _ _ => rfl
  have F38 := fun_mk (st := s_none_by_16) l38 g38 k38
  have b38 := F38.binds (ps := ["_law_a", "_law_b"]) fun _ _ _ _ _ _ => byL2 fun _ _ => rfl
  have F39 := fun_mk (st := s_no_point) l39 g39 k39
  have b39 := F39.binds (ps := ["_law_a", "_law_b", "_law_place"]) fun _ _ _ _ _ _ => byL3 fun _ _ _ => rfl
  have F40 := fun_mk (st := s_alone) l40 g40 k40
  have b40 := F40.binds (ps := ["_law_e", "_law_sort"]) fun _ _ _ _ _ _ => byL2 fun _ _ => rfl
  have F41 := fun_mk (st := s_refused) l41 g41 k41
  have b41 := F41.binds (ps := ["_law_a", "_law_b"]) fun _ _ _ _ _ _ => byL2 fun _ _ => rfl
  have F42 := fun_mk (st := s_law) l42 g42 k42
  refine ⟨PySem.W.fnOf "law" "law" (defArgs s_law) (defBody s_law) (defScope s_law) .none kV42 dc42 pm42 an42 cd42 ct42, fun s v => .of_eq rfl, fun base _ _ => ?_⟩
  have H_taken_out : Has l.prog w K mg base CX0 1 "taken_out" ["number", "prime"] (spTaken) := ⟨f1, _, ok_taken_out F1 T , b1, k1, PySem.W.mg_of X G a1⟩
  have H_divisor_after : Has l.prog w K mg base CX0 1 "divisor_after" ["divisor"] (spAfter) := ⟨f2, _, ok_divisor_after F2 T , b2, k2, PySem.W.mg_of X G a2⟩
  have H_prime_parts : Has l.prog w K mg base CX0 2 "prime_parts" ["number"] (spParts0) := ⟨f3, _, ok_prime_parts F3 T H_divisor_after H_taken_out, b3, k3, PySem.W.mg_of X G a3⟩
  have H_core_of : Has l.prog w K mg base CX0 3 "core_of" ["number"] (spCore0) := ⟨f4, _, ok_core_of F4 T H_prime_parts, b4, k4, PySem.W.mg_of X G a4⟩
  have H_is_without_squares : Has l.prog w K mg base CX0 4 "is_without_squares" ["number"] (spNoSqB) := ⟨f5, _, ok_is_without_squares F5 T H_core_of, b5, k5, PySem.W.mg_of X G a5⟩
  have H_power_by : Has l.prog w K mg base CX0 1 "power_by" ["number", "k", "n"] (spPower) := ⟨f6, _, ok_power_by F6 T , b6, k6, PySem.W.mg_of X G a6⟩
  have H_sign_of_two : Has l.prog w K mg base CX0 1 "sign_of_two" ["odd"] (spTwoI) := ⟨f7, _, ok_sign_of_two F7 T , b7, k7, PySem.W.mg_of X G a7⟩
  have H_sign_of_turn : Has l.prog w K mg base CX0 1 "sign_of_turn" ["one", "other"] (spTurnI) := ⟨f8, _, ok_sign_of_turn F8 T , b8, k8, PySem.W.mg_of X G a8⟩
  have H_sign_by : Has l.prog w K mg base CX0 2 "sign_by" ["number", "n"] (spSign) := ⟨f9, _, ok_sign_by F9 T H_taken_out H_sign_of_two H_sign_of_turn, b9, k9, PySem.W.mg_of X G a9⟩
  have H_row_less : Has l.prog w K mg base CX0 1 "row_less" ["row", "taken", "times"] (spRow) := ⟨f10, _, ok_row_less F10 T , b10, k10, PySem.W.mg_of X G a10⟩
  have H_shares_of : Has l.prog w K mg base CX0 2 "shares_of" ["one", "other"] (spShares) := ⟨f11, _, ok_shares_of F11 T H_row_less, b11, k11, PySem.W.mg_of X G a11⟩
  have H_sign_at_two : Has l.prog w K mg base CX0 2 "sign_at_two" ["one", "other"] (spAtTwo) := ⟨f12, _, ok_sign_at_two F12 T H_sign_of_two H_sign_of_turn, b12, k12, PySem.W.mg_of X G a12⟩
  have H_sign_at_odd : Has l.prog w K mg base CX0 3 "sign_at_odd" ["one", "other", "prime"] (spAtOdd) := ⟨f13, _, ok_sign_at_odd F13 T H_sign_by, b13, k13, PySem.W.mg_of X G a13⟩
  have H_sign_at : Has l.prog w K mg base CX0 4 "sign_at" ["a", "b", "place"] (spAt) := ⟨f14, _, ok_sign_at F14 T H_taken_out H_sign_at_two H_sign_at_odd, b14, k14, PySem.W.mg_of X G a14⟩
  have H_places_in_question : Has l.prog w K mg base CX0 3 "places_in_question" ["a", "b", "c"] (spQuestN) := ⟨f15, _, ok_places_in_question F15 T H_prime_parts, b15, k15, PySem.W.mg_of X G a15⟩
  have H_places_without_point : Has l.prog w K mg base CX0 5 "places_without_point" ["a", "b", "c"] (spBadH) := ⟨f16, _, ok_places_without_point F16 T H_places_in_question H_sign_at, b16, k16, PySem.W.mg_of X G a16⟩
  have H_joined_rests : Has l.prog w K mg base CX0 3 "joined_rests" ["r", "n", "s", "m"] (spJoin) := ⟨f17, _, ok_joined_rests F17 T H_shares_of, b17, k17, PySem.W.mg_of X G a17⟩
  have H_has_root : Has l.prog w K mg base CX0 3 "has_root" ["number", "prime"] (spHas) := ⟨f18, _, ok_has_root F18 T H_sign_by, b18, k18, PySem.W.mg_of X G a18⟩
  have H_least_without_root : Has l.prog w K mg base CX0 4 "least_without_root" ["prime"] (spLeast) := ⟨f19, _, ok_least_without_root F19 T H_has_root, b19, k19, PySem.W.mg_of X G a19⟩
  have H_root_by_odd_prime : Has l.prog w K mg base CX0 5 "root_by_odd_prime" ["number", "prime"] (spRootO) := ⟨f20, _, ok_root_by_odd_prime F20 T H_taken_out H_power_by H_least_without_root, b20, k20, PySem.W.mg_of X G a20⟩
  have H_root_by_prime : Has l.prog w K mg base CX0 6 "root_by_prime" ["number", "prime"] (spRootP) := ⟨f21, _, ok_root_by_prime F21 T H_root_by_odd_prime, b21, k21, PySem.W.mg_of X G a21⟩
  have H_root_or_prime : Has l.prog w K mg base CX0 7 "root_or_prime" ["number", "n"] (spRoot) := ⟨f22, _, ok_root_or_prime F22 T H_prime_parts H_has_root H_joined_rests H_root_by_prime, b22, k22, PySem.W.mg_of X G a22⟩
  have H_lowest_point : Has l.prog w K mg base CX0 3 "lowest_point" ["P"] (spLowest) := ⟨f23, _, ok_lowest_point F23 T H_shares_of, b23, k23, PySem.W.mg_of X G a23⟩
  have H_point_of_last : Has l.prog w K mg base CX0 1 "point_of_last" ["a", "b"] (spLastP) := ⟨f24, _, ok_point_of_last F24 T , b24, k24, PySem.W.mg_of X G a24⟩
  have H_turn : Has l.prog w K mg base CX0 1 "turn" [] (spTurn) := ⟨f25, _, ok_turn F25 T , b25, k25, PySem.W.mg_of X G a25⟩
  have H_point_of_turned : Has l.prog w K mg base CX0 1 "point_of_turned" ["point"] (spTurned) := ⟨f26, _, ok_point_of_turned F26 T , b26, k26, PySem.W.mg_of X G a26⟩
  have H_step_down : Has l.prog w K mg base CX0 8 "step_down" ["a", "b"] (spStep) := ⟨f27, _, ok_step_down F27 T H_root_or_prime H_core_of, b27, k27, PySem.W.mg_of X G a27⟩
  have H_point_of_lower : Has l.prog w K mg base CX0 1 "point_of_lower" ["a", "step", "point"] (spLower) := ⟨f28, _, ok_point_of_lower F28 T , b28, k28, PySem.W.mg_of X G a28⟩
  have H_walked_down : Has l.prog w K mg base CX0 86 "walked_down" ["a", "b"] (spWalk 78) := (fun m : Nat => Nat.rec (motive := fun n => Has l.prog w K mg base CX0 (8 + n) "walked_down" ["a", "b"] (spWalk n)) ⟨f29, _, ⟨fun _ _ _ _ h => (spWalk_zero h).elim, fun _ _ _ _ _ _ _ _ _ _ _ _ _ h => (spWalk_zero h).elim⟩, b29, k29, PySem.W.mg_of X G a29⟩ (fun n ih => ⟨f29, _, ok_walked_down F29 T H_point_of_last H_turn H_point_of_turned H_step_down H_point_of_lower n ih, b29, k29, PySem.W.mg_of X G a29⟩) m) 78
  have H_pair_point : Has l.prog w K mg base (XF l.prog w) 87 "pair_point" ["a", "b"] (spPPX qc13) := ⟨f30, _, ok_pair_point F30 T H_is_without_squares H_places_without_point H_walked_down H_lowest_point, b30, k30, PySem.W.mg_of X G a30⟩
  have H_cell_at : Has l.prog w K mg base CX0 1 "_law_cell_at" ["_law_script", "_law_k"] (spCell K) := ⟨f31, _, ok_cell_at F31 T , b31, k31, PySem.W.mg_of X G a31⟩
  have H_churn : Has l.prog w K mg base CX0 1 "_law_churn" ["_law_cell", "_law_turn"] (spChurn) := ⟨f32, _, ok_churn F32 T , b32, k32, PySem.W.mg_of X G a32⟩
  have H_whole : Has l.prog w K mg base CX0 1 "_law_whole" ["_law_found"] (spWhole) := ⟨f33, _, ok_whole F33 T , b33, k33, PySem.W.mg_of X G a33⟩
  have H_lowest : Has l.prog w K mg base CX0 1 "_law_lowest" ["_law_point_here"] (spLowest) := ⟨f34, _, ok_lowest F34 T , b34, k34, PySem.W.mg_of X G a34⟩
  have H_point : Has l.prog w K mg base CX0 2 "_law_point" ["_law_found", "_law_a", "_law_b"] (spPointT) := ⟨f35, _, ok_point F35 T H_whole H_lowest, b35, k35, PySem.W.mg_of X G a35⟩
  have H_picked : Has l.prog w K mg base CX0 2 "_law_picked" ["_law_script", "_law_start", "_law_turn", "_law_most"] (spPickM K) := ⟨f36, _, ok_picked F36 T H_cell_at H_churn, b36, k36, PySem.W.mg_of X G a36⟩
  have H_root : Has l.prog w K mg base CX0 1 "_law_root" ["_law_number", "_law_prime"] (spRootB) := ⟨f37, _, ok_root F37 T , b37, k37, PySem.W.mg_of X G a37⟩
  have H_none_by_16 : Has l.prog w K mg base CX0 1 "_law_none_by_16" ["_law_a", "_law_b"] (spNone16) := ⟨f38, _, ok_none_by_16 F38 T , b38, k38, PySem.W.mg_of X G a38⟩
  have H_no_point : Has l.prog w K mg base CX0 2 "_law_no_point" ["_law_a", "_law_b", "_law_place"] (spNoPt) := ⟨f39, _, ok_no_point F39 T H_whole H_none_by_16 H_root, b39, k39, PySem.W.mg_of X G a39⟩
  have H_alone : Has l.prog w K mg base CX0 1 "_law_alone" ["_law_e", "_law_sort"] (spAloneS qc13 13) := ⟨f40, _, ok_alone F40 T , b40, k40, PySem.W.mg_of X G a40⟩
  have H_refused : Has l.prog w K mg base CX0 88 "_law_refused" ["_law_a", "_law_b"] (spRef32) := ⟨f41, _, ok_refused F41 T H_pair_point H_alone, b41, k41, PySem.W.mg_of X G a41⟩
  exact ok_law F42 T H_cell_at H_picked H_pair_point H_point H_no_point H_churn H_refused
theorem walk {l : PySem.W.OpenLaw} {q : Program} {loose : List Str} {XP : (Str → Option Value) → Heap → Prop} {YP : World → Heap → Prop} {d : DefRec} {K : Params → PySem.W.Frag} (hn : l.most = some 63) (hdf : d.params.defaults = [])
    (hY : ∀ (w : World) (h : Heap), YP w h → (K w.params).In h)
    (F : ∀ (w : World) (mg : Str → Option Value) (fa : Addr) (h : Heap), (K w.params).In h → h.Ns mainGlobals mg → mg d.name = some (.ref fa) →
      ∃ fd : FuncData, (∀ (s : Shared) (u : Value), BindsTo s fd ⟨[u], []⟩ [("_law_script", u)]) ∧ ∀ base : Heap, (K w.params).In base → base.Ns mainGlobals mg → FnOk l.prog w (K w.params) mg base CX0 89 fa fd ["_law_script"] (spLaw (K w.params))) :
    PySem.W.WalkO q loose XP YP l.row.toRowW d [] (fun f vs => PySem.call f vs) :=
  L2.walk_b (n := 63) (k := 89) (x := "_law_script") (CX := fun _ => CX0) (sp := fun w => spLaw (K w.params)) hn (by decide) hdf ⟨rfl, by decide, by decide⟩ hY F (fun _ _ a ns hl hb hS => ⟨a, ns, rfl, hS, hl, hb, fun _ => rfl⟩) fun _ _ _ _ _ z => z
end K32
def PySem.W.Fast.tw17402606896453333463 : Unit := ()
def PySem.W.Fast.tw7271128620895909372 : Unit := ()
def PySem.W.Fast.tw6013360701110162583 : Unit := ()
def PySem.W.Fast.tw1785939566854697633 : Unit := ()
def PySem.W.Fast.tw16069722788382165730 : Unit := ()
def PySem.W.Fast.tw15893116720526589458 : Unit := ()
def PySem.W.Fast.tw5697977637384454552 : Unit := ()
def PySem.W.Fast.tw6980665719769777594 : Unit := ()
def PySem.W.Fast.tw16345562538451832906 : Unit := ()
def PySem.W.Fast.tw1306760123928307790 : Unit := ()
def PySem.W.Fast.tw4039816467749089185 : Unit := ()
def PySem.W.Fast.tw17585285978955220717 : Unit := ()
def PySem.W.Fast.tw10166904949483614984 : Unit := ()
def PySem.W.Fast.tw18098330501860219632 : Unit := ()
def PySem.W.Fast.tw1482810145550605290 : Unit := ()
def PySem.W.Fast.tw10529740320403831428 : Unit := ()
def PySem.W.Fast.tw4472667967188759845 : Unit := ()
def PySem.W.Fast.tw5727775777416236602 : Unit := ()
def PySem.W.Fast.tw4343389399253731191 : Unit := ()
def PySem.W.Fast.tw7849623335830414330 : Unit := ()
def PySem.W.Fast.tw10896983153140108509 : Unit := ()
def PySem.W.Fast.tw107883750414790166 : Unit := ()
def PySem.W.Fast.tw15818949286932872472 : Unit := ()
def PySem.W.Fast.tw15929271503952960351 : Unit := ()
def PySem.W.Fast.tw9362761508838676493 : Unit := ()
open PySem PySem.W PyProof.Rows
set_option maxRecDepth 100000 in
set_option maxHeartbeats 0 in
theorem PySem.Challenge.cw_conicplaces_k32_point_or_place_holds : PySem.Challenge.rw_conicplaces_k32_point_or_place.Holds := by
  w_on; o_law; k_head; (case hw => w_witness2)
  k_fill
  refine K32.walk (l := PySem.Challenge.rw_conicplaces_k32_point_or_place) rfl rfl (fun w h Y => PySem.W.kIn_of Y) ?F
  case F =>
    intro w mg fa h KX G hmg
    refine' K32.all_mk KX G hmg ?a1 ?l1 ?g1 ?k1 ?a2 ?l2 ?g2 ?k2 ?a3 ?l3 ?g3 ?k3 ?a4 ?l4 ?g4 ?k4 ?a5 ?l5 ?g5 ?k5 ?a6 ?l6 ?g6 ?k6 ?a7 ?l7 ?g7 ?k7 ?a8 ?l8 ?g8 ?k8 ?a9 ?l9 ?g9 ?k9 ?a10 ?l10 ?g10 ?k10 ?a11 ?l11 ?g11 ?k11 ?a12 ?l12 ?g12 ?k12 ?a13 ?l13 ?g13 ?k13 ?a14 ?l14 ?g14 ?k14 ?a15 ?l15 ?g15 ?k15 ?a16 ?l16 ?g16 ?k16 ?a17 ?l17 ?g17 ?k17 ?a18 ?l18 ?g18 ?k18 ?a19 ?l19 ?g19 ?k19 ?a20 ?l20 ?g20 ?k20 ?a21 ?l21 ?g21 ?k21 ?a22 ?l22 ?g22 ?k22 ?a23 ?l23 ?g23 ?k23 ?a24 ?l24 ?g24 ?k24 ?a25 ?l25 ?g25 ?k25 ?a26 ?l26 ?g26 ?k26 ?a27 ?l27 ?g27 ?k27 ?a28 ?l28 ?g28 ?k28 ?a29 ?l29 ?g29 ?k29 ?a30 ?l30 ?g30 ?k30 ?a31 ?l31 ?g31 ?k31 ?a32 ?l32 ?g32 ?k32 ?a33 ?l33 ?g33 ?k33 ?a34 ?l34 ?g34 ?k34 ?a35 ?l35 ?g35 ?k35 ?a36 ?l36 ?g36 ?k36 ?a37 ?l37 ?g37 ?k37 ?a38 ?l38 ?g38 ?k38 ?a39 ?l39 ?g39 ?k39 ?a40 ?l40 ?g40 ?k40 ?a41 ?l41 ?g41 ?k41 ?a42 ?l42 ?g42 ?k42 ?xm_CurveError ?xm_BadPlace ?xm_Flat ?xm_NoBack ?xm_NoJoin ?xm_NoLine ?xm_NoName ?xm_NoNumber ?xm_NoPair ?xm_NoPlace ?xm_NoRow ?xm_NoSign ?xm_NoText ?xm_NoVertex ?xm_NotPlain ?xm_OffCurve ?xi_ce ?xi_0 ?xi_1 ?xi_2 ?xi_3 ?xi_4 ?xi_5 ?xi_6 ?xi_7 ?xi_8 ?xi_9 ?xi_10 ?xi_11 ?xi_12 ?xi_13 ?xi_14 ?xi_ve ?xe0 ?xe1 ?xe2 ?xe3 ?xe4 ?xe5 ?xe6 ?xe7 ?xx_NotPlain ?xx_CurveError ?xu_NotPlain ?xi_ib ?xz_isinstance ?xz_int ?xz_bool ?xz_len ?xz_range ?xz_all ?xz_abs ?xz_sorted ?xz_list ?xz_max ?xz_min ?xz_set ?xz_sum ?xz_tuple ?xz_ValueError
    (case a1 => k_is)
    (case l1 => k_is)
    (case g1 => k_is)
    (case k1 => k_is)
    (case a2 => k_is)
    (case l2 => k_is)
    (case g2 => k_is)
    (case k2 => k_is)
    (case a3 => k_is)
    (case l3 => k_is)
    (case g3 => k_is)
    (case k3 => k_is)
    (case a4 => k_is)
    (case l4 => k_is)
    (case g4 => k_is)
    (case k4 => k_is)
    (case a5 => k_is)
    (case l5 => k_is)
    (case g5 => k_is)
    (case k5 => k_is)
    (case a6 => k_is)
    (case l6 => k_is)
    (case g6 => k_is)
    (case k6 => k_is)
    (case a7 => k_is)
    (case l7 => k_is)
    (case g7 => k_is)
    (case k7 => k_is)
    (case a8 => k_is)
    (case l8 => k_is)
    (case g8 => k_is)
    (case k8 => k_is)
    (case a9 => k_is)
    (case l9 => k_is)
    (case g9 => k_is)
    (case k9 => k_is)
    (case a10 => k_is)
    (case l10 => k_is)
    (case g10 => k_is)
    (case k10 => k_is)
    (case a11 => k_is)
    (case l11 => k_is)
    (case g11 => k_is)
    (case k11 => k_is)
    (case a12 => k_is)
    (case l12 => k_is)
    (case g12 => k_is)
    (case k12 => k_is)
    (case a13 => k_is)
    (case l13 => k_is)
    (case g13 => k_is)
    (case k13 => k_is)
    (case a14 => k_is)
    (case l14 => k_is)
    (case g14 => k_is)
    (case k14 => k_is)
    (case a15 => k_is)
    (case l15 => k_is)
    (case g15 => k_is)
    (case k15 => k_is)
    (case a16 => k_is)
    (case l16 => k_is)
    (case g16 => k_is)
    (case k16 => k_is)
    (case a17 => k_is)
    (case l17 => k_is)
    (case g17 => k_is)
    (case k17 => k_is)
    (case a18 => k_is)
    (case l18 => k_is)
    (case g18 => k_is)
    (case k18 => k_is)
    (case a19 => k_is)
    (case l19 => k_is)
    (case g19 => k_is)
    (case k19 => k_is)
    (case a20 => k_is)
    (case l20 => k_is)
    (case g20 => k_is)
    (case k20 => k_is)
    (case a21 => k_is)
    (case l21 => k_is)
    (case g21 => k_is)
    (case k21 => k_is)
    (case a22 => k_is)
    (case l22 => k_is)
    (case g22 => k_is)
    (case k22 => k_is)
    (case a23 => k_is)
    (case l23 => k_is)
    (case g23 => k_is)
    (case k23 => k_is)
    (case a24 => k_is)
    (case l24 => k_is)
    (case g24 => k_is)
    (case k24 => k_is)
    (case a25 => k_is)
    (case l25 => k_is)
    (case g25 => k_is)
    (case k25 => k_is)
    (case a26 => k_is)
    (case l26 => k_is)
    (case g26 => k_is)
    (case k26 => k_is)
    (case a27 => k_is)
    (case l27 => k_is)
    (case g27 => k_is)
    (case k27 => k_is)
    (case a28 => k_is)
    (case l28 => k_is)
    (case g28 => k_is)
    (case k28 => k_is)
    (case a29 => k_is)
    (case l29 => k_is)
    (case g29 => k_is)
    (case k29 => k_is)
    (case a30 => k_is)
    (case l30 => k_is)
    (case g30 => k_is)
    (case k30 => k_is)
    (case a31 => k_is)
    (case l31 => k_is)
    (case g31 => k_is)
    (case k31 => k_is)
    (case a32 => k_is)
    (case l32 => k_is)
    (case g32 => k_is)
    (case k32 => k_is)
    (case a33 => k_is)
    (case l33 => k_is)
    (case g33 => k_is)
    (case k33 => k_is)
    (case a34 => k_is)
    (case l34 => k_is)
    (case g34 => k_is)
    (case k34 => k_is)
    (case a35 => k_is)
    (case l35 => k_is)
    (case g35 => k_is)
    (case k35 => k_is)
    (case a36 => k_is)
    (case l36 => k_is)
    (case g36 => k_is)
    (case k36 => k_is)
    (case a37 => k_is)
    (case l37 => k_is)
    (case g37 => k_is)
    (case k37 => k_is)
    (case a38 => k_is)
    (case l38 => k_is)
    (case g38 => k_is)
    (case k38 => k_is)
    (case a39 => k_is)
    (case l39 => k_is)
    (case g39 => k_is)
    (case k39 => k_is)
    (case a40 => k_is)
    (case l40 => k_is)
    (case g40 => k_is)
    (case k40 => k_is)
    (case a41 => k_is)
    (case l41 => k_is)
    (case g41 => k_is)
    (case k41 => k_is)
    (case a42 => k_is)
    (case l42 => k_is)
    (case g42 => k_is)
    (case k42 => k_is)
    (case xm_CurveError => k_is)
    (case xm_BadPlace => k_is)
    (case xm_Flat => k_is)
    (case xm_NoBack => k_is)
    (case xm_NoJoin => k_is)
    (case xm_NoLine => k_is)
    (case xm_NoName => k_is)
    (case xm_NoNumber => k_is)
    (case xm_NoPair => k_is)
    (case xm_NoPlace => k_is)
    (case xm_NoRow => k_is)
    (case xm_NoSign => k_is)
    (case xm_NoText => k_is)
    (case xm_NoVertex => k_is)
    (case xm_NotPlain => k_is)
    (case xm_OffCurve => k_is)
    (case xi_ce => kernel_rfl)
    (case xi_0 => kernel_rfl)
    (case xi_1 => kernel_rfl)
    (case xi_2 => kernel_rfl)
    (case xi_3 => kernel_rfl)
    (case xi_4 => kernel_rfl)
    (case xi_5 => kernel_rfl)
    (case xi_6 => kernel_rfl)
    (case xi_7 => kernel_rfl)
    (case xi_8 => kernel_rfl)
    (case xi_9 => kernel_rfl)
    (case xi_10 => kernel_rfl)
    (case xi_11 => kernel_rfl)
    (case xi_12 => kernel_rfl)
    (case xi_13 => kernel_rfl)
    (case xi_14 => kernel_rfl)
    (case xi_ve => kernel_rfl)
    (case xe0 => kernel_rfl)
    (case xe1 => kernel_rfl)
    (case xe2 => kernel_rfl)
    (case xe3 => kernel_rfl)
    (case xe4 => kernel_rfl)
    (case xe5 => kernel_rfl)
    (case xe6 => kernel_rfl)
    (case xe7 => kernel_rfl)
    (case xx_NotPlain => kernel_rfl)
    (case xx_CurveError => kernel_rfl)
    (case xu_NotPlain => kernel_rfl)
    (case xi_ib => kernel_rfl)
    (case xz_isinstance => k_is)
    (case xz_int => k_is)
    (case xz_bool => k_is)
    (case xz_len => k_is)
    (case xz_range => k_is)
    (case xz_all => k_is)
    (case xz_abs => k_is)
    (case xz_sorted => k_is)
    (case xz_list => k_is)
    (case xz_max => k_is)
    (case xz_min => k_is)
    (case xz_set => k_is)
    (case xz_sum => k_is)
    (case xz_tuple => k_is)
    (case xz_ValueError => k_is)
