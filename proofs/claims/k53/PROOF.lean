import PyProof.Rows.All
import Wide.All
import OpenK.AllK
import Wide.FinOn
import Lean
import PyProof.EqAt
import PyProof.EqKinds
import PyProof.TupleCall
import PyProof.CompFree
import PyProof.ConsumeWalk
import PyProof.CompMap
import KE.IntBitsLaws
import KE.KDictSum
import PyProof.Rows.EqDataRows
import PyProof.Rows.SortWalk
import KE.KLcPair
import PyProof.Cells
import PyProof.SumAny
import PyProof.ZipIter
import PyProof.Rows.ZipGen
import PyProof.Rows.FactsT2
import PyProof.WalkInts
import PyProof.SeqI3
import KE.KEqSeq
import PyProof.Rows.Range3
import PyProof.Rows.ChunkLeaf
import PyProof.InstStoreFacts
import PyProof.ExcClass3
import PyProof.ExcInit
import PySem.Challenge.RW_conicplaces_k53_whole_one_point_for_each_pair
set_option Elab.async false
set_option linter.all false
set_option maxRecDepth 100000
set_option maxHeartbeats 4000000
namespace L2
open PySem PySem.Spec PyProof.Rows

abbrev Key := Sum Int Str
def keyIs : Key → Value → Bool
  | .inl k, v => Value.isInt k v
  | .inr x, v => Value.isStrOf x v
def keyH (w : World) : Key → Int
  | .inl k => hashInt k
  | .inr x => hashStr w x
def mixKind (prog : Program) (w : World) : PySem.KeyKind prog w Key where
  is := keyIs
  hash := keyH w
  inj := fun v a b ha hb => by
    rcases keyIs_shape ha with ⟨i, t, rfl, rfl⟩ | ⟨x, t, rfl, rfl⟩
    · rcases keyIs_shape hb with ⟨j, u, rfl, e⟩ | ⟨y, u, rfl, e⟩
      · injection e with e1 _; rw [e1]
      · exact nomatch e
    · rcases keyIs_shape hb with ⟨j, u, rfl, e⟩ | ⟨y, u, rfl, e⟩
      · exact nomatch e
      · injection e with e1 _; rw [e1]
  byValue := fun k v h => by
    rcases keyIs_shape h with ⟨i, t, rfl, rfl⟩ | ⟨x, t, rfl, rfl⟩ <;> rfl
  pyHash := fun hv h => by
    rcases keyIs_shape hv with ⟨i, t, rfl, rfl⟩ | ⟨x, t, rfl, rfl⟩
    · exact wpAny_pyHash_int h
    · exact wpAny_pyHash_str h
  eqBool := fun hu hv h => by
    rcases keyIs_shape hu with ⟨i, t, rfl, rfl⟩ | ⟨x, t, rfl, rfl⟩
    · rcases keyIs_shape hv with ⟨j, u, rfl, rfl⟩ | ⟨y, u, rfl, rfl⟩
      · rw [key_ll] at h; exact wpAny_eqBool_int h
      · rw [key_lr] at h; exact SeqAt.EqAt.int_str i t y u _ _ _ _ h
    · rcases keyIs_shape hv with ⟨j, u, rfl, rfl⟩ | ⟨y, u, rfl, rfl⟩
      · rw [key_rl] at h; exact SeqAt.EqAt.str_int x t j u _ _ _ _ h
      · rw [key_rr] at h; exact wpAny_eqBool_str h
  «strs» := fun k x t v h => by
    rcases keyIs_shape h with ⟨i, u, rfl, e⟩ | ⟨y, u, rfl, e⟩
    · exact nomatch e
    · injection e with e1 _
      subst e1
      cases v <;> rfl

end L2

namespace L2
open PySem PySem.Spec PyProof.Rows

inductive V where
  | non | bl (b : Bool) | int (i : Int) | str (x : Str) | byt (b : Array UInt8) | flt (b : UInt64) | ref (a : Addr) | ty (n : String)
  deriving DecidableEq

def RelV : V → Value → Prop
  | .non, u => u = Value.none
  | .bl b, u => u = Value.bool b
  | .int i, u => ∃ t, u = Value.int i t
  | .str x, u => ∃ t, u = Value.str x t
  | .byt b, u => ∃ t, u = Value.bytes b t
  | .flt b, u => ∃ t, u = Value.float b t
  | .ref a, u => u = Value.ref a
  | .ty n, u => u = Value.type n

abbrev Vals : List V → List Value → Prop := Paired RelV
def RelO : Option V → Option Value → Prop
  | some v, some u => RelV v u
  | none, none => True
  | _, _ => False
def KV {κ : Type} : List (κ × V) → List (κ × Value) → Prop := Paired fun (p : κ × V) (q : κ × Value) => p.1 = q.1 ∧ RelV p.2 q.2

def kV : Key → V
  | .inl i => .int i
  | .inr x => .str x

inductive HO where
  /-- a list -/
  | lst (xs : List V)
  /-- a tuple (never changes) -/
  | tup (xs : List V)
  /-- a dict whose keys are ints and texts; one whose keys are tuples of ints and texts (the empty one is both) -/
  | dK (kvs : List (Key × V)) | dT (kvs : List (List Key × V))
  /-- a set of ints: its members, its size -/
  | set (S : Int → Bool) (n : Nat)
  /-- an instance of the class at C, its dict at dx, its attributes -/
  | ins (C dx : Addr) (fs : List (Str × V))
  /-- the dict of the instance at x -/
  | own (x : Addr)
  /-- the dict of an exception -/
  | xd (fs : List (Str × V))
  /-- a bound method, f of x -/
  | met (f x : Addr)
  /-- a range object lo, lo + 1, .. below hi -/
  | rng (lo hi : Int)
  /-- a thing that is known to the object (the script; a dict while a loop walks it): read, never written while it is so -/
  | frz (o : Obj) (u : HO)
  /-- a code object's table -/
  | tbl (ps : Array Value)
  /-- any other thing, by what is true of its one object (a def of one's own: SetO a S n := HO.ext fun h => ..) -/
  | ext (φ : Heap → Prop)

abbrev Hp := Addr → Option HO
def upd (H : Hp) (a : Addr) (o : HO) : Hp := fun b => if b = a then some o else H b
section
variable (P : Program) (w : World)
def ObjOk (H : Hp) (h : Heap) (a : Addr) : HO → Prop
  | .lst xs => xs.length ≤ sizeLine ∧ ∃ (its : List Value) (n : Nat), Vals xs its ∧ h.get? a = some { cls := .type "list", data := .seq its.toArray n }
  | .tup xs => xs.length ≤ sizeLine ∧ ∃ its : List Value, Vals xs its ∧ IsTup h a its.toArray
  | .dK kvs => kvs.length ≤ sizeLine ∧ (a == sysModules) = false ∧ ∃ vs, KV kvs vs ∧ h.DictOf (mixKind P w) a vs
  | .dT kvs => kvs.length ≤ sizeLine ∧ (a == sysModules) = false ∧ ∃ xs : List (List Key × Addr × Value),
      Paired (fun (p : List Key × V) (q : List Key × Addr × Value) => p.1 = q.1 ∧ H q.2.1 = some (.tup (p.1.map kV)) ∧ RelV p.2 q.2.2) kvs xs ∧
      ∃ o es ep, h.get? a = some o ∧ o.ExactDict ∧ o.data = .dict es ep ∧ es.toList = xs.map (entryOfKey (tupleKind (mixKind P w))) ∧ (xs.map (·.1)).Nodup
  | .set S n => h.SetOf (intKind P w) a S n
  | .ins C dx fs => H dx = some (.own a) ∧ fs.length ≤ 1000 ∧ dx ≠ a ∧ h.get? a = some (PySem.W.instObj C dx) ∧
      ∃ mA, h.Ns1 dx mA ∧ (∀ f, RelO (fs.lookup f) (mA f)) ∧ PySem.Within mA (fs.map (·.1))
  | .own _ => ∃ o, h.get? a = some o
  | .xd fs => ∃ mA, h.Ns1 a mA ∧ ∀ f, RelO (fs.lookup f) (mA f)
  | .rng lo hi => ∃ t u v, h.get? a = some { cls := .type "range", data := .fields #[.int lo t, .int hi u, .int 1 v] }
  | .frz o u => h.get? a = some o ∧ ObjOk H h a u
  | .tbl ps => h.get? a = some { cls := .none, data := .fields ps }
  | .met f x => h.get? a = some (PySem.W.methodObj (.ref f) (.ref x))
  | .ext φ => φ h ∧ (∃ o, h.get? a = some o) ∧ ∀ h1 h2 : Heap, φ h1 → (∀ o, h1.get? a = some o → h2.get? a = some o) → φ h2
def HOk (H : Hp) (h : Heap) : Prop := ∀ a o, H a = some o → ObjOk P w H h a o
end

section
variable {P : Program} {w : World} {H H' : Hp} {h h' : Heap} {a : Addr} {o : HO}
end

def Rd (H : Hp) (a : Addr) (u : HO) : Prop := H a = some u ∨ ∃ o, H a = some (.frz o u)
def Mut : Option HO → Prop
  | some (.lst _) => True
  | some (.dK _) => True
  | some (.dT _) => True
  | some (.set _ _) => True
  | some (.ins _ _ _) => True
  | some (.ext _) => True
  | _ => False
section
variable {P : Program} {w : World} {H : Hp} {h h' : Heap} {x e : Addr} {o' : HO}
end

structure Un (fs ex : List Addr) (H H' : Hp) (h h' : Heap) : Prop where
  keep : ∀ b o, h.get? b = some o → H b = none → b ∉ fs → b ∉ ex → h'.get? b = some o
  slot : ∀ b o, h.get? b = some o → H b = none → b ∈ fs → b ∉ ex → ∃ sl, h'.get? b = some { o with slots := sl }
  free : ∀ b o, h.get? b = some o → H b = none → b ∉ ex → H' b = none
  there : ∀ b o, h.get? b = some o → b ∉ ex → ∃ o', h'.get? b = some o'
  tups : ∀ b xs, H b = some (.tup xs) → H' b = some (.tup xs)
  frzs : ∀ b o u, H b = some (.frz o u) → H' b = some (.frz o u)
  tbls : ∀ b ps, H b = some (.tbl ps) → ∃ more, H' b = some (.tbl (ps ++ more))
section
variable {fs fs' ex ex' : List Addr} {H H1 H2 : Hp} {h h1 h2 h' : Heap} {a x e : Addr} {o : HO}
end

def trk (h : Heap) (H : Hp) : List Addr := (List.range h.objs.size).filter fun a => (H a).isSome
def hidT (h : Heap) (H : Hp) : Heap := PySem.W.hideAll h (trk h H)
def allNews (g h : Heap) (L : Addr) : List (Addr × Obj) := (List.range h.objs.size).filterMap fun a => if a = L ∨ (g.get? a).isSome = true then none else (h.get? a).map fun o => (a, o)
def rest (g h : Heap) (L d : Addr) : List (Addr × Obj) := (allNews g h L).filter fun p => decide (p.1 ≠ d)
end L2

namespace L2
open PySem PySem.Spec PyProof.Rows

structure Mod (K : PySem.W.Frag) (mg : Str → Option Value) (base : Heap) : Prop where
  kin : K.In base
  glob : base.Ns mainGlobals mg
  blt : ∃ mb, base.Ns builtinsNs mb ∧ ∀ x : Str, x ≠ "__name__" → mb x = bootBuiltins x
  nolimit : base.NoLimit

structure Cx where
  prog : Program
  w : World
  K : PySem.W.Frag
  mg : Str → Option Value
  base : Heap
  A : Around
  N : List Str
  s₀ : Shared
  H₀ : Hp
  env : Env
  outer : List Env
  stack : List Env
  ex : List Addr
  fn : Str → Bool
  calm : Bool
  pn : List (Addr × Obj)
  xe : Value → Shared → Prop
def frs (l : List Env) : List Addr := l.filterMap (·.frame)
abbrev Cx.fs (X : Cx) : List Addr := frs X.outer

def Vis (sc : Scope) (x : Str) : Prop := sc.names.lookup x = some .local ∨ sc.names.lookup x = some .cell ∨ sc.names.lookup x = some .free
def Loc (sc : Scope) (x : Str) : Prop := sc.names.lookup x = some .local ∨ sc.names.lookup x = some .cell
def Look (env : Env) (h : Heap) (m : Str → Option Value) (x : Str) (u : Value) : Prop :=
  (env.kindOf x = some .local ∧ m x = some u) ∨ ((env.kindOf x = some .cell ∨ env.kindOf x = some .free) ∧ ∃ c, env.cells.lookup x = some c ∧ h.IsCell c (some u))

structure Cx.Ok (X : Cx) : Prop where
  mod : Mod X.K X.mg X.base
  kind : X.env.scope.kind = .function
  glob : X.env.globals = mainGlobals
  blt : X.env.builtins = builtinsNs
  above : X.s₀.heap.objs.size ≤ X.env.locals
  inj : ∀ x y c, X.env.cells.lookup x = some c → X.env.cells.lookup y = some c → x = y
  has : ∀ x, (X.env.kindOf x = some .cell ∨ X.env.kindOf x = some .free) → ∃ c, X.env.cells.lookup x = some c
  cab : ∀ x c, X.fn x = true → X.env.cells.lookup x = some c → X.s₀.heap.objs.size ≤ c
  hd : X.calm = true → X.A.handled = none
  frames : X.A.frames = some X.stack
  stk : X.stack = X.outer ∨ (X.stack = X.env :: X.outer ∧ X.env.frame = some X.env.locals)
  exf : ∀ b ∈ X.ex, b ≠ X.env.locals ∧ ∀ x c, X.env.cells.lookup x = some c → c ≠ b
  bs : ∀ b o, X.base.get? b = some o → X.s₀.heap.get? b = some o ∧ X.H₀ b = none
  bsz : X.base.objs.size ≤ X.s₀.heap.objs.size
  noex : ∀ b o, X.base.get? b = some o → b ∉ X.ex
  exfs : ∀ b ∈ X.ex, b ∉ X.fs
  funs : X.s₀.heap.FunFrames X.base X.outer
  frf : ∀ b ∈ X.fs, X.H₀ b = none

structure Inv (X : Cx) (pins : List (Addr × Obj)) (σ : List (Option V)) (H : Hp) (s : Shared) : Prop where
  ok : X.Ok
  os : s.os = X.s₀.os
  bare : AllBare s.gens
  base : Un X.fs X.ex X.H₀ H X.s₀.heap s.heap
  loc : ∃ m, s.heap.Ns X.env.locals m ∧ ∀ (i : Nat) (x : Str) (v : V), X.N[i]? = some x → σ[i]? = some (some v) → Vis X.env.scope x → ∃ u, RelV v u ∧ Look X.env s.heap m x u
  cell : ∀ x c, X.env.cells.lookup x = some c → ∃ v, s.heap.IsCell c v
  free : H X.env.locals = none
  freeC : ∀ x c, X.env.cells.lookup x = some c → H c = none
  pin : ∀ p ∈ X.pn ++ pins, s.heap.get? p.1 = some p.2 ∧ H p.1 = none ∧ p.1 ≠ X.env.locals ∧ p.1 ∉ X.fs ∧ ∀ v, p.2.data ≠ .cell v
  hok : HOk X.prog X.w H s.heap
  len : σ.length = X.N.length

section
variable {X : Cx} {pins : List (Addr × Obj)} {σ : List (Option V)} {H H' : Hp} {s : Shared} {h' : Heap}

end

abbrev XK := Value → Option Addr → Hp → Prop
abbrev St := List (Option V)
abbrev VK := V → Hp → Prop
abbrev TE := St → Hp → VK → Prop
abbrev TT := St → Hp → (Bool → Hp → Prop) → Prop
abbrev TA := St → Hp → (List V → Hp → Prop) → Prop
structure Ends where
  nx : St → Hp → Prop
  rt : VK
  bk : St → Hp → Prop := fun _ _ => False
  ct : St → Hp → Prop := fun _ _ => False
abbrev TS := Ends → St → Hp → Prop

def EP (X : Cx) (pins : List (Addr × Obj)) (σ : St) (Q : VK) (u : Value) (s' : Shared) : Prop := ∃ v H', Inv X pins σ H' s' ∧ RelV v u ∧ Q v H'
def TP (X : Cx) (pins : List (Addr × Obj)) (σ : St) (Q : Bool → Hp → Prop) (b : Bool) (s' : Shared) : Prop := ∃ H', Inv X pins σ H' s' ∧ Q b H'
def AP (X : Cx) (pins : List (Addr × Obj)) (σ : St) (Q : List V → Hp → Prop) (us : List Value) (s' : Shared) : Prop := ∃ vs H', Inv X pins σ H' s' ∧ Vals vs us ∧ Q vs H'
def SP (X : Cx) (pins : List (Addr × Obj)) (D : Ends) (f : Flow) (s' : Shared) : Prop :=
  match f with
  | .next => ∃ σ' H', Inv X pins σ' H' s' ∧ D.nx σ' H'
  | .brk => ∃ σ' H', Inv X pins σ' H' s' ∧ D.bk σ' H'
  | .cont => ∃ σ' H', Inv X pins σ' H' s' ∧ D.ct σ' H'
  | .ret u => ∃ v σ' H', Inv X pins σ' H' s' ∧ RelV v u ∧ D.rt v H'

def PE (X : Cx) (e : Expr) (t : TE) : Prop :=
  ∀ (pins : List (Addr × Obj)) (s : Shared) (σ : St) (H : Hp) (Q : VK), Inv X pins σ H s → t σ H Q → wpAny (model X.prog X.w) X.A (eval e X.env) (EP X pins σ Q) X.xe s
def PT (X : Cx) (e : Expr) (t : TT) : Prop :=
  ∀ (pins : List (Addr × Obj)) (s : Shared) (σ : St) (H : Hp) (Q : Bool → Hp → Prop), Inv X pins σ H s → t σ H Q → wpAny (model X.prog X.w) X.A (isTrue e X.env (eval e X.env)) (TP X pins σ Q) X.xe s
def PW (X : Cx) (e : Expr) (t : TT) : Prop :=
  ∀ (whole : Sem Value) (pins : List (Addr × Obj)) (s : Shared) (σ : St) (H : Hp) (Q : Bool → Hp → Prop), Inv X pins σ H s → t σ H Q → wpAny (model X.prog X.w) X.A (isTrue e X.env whole) (TP X pins σ Q) X.xe s
def PA (X : Cx) (es : List Expr) (t : TA) : Prop :=
  ∀ (pos : Pos) (pins : List (Addr × Obj)) (s : Shared) (σ : St) (H : Hp) (Q : List V → Hp → Prop), Inv X pins σ H s → t σ H Q → wpAny (model X.prog X.w) X.A (spliced (backTo pos (starEach es X.env))) (AP X pins σ Q) X.xe s
def PS (X : Cx) (st : Stmt) (t : TS) : Prop :=
  ∀ (pins : List (Addr × Obj)) (s : Shared) (σ : St) (H : Hp) (D : Ends), Inv X pins σ H s → t D σ H → wpAny (model X.prog X.w) X.A (exec st X.env) (SP X pins D) X.xe s
def PSs (X : Cx) (st : List Stmt) (t : TS) : Prop :=
  ∀ (pins : List (Addr × Obj)) (s : Shared) (σ : St) (H : Hp) (D : Ends), Inv X pins σ H s → t D σ H → wpAny (model X.prog X.w) X.A (execs st X.env) (SP X pins D) X.xe s
end L2

namespace L2
open PySem PySem.Spec PyProof.Rows
section
variable {X : Cx}

def tVar (i : Nat) : TE := fun σ H Q => ∃ v, σ[i]? = some (some v) ∧ Q v H
def tC (v : V) : TE := fun _ H Q => Q v H
def Gl (X : Cx) (x : Str) : Prop := X.env.kindOf x = some .globalImplicit
def t2I (ta tb : TE) (k : Int → Int → Hp → Prop) : St → Hp → Prop := fun σ H => ta σ H fun x H1 => tb σ H1 fun y H2 => ∃ i j, x = .int i ∧ y = .int j ∧ k i j H2
def tAdd (ta tb : TE) : TE := fun σ H Q => t2I ta tb (fun i j H2 => Q (.int (i + j)) H2) σ H
def tSub (ta tb : TE) : TE := fun σ H Q => t2I ta tb (fun i j H2 => Q (.int (i - j)) H2) σ H
def tMul (ta tb : TE) : TE := fun σ H Q => t2I ta tb (fun i j H2 => (-(2 ^ 64) < i ∧ i < 2 ^ 64) ∧ Q (.int (i * j)) H2) σ H
variable {a b : Expr} {ta tb : TE} {pos : Pos}
def PC (X : Cx) (op : CmpOp) (a b : Expr) (t : TE) : Prop :=
  ∀ (pins : List (Addr × Obj)) (s : Shared) (σ : St) (H : Hp) (Q : VK), Inv X pins σ H s → t σ H Q →
    wpAny (model X.prog X.w) X.A (eval a X.env) (fun v s₁ => wpAny (model X.prog X.w) X.A (eval b X.env) (fun u s₂ => wpAny (model X.prog X.w) X.A (compareOp op v u) (EP X pins σ Q) X.xe s₂) X.xe s₁) X.xe s
def tCmp (p : Int → Int → Bool) (ta tb : TE) : TE := fun σ H Q => t2I ta tb (fun i j H2 => Q (.bl (p i j)) H2) σ H
abbrev tLt : TE → TE → TE := tCmp fun i j => decide (i < j)
abbrev tLe : TE → TE → TE := tCmp fun i j => decide (i ≤ j)
abbrev tGt : TE → TE → TE := tCmp fun i j => decide (j < i)
abbrev tGe : TE → TE → TE := tCmp fun i j => decide (j ≤ i)
abbrev tEqI : TE → TE → TE := tCmp fun i j => decide (i = j)
abbrev tNeI : TE → TE → TE := tCmp fun i j => !decide (i = j)
def tIsN (ta : TE) : TE := fun σ H Q => ta σ H fun x H1 => Q (.bl (decide (x = .non))) H1
def tNotN (ta : TE) : TE := fun σ H Q => ta σ H fun x H1 => Q (.bl (!decide (x = .non))) H1
def tB (t : TE) : TT := fun σ H Q => t σ H fun x H1 => ∃ c, x = .bl c ∧ Q c H1
variable {tA tB' : TT} {rest : List Expr}
def tAnd (t u : TT) : TT := fun σ H Q => t σ H fun c H1 => if c = true then u σ H1 Q else Q false H1
def tOr (t u : TT) : TT := fun σ H Q => t σ H fun c H1 => if c = true then Q true H1 else u σ H1 Q
def tNot (t : TT) : TT := fun σ H Q => t σ H fun c H1 => Q (!c) H1
def tAndV (ta tb : TE) : TE := fun σ H Q => ta σ H fun x H1 => ∃ c, x = .bl c ∧ if c = true then tb σ H1 Q else Q (.bl false) H1
def tOrV (ta tb : TE) : TE := fun σ H Q => ta σ H fun x H1 => ∃ c, x = .bl c ∧ if c = true then Q (.bl true) H1 else tb σ H1 Q
def tNotV (ta : TE) : TE := fun σ H Q => ta σ H fun x H1 => ∃ c, x = .bl c ∧ Q (.bl (!c)) H1
def tIf (t : TT) (ta tb : TE) : TE := fun σ H Q => t σ H fun c H1 => if c = true then ta σ H1 Q else tb σ H1 Q
end
end L2

namespace L2
open PySem PySem.Spec PyProof.Rows

def SqL (K : PySem.W.Frag) (H : Hp) (a : Addr) (xs : List V) : Prop :=
  Rd H a (.lst xs) ∨
    ∃ (o : Obj) (its : Array Value) (n : Nat), K.lookup a = some o ∧ o.cls = .type "list" ∧ o.dict = none ∧ o.data = .seq its n ∧ its.size ≤ sizeLine ∧ Vals xs its.toList
def SqT (K : PySem.W.Frag) (H : Hp) (a : Addr) (xs : List V) : Prop :=
  Rd H a (.tup xs) ∨
    ∃ (o : Obj) (its : Array Value) (n : Nat), K.lookup a = some o ∧ o.cls = .type "tuple" ∧ o.data = .seq its n ∧ its.size ≤ sizeLine ∧ Vals xs its.toList
def absV : Value → Option V
  | .none => some .non
  | .bool b => some (.bl b)
  | .int i _ => some (.int i)
  | .str x _ => some (.str x)
  | .bytes b _ => some (.byt b)
  | .float b _ => some (.flt b)
  | .ref a => some (.ref a)
  | .type n => some (.ty n)
  | _ => none
section
variable {X : Cx} {pins : List (Addr × Obj)} {σ : St} {H : Hp} {s : Shared} {a : Addr} {xs ys : List V}
end

abbrev Cx.wish (X : Cx) (E : Value → Shared → Prop) : Cx := { X with xe := E }
abbrev Cx.nox (X : Cx) : Cx := X.wish fun _ _ => False
section
variable {X : Cx} {pins : List (Addr × Obj)} {σ : St} {H : Hp} {s : Shared} {E : Value → Shared → Prop}
end

section
variable {X : Cx} {st : Stmt} {rest : List Stmt} {t u : TS} {e : Expr} {te : TE} {pos : Pos}
def tNext : TS := fun D σ H => D.nx σ H
def tSeq (t u : TS) : TS := fun D σ H => t { D with nx := u D } σ H
def tBreak : TS := fun D σ H => D.bk σ H
def tCont : TS := fun D σ H => D.ct σ H
def tDrop (te : TE) : TS := fun D σ H => te σ H fun _ H1 => D.nx σ H1
def tRet (te : TE) : TS := fun D σ H => te σ H D.rt
def tRetN : TS := fun D _ H => D.rt .non H
def tIfS (c : TT) (t u : TS) : TS := fun D σ H => c σ H fun b H1 => if b = true then t D σ H1 else u D σ H1
def tNever : TS := fun _ _ _ => False
end

abbrev TG := V → St → Hp → (St → Hp → Prop) → Prop
abbrev TGs := List V → St → Hp → (St → Hp → Prop) → Prop
def PG (X : Cx) (target : Expr) (t : TG) : Prop :=
  ∀ (pins : List (Addr × Obj)) (s : Shared) (σ : St) (H : Hp) (v : V) (u : Value) (Q : St → Hp → Prop), Inv X pins σ H s → RelV v u → t v σ H Q →
    wpAny (model X.prog X.w) X.A (assign target X.env u) (fun _ s' => ∃ σ' H', Inv X pins σ' H' s' ∧ Q σ' H') X.xe s
def PGs (X : Cx) (ts : List Expr) (t : TGs) : Prop :=
  ∀ (pins : List (Addr × Obj)) (s : Shared) (σ : St) (H : Hp) (vs : List V) (us : List Value) (Q : St → Hp → Prop), Inv X pins σ H s → Vals vs us → t vs σ H Q →
    wpAny (model X.prog X.w) X.A (assignInOrder ((assignEach ts X.env).map (·.2)) us) (fun _ s' => ∃ σ' H', Inv X pins σ' H' s' ∧ Q σ' H') X.xe s
abbrev TSet := V → V → V → Hp → (Hp → Prop) → Prop
def PSet (X : Cx) (t : TSet) : Prop :=
  ∀ (pins : List (Addr × Obj)) (s : Shared) (σ : St) (H : Hp) (o i v : V) (ov iv u : Value) (Q : Hp → Prop), Inv X pins σ H s → RelV o ov → RelV i iv → RelV v u → t o i v H Q →
    wpAny (model X.prog X.w) X.A (setItem ov iv u) (fun _ s' => ∃ H', Inv X pins σ H' s' ∧ Q H') X.xe s
abbrev TIp := V → V → Hp → VK → Prop
def PIp (X : Cx) (op : Operator) (t : TIp) : Prop :=
  ∀ (pins : List (Addr × Obj)) (s : Shared) (σ : St) (H : Hp) (x y : V) (v u : Value) (Q : VK), Inv X pins σ H s → RelV x v → RelV y u → t x y H Q →
    wpAny (model X.prog X.w) X.A (inplaceOp op v u) (EP X pins σ Q) X.xe s
section
variable {X : Cx} {pos : Pos}
def gName (i : Nat) : TG := fun v σ H Q => Q (σ.set i (some v)) H
def gNil : TGs := fun vs σ H Q => vs = [] ∧ Q σ H
def gCons (t : TG) (u : TGs) : TGs := fun vs σ H Q => ∃ v r, vs = v :: r ∧ t v σ H fun σ' H' => u r σ' H' Q
def gTup (K : PySem.W.Frag) (n : Nat) (t : TGs) : TG := fun v σ H Q => ∃ a xs, v = .ref a ∧ SqT K H a xs ∧ xs.length = n ∧ t xs σ H Q
def gSub (to ti : TE) (t : TSet) : TG := fun v σ H Q => to σ H fun o H1 => ti σ H1 fun i H2 => t o i v H2 fun H3 => Q σ H3
def tAsg (te : TE) (g : TG) : TS := fun D σ H => te σ H fun x H1 => g x σ H1 D.nx
def tPar (i j : Nat) (ta : TA) : TS := fun D σ H => ta σ H fun vs H1 => ∃ v w, vs = [v, w] ∧ D.nx ((σ.set i (some v)).set j (some w)) H1
def tAug (i : Nat) (te : TE) (ti : TIp) : TS := fun D σ H => ∃ x, σ[i]? = some (some x) ∧ te σ H fun y H1 => ti x y H1 fun z H2 => D.nx (σ.set i (some z)) H2
def tAugS (to ti te : TE) (tget : V → V → Hp → VK → Prop) (tip : TIp) (tset : TSet) : TS := fun D σ H => to σ H fun o H1 => ti σ H1 fun i H2 => tget o i H2 fun x H3 => te σ H3 fun y H4 => tip x y H4 fun z H5 => tset o i z H5 fun H6 => D.nx σ H6
def PGet (X : Cx) (t : V → V → Hp → VK → Prop) : Prop :=
  ∀ (pins : List (Addr × Obj)) (s : Shared) (σ : St) (H : Hp) (o i : V) (ov iv : Value) (Q : VK), Inv X pins σ H s → RelV o ov → RelV i iv → t o i H Q →
    wpAny (model X.prog X.w) X.A (getItem ov iv) (EP X pins σ Q) X.xe s
def ipI (f : Int → Int → Int) : TIp := fun x y H Q => ∃ i j, x = .int i ∧ y = .int j ∧ Q (.int (f i j)) H
end

section
variable {X : Cx} {pos : Pos}
def tWhile (c : TT) (tb : TS) : TS := fun D σ H => ∃ W : Nat → St → Hp → Prop, (∃ m, W m σ H) ∧ ∀ m σ H, W m σ H →
  c σ H fun b H1 => if b = true then ∃ N : St → Hp → Prop, (∀ σ' H', N σ' H' → ∃ m', m' < m ∧ W m' σ' H') ∧ tb { D with nx := N, ct := N, bk := D.nx } σ H1 else D.nx σ H1
end

structure It where
  go : Nat → Hp → Prop
  yld : Nat → Hp → V → Hp → Prop
  stop : Nat → Hp → Prop
def FpOk (X : Cx) (pins : List (Addr × Obj)) (H : Hp) (b : Addr) : Prop :=
  H b = none ∧ b ≠ X.env.locals ∧ b ∉ X.fs ∧ (b ∈ X.ex ∨ X.s₀.heap.objs.size ≤ b) ∧ (∀ x c, X.env.cells.lookup x = some c → c ≠ b) ∧ ∀ p ∈ X.pn ++ pins, p.1 ≠ b
structure Turn (P : Program) (w : World) (K : PySem.W.Frag) (tg : Expr) (J : It) (fp : List Addr) (it : Addr) (tn : Nat → Heap → Prop) : Prop where
  mem : it ∈ fp
  obj : ∀ i h, tn i h → ∀ b ∈ fp, ∃ o, h.get? b = some o ∧ ∀ v, o.data ≠ .cell v
  keep : ∀ i h h', tn i h → (∀ b ∈ fp, ∀ o, h.get? b = some o → h'.get? b = some o) → tn i h'
  item : ∀ (X : Cx), X.prog = P → X.w = w → X.K = K → X.calm = true → ∀ (i : Nat) (pins : List (Addr × Obj)) (s : Shared) (σ : St) (H : Hp) (E : Value → Shared → Prop), Inv X pins σ H s → (∀ b ∈ fp, FpOk X pins H b) → tn i s.heap → J.go i H →
    wpAny (model P w) X.A (pyNext (.ref it)) (fun r s1 => ∃ u, r = some u ∧
      wpAny (model P w) X.A (letOwnedTupleGo tg (.ref it) u) (fun _ s2 => ∃ x H', Inv X pins σ H' s2 ∧ RelV x u ∧ J.yld i H x H' ∧ tn (i + 1) s2.heap ∧ ∀ b ∈ fp, H' b = none) E s1) E s
  done : ∀ (X : Cx), X.prog = P → X.w = w → X.K = K → X.calm = true → ∀ (i : Nat) (pins : List (Addr × Obj)) (s : Shared) (σ : St) (H : Hp) (E : Value → Shared → Prop), Inv X pins σ H s → (∀ b ∈ fp, FpOk X pins H b) → tn i s.heap → J.stop i H →
    wpAny (model P w) X.A (pyNext (.ref it)) (fun r s1 => r = none ∧ Inv X pins σ H s1) E s
  self : ∀ (A : Around) (i : Nat) (s : Shared) (Q : Value → Shared → Prop) (E : Value → Shared → Prop), tn i s.heap → Q (.ref it) s → wpAny (model P w) A (pyIter (.ref it)) Q E s
abbrev TI := St → Hp → (It → Hp → Prop) → Prop
def PIE (X : Cx) (pins : List (Addr × Obj)) (σ : St) (tg : Expr) (R : It → Hp → Prop) (itv : Value) (s2 : Shared) : Prop :=
  ∃ (it : Addr) (fp : List Addr) (tn : Nat → Heap → Prop) (J : It) (H' : Hp), itv = .ref it ∧ Inv X pins σ H' s2 ∧ Turn X.prog X.w X.K tg J fp it tn ∧ tn 0 s2.heap ∧ (∀ b ∈ fp, FpOk X pins H' b) ∧ R J H'
def PI (X : Cx) (tg iter : Expr) (wi : TI) : Prop :=
  ∀ (pins : List (Addr × Obj)) (s : Shared) (σ : St) (H : Hp) (R : It → Hp → Prop), Inv X pins σ H s → wi σ H R →
    wpAny (model X.prog X.w) X.A (eval iter X.env) (fun v s1 => wpAny (model X.prog X.w) X.A (pyIter v) (PIE X pins σ tg R) X.xe s1) X.xe s

def Itl (K : PySem.W.Frag) (a : Addr) : It :=
  ⟨fun i H => ∃ xs x, SqL K H a xs ∧ xs[i]? = some x, fun i H x H' => H' = H ∧ ∀ xs, SqL K H a xs → xs[i]? = some x, fun i H => ∃ xs, SqL K H a xs ∧ xs.length ≤ i⟩
def Itt (K : PySem.W.Frag) (a : Addr) : It :=
  ⟨fun i H => ∃ xs x, SqT K H a xs ∧ xs[i]? = some x, fun i H x H' => H' = H ∧ ∀ xs, SqT K H a xs → xs[i]? = some x, fun i H => ∃ xs, SqT K H a xs ∧ xs.length ≤ i⟩
def Itr (lo : Int) (n : Nat) : It := ⟨fun i _ => i < n, fun i H x H' => H' = H ∧ x = .int (lo + i), fun i _ => n ≤ i⟩
end L2

namespace L2
open PySem PySem.Spec PyProof.Rows
section
variable {X : Cx} {tg : Expr}
def iList (K : PySem.W.Frag) (tl : TE) : TI := fun σ H R => tl σ H fun x H1 => ∃ a, x = .ref a ∧ (∃ xs, SqL K H1 a xs) ∧ R (Itl K a) H1
def iTup (K : PySem.W.Frag) (tl : TE) : TI := fun σ H R => tl σ H fun x H1 => ∃ a, x = .ref a ∧ (∃ xs, SqT K H1 a xs) ∧ R (Itt K a) H1
def iRng1 (ta : TA) : TI := fun σ H R => ta σ H fun vs H1 => ∃ j : Int, vs = [.int j] ∧ -(2 ^ 62) ≤ j ∧ j < 2 ^ 62 ∧ R (Itr 0 j.toNat) H1
def iRng2 (ta : TA) : TI := fun σ H R => ta σ H fun vs H1 => ∃ i j : Int, vs = [.int i, .int j] ∧ (-(2 ^ 62) ≤ i ∧ i < 2 ^ 62 ∧ -(2 ^ 62) ≤ j ∧ j < 2 ^ 62) ∧ R (Itr i (j - i).toNat) H1
def tFor (wi : TI) (g : TG) (tb : TS) : TS := fun D σ H => wi σ H fun J H1 => ∃ W : Nat → Nat → St → Hp → Prop, (∃ m, W 0 m σ H1) ∧ ∀ i m σ H, W i m σ H →
  (J.stop i H ∧ D.nx σ H) ∨ (J.go i H ∧ ∃ N : St → Hp → Prop, (∀ σ' H', N σ' H' → ∃ m', m' < m ∧ W (i + 1) m' σ' H') ∧ ∀ x H', J.yld i H x H' → g x σ H' fun σ2 H2 => tb { D with nx := N, ct := N, bk := D.nx } σ2 H2)
def pinsAt (fp : List Addr) (h : Heap) : List (Addr × Obj) := fp.filterMap fun b => (h.get? b).map fun o => (b, o)
end

end L2

namespace L2
open PySem PySem.Spec PyProof.Rows

abbrev R2 := V → V → Hp → VK → Prop
def OpR (X : Cx) (f : Value → Value → Sem Value) (r : R2) : Prop :=
  ∀ (pins : List (Addr × Obj)) (s : Shared) (σ : St) (H : Hp) (x y : V) (v u : Value) (Q : VK), Inv X pins σ H s → RelV x v → RelV y u → r x y H Q →
    wpAny (model X.prog X.w) X.A (f v u) (EP X pins σ Q) X.xe s
def UnR (X : Cx) (f : Value → Sem Value) (r : V → Hp → VK → Prop) : Prop :=
  ∀ (pins : List (Addr × Obj)) (s : Shared) (σ : St) (H : Hp) (x : V) (v : Value) (Q : VK), Inv X pins σ H s → RelV x v → r x H Q →
    wpAny (model X.prog X.w) X.A (f v) (EP X pins σ Q) X.xe s
def CallR (X : Cx) (f : Value) (r : List V → Hp → VK → Prop) : Prop :=
  ∀ (pins : List (Addr × Obj)) (s : Shared) (σ : St) (H : Hp) (xs : List V) (us : List Value) (Q : VK), Inv X pins σ H s → Vals xs us → r xs H Q →
    wpAny (model X.prog X.w) X.A (call f us) (EP X pins σ Q) X.xe s
def TruR (X : Cx) (r : V → Hp → (Bool → Hp → Prop) → Prop) : Prop :=
  ∀ (pins : List (Addr × Obj)) (s : Shared) (σ : St) (H : Hp) (x : V) (v : Value) (Q : Bool → Hp → Prop), Inv X pins σ H s → RelV x v → r x H Q →
    wpAny (model X.prog X.w) X.A (truthy v) (TP X pins σ Q) X.xe s

def tOp (r : R2) (ta tb : TE) : TE := fun σ H Q => ta σ H fun x H1 => tb σ H1 fun y H2 => r x y H2 Q
def tUn (r : V → Hp → VK → Prop) (ta : TE) : TE := fun σ H Q => ta σ H fun x H1 => r x H1 Q
def rI (C : Int → Int → Prop) (g : Int → Int → V) : R2 := fun x y H Q => ∃ i j, x = .int i ∧ y = .int j ∧ C i j ∧ Q (g i j) H
def rI0 (g : Int → Int → V) : R2 := fun x y H Q => ∃ i j, x = .int i ∧ y = .int j ∧ Q (g i j) H
def rU (g : Int → V) : V → Hp → VK → Prop := fun x H Q => ∃ i, x = .int i ∧ Q (g i) H

section
variable {X : Cx} {a b c : Expr} {ta tb tc : TE} {pos : Pos}

def CDiv (i j : Int) : Prop := 0 < j ∧ j < 1073741824
def CDivN (i j : Int) : Prop := j ≠ 0 ∧ j.natAbs < 1073741824
def CPow (i j : Int) : Prop := 0 ≤ j ∧ j ≤ 1000000 ∧ i.natAbs < 2 ^ 64
def CMul (i j : Int) : Prop := (-(2 ^ 64) < i ∧ i < 2 ^ 64) ∨ (-(2 ^ 64) < j ∧ j < 2 ^ 64)
end

def scal : V → V → Bool
  | .non, .non => true | .non, .int _ => true | .int _, .non => true | .non, .bl _ => true | .bl _, .non => true | .non, .str _ => true | .str _, .non => true
  | .int _, .int _ => true | .bl _, .bl _ => true | .str _, .str _ => true | .byt _, .byt _ => true
  | .int _, .str _ => true | .str _, .int _ => true | .bl _, .str _ => true | .str _, .bl _ => true
  | _, _ => false
def rEq : R2 := fun x y H Q => scal x y = true ∧ Q (.bl (decide (x = y))) H
def rNe : R2 := fun x y H Q => scal x y = true ∧ Q (.bl (!decide (x = y))) H

section
variable {X : Cx} {a b c : Expr} {ta tb tc : TE} {pos : Pos}
def isObj : HO → Bool
  | .lst _ => true
  | .ins _ _ _ => true
  | _ => false
def tTest (t : TE) : TT := fun σ H Q => t σ H fun x H' => ∃ k, x = .bl k ∧ Q k H'
def tChain (r r' : R2) (ta tb tc : TE) : TE := fun σ H Q => ta σ H fun x H1 => tb σ H1 fun y H2 => r x y H2 fun z H3 => ∃ k, z = .bl k ∧
  (if k = true then tc σ H3 fun w' H4 => r' y w' H4 Q else Q (.bl false) H3)
def TruV (K : PySem.W.Frag) (x : V) (H : Hp) (k : Bool) : Prop :=
  match x with
  | .non => k = false
  | .bl b => k = b
  | .int i => k = (i != 0)
  | .str y => y.length ≤ sizeLine ∧ k = ((y.length : Int) != 0)
  | .byt y => y.size ≤ sizeLine ∧ k = ((y.size : Int) != 0)
  | .ref p => (∃ xs, SqL K H p xs ∧ k = !xs.isEmpty) ∨ (∃ xs, SqT K H p xs ∧ k = !xs.isEmpty) ∨ ∃ kvs, H p = some (.dK kvs) ∧ k = !kvs.isEmpty
  | _ => False
def PlainIxT (b : Expr) : Prop := ∀ o i, subscripted b false o i = operate [o, i] (getItem o i)
def LenV (K : PySem.W.Frag) (x : V) (H : Hp) (n : Nat) : Prop :=
  match x with
  | .str y => y.length ≤ sizeLine ∧ n = y.length
  | .byt y => y.size ≤ sizeLine ∧ n = y.size
  | .ref p => (∃ xs, SqL K H p xs ∧ n = xs.length) ∨ ∃ xs, SqT K H p xs ∧ n = xs.length
  | _ => False
end
end L2

namespace L2
open PySem PySem.Spec PyProof.Rows

structure ObjM (h : Heap) (x dx C : Addr) (mA : Str → Option Value) : Prop where
  obj : h.get? x = some (PySem.W.instObj C dx)
  ns : h.Ns1 dx mA
  ne : dx ≠ x

section
variable {prog : Program} {w : World} {A : Around} {E : Value → Shared → Prop} {s : Shared} {K : PySem.W.Frag} {x dx C f : Addr} {mA : Str → Option Value} {name : Str} {v : Value}

end

def putF (f : Str) (v : V) : List (Str × V) → List (Str × V)
  | [] => [(f, v)]
  | (g, x) :: r => if g = f then (g, v) :: r else (g, x) :: putF f v r
section
variable {P : Program} {w : World} {H H' : Hp} {h h' : Heap} {a C dx : Addr} {fs fs' : List (Str × V)}
end

structure Cls (K : PySem.W.Frag) (C : Addr) : Prop where
  pg : PySem.W.plainGet K C Str.empty = true
  hd : PySem.W.hasDictIn K C = true
  po : PySem.W.plainOver K C = true
  sa : PySem.W.findIn K (.ref C) "__setattr__" = some (some (.builtin "object.__setattr__"))
def NoAttr (K : PySem.W.Frag) (C : Addr) (f : Str) : Prop := PySem.W.findIn K (.ref C) f = some none
structure Con (K : PySem.W.Frag) (C : Addr) (f : Str) (v : V) (u : Value) : Prop where
  at_ : PySem.W.findIn K (.ref C) f = some (some u)
  rel : RelV v u
  get : PySem.W.specialIn K u "__get__" = some none
  cp : PySem.W.copiedNames.contains f = false
structure Meth (K : PySem.W.Frag) (C : Addr) (m : Str) (f : Addr) : Prop where
  at_ : PySem.W.findIn K (.ref C) m = some (some (.ref f))
  fn : PySem.W.isFn K (.ref f) = true
  kp : PySem.W.keepIn K (.ref f) = true

section
variable {X : Cx} {pins : List (Addr × Obj)} {σ : St} {H : Hp} {s : Shared} {a C dx : Addr} {fs : List (Str × V)} {f : Str} {v : V} {A : Around} {E : Value → Shared → Prop}

end

def tFld (K : PySem.W.Frag) (ta : TE) (f : Str) : TE := fun σ H Q => ta σ H fun x H1 => ∃ a C dx fs v, x = .ref a ∧ H1 a = some (.ins C dx fs) ∧ Cls K C ∧ NoAttr K C f ∧ fs.lookup f = some v ∧ Q v H1
def tCon (K : PySem.W.Frag) (ta : TE) (f : Str) : TE := fun σ H Q => ta σ H fun x H1 => ∃ a C dx fs v u, x = .ref a ∧ H1 a = some (.ins C dx fs) ∧ Cls K C ∧ Con K C f v u ∧ fs.lookup f = none ∧ Q v H1
def sFld (K : PySem.W.Frag) (ta tv : TE) (f : Str) : TS := fun D σ H => tv σ H fun y H1 => ta σ H1 fun x H2 => ∃ a C dx fs, x = .ref a ∧ H2 a = some (.ins C dx fs) ∧ Cls K C ∧ NoAttr K C f ∧ fs.length < 1000 ∧
  D.nx σ (upd H2 a (.ins C dx (putF f y fs)))
def InOp (X : Cx) (op : Operator) (rd : V → V → Hp → VK → Prop) : Prop :=
  ∀ (pins : List (Addr × Obj)) (s : Shared) (σ : St) (H : Hp) (x y : V) (u v : Value) (Q : VK), Inv X pins σ H s → RelV x u → RelV y v → rd x y H Q → wpAny (model X.prog X.w) X.A (inplaceOp op u v) (EP X pins σ Q) X.xe s
def sFldAug (K : PySem.W.Frag) (ta tv : TE) (rd : V → V → Hp → VK → Prop) (f : Str) : TS := fun D σ H => ta σ H fun x H1 => ∃ a C dx fs v, x = .ref a ∧ H1 a = some (.ins C dx fs) ∧ Cls K C ∧ NoAttr K C f ∧ fs.lookup f = some v ∧
  tv σ H1 fun y H2 => rd v y H2 fun z H3 => ∃ dx' fs', H3 a = some (.ins C dx' fs') ∧ fs'.length < 1000 ∧ D.nx σ (upd H3 a (.ins C dx' (putF f z fs')))

section
variable {X : Cx} {o e value : Expr} {f : Str} {pos pos' tpos : Pos} {ta tv : TE}
def rAdd : V → V → Hp → VK → Prop := fun x y H Q => ∃ i j, x = .int i ∧ y = .int j ∧ Q (.int (i + j)) H
def rSub : V → V → Hp → VK → Prop := fun x y H Q => ∃ i j, x = .int i ∧ y = .int j ∧ Q (.int (i - j)) H
end

section
variable {X : Cx} {pins : List (Addr × Obj)} {σ : St} {H : Hp} {s : Shared} {A : Around} {E : Value → Shared → Prop} {Q : Value → Shared → Prop} {c : Value} {b : Bool}
inductive TyOf (K : PySem.W.Frag) (H : Hp) : V → Value → Prop where
  | non : TyOf K H .non (.type "NoneType")
  | bl (x : Bool) : TyOf K H (.bl x) (.type "bool")
  | int (i : Int) : TyOf K H (.int i) (.type "int")
  | str (x : Str) : TyOf K H (.str x) (.type "str")
  | flt (x : UInt64) : TyOf K H (.flt x) (.type "float")
  | lst {a : Addr} {xs : List V} (e : H a = some (.lst xs)) : TyOf K H (.ref a) (.type "list")
  | frz {a : Addr} {o : Obj} {xs : List V} (e : H a = some (.frz o (.lst xs))) : TyOf K H (.ref a) (.type "list")
  | tup {a : Addr} {xs : List V} (e : H a = some (.tup xs)) : TyOf K H (.ref a) (.type "tuple")
  | dK {a : Addr} {kvs : List (Key × V)} (e : H a = some (.dK kvs)) : TyOf K H (.ref a) (.type "dict")
  | dT {a : Addr} {kvs : List (List Key × V)} (e : H a = some (.dT kvs)) : TyOf K H (.ref a) (.type "dict")
  | ins {a C dx : Addr} {fs : List (Str × V)} (e : H a = some (.ins C dx fs)) (cl : Cls K C) (ha : PySem.W.findIn K (.ref C) "__class__" = some (some (.builtin "object.__class__")))
      (hn : PySem.W.specialIn K (.builtin "object.__class__") "__get__" = some (some (.builtin "getset_descriptor.__get__"))) (htk : PySem.W.takesIn K (.builtin "object.__class__") = some true)
      (hm : PySem.W.mroIn K C (.type "object") = some true) : TyOf K H (.ref a) (.ref C)
end
end L2

namespace L2
open PySem PySem.Spec PyProof.Rows

structure Room (k : Nat) (A : Around) : Prop where
  hd : A.handled = none
  dp : A.depth + 3 * k + 5 < recursionLimit
  un : A.units + 16 * k + 200 < cLine
def tNil : TA := fun _ H Q => Q [] H
def tCons (ta : TE) (tr : TA) : TA := fun σ H Q => ta σ H fun x H1 => tr σ H1 fun xs H2 => Q (x :: xs) H2
section
variable {X : Cx} {e : Expr} {es : List Expr} {te : TE} {t : TA} {pos : Pos}
def tTup (t : TA) : TE := fun σ H Q => t σ H fun xs H1 => xs.length ≤ sizeLine ∧ ∀ p, H1 p = none → Q (.ref p) (upd H1 p (.tup xs))
def tLst (t : TA) : TE := fun σ H Q => t σ H fun xs H1 => xs.length ≤ sizeLine ∧ ∀ p, H1 p = none → Q (.ref p) (upd H1 p (.lst xs))
end

abbrev Sp := List V → Hp → VK → XK → Prop
abbrev CXT := List Env → Hp → Shared → XK → Value → Shared → Prop

structure Env0 (P : Program) (w : World) (K : PySem.W.Frag) (mg : Str → Option Value) (base : Heap) (A : Around) (outer : List Env) (s : Shared) (H : Hp) : Prop where
  frames : A.frames = some outer
  mod : Mod K mg base
  bs : ∀ b o, base.get? b = some o → s.heap.get? b = some o ∧ H b = none
  bsz : base.objs.size ≤ s.heap.objs.size
  funs : s.heap.FunFrames base outer
  frf : ∀ b ∈ frs outer, H b = none
  hok : HOk P w H s.heap
  bare : AllBare s.gens
def CE (outer : List Env) (P : Program) (w : World) (H : Hp) (s : Shared) (Q : VK) (u : Value) (s' : Shared) : Prop :=
  ∃ v H', s'.os = s.os ∧ AllBare s'.gens ∧ Un (frs outer) [] H H' s.heap s'.heap ∧ HOk P w H' s'.heap ∧ RelV v u ∧ Q v H'
def CR (CX : CXT) (outer : List Env) (P : Program) (w : World) (H : Hp) (s : Shared) (Q : VK) (E : XK) (r : Result) (s' : Shared) : Prop :=
  match r with
  | .ok (.ret u) => CE outer P w H s Q u s'
  | .ok _ => False
  | .error e => CX outer H s E e s'
structure FnOk (P : Program) (w : World) (K : PySem.W.Frag) (mg : Str → Option Value) (base : Heap) (CX : CXT) (k : Nat) (f : Addr) (fd : FuncData) (ps : List Str) (sp : Sp) : Prop where
  len : ∀ vs H Q E, sp vs H Q E → vs.length = ps.length
  run : ∀ (A : Around) (outer : List Env) (s : Shared) (H : Hp) (args : Args) (us : List Value) (vs : List V) (Q : VK) (E : XK), Room k A → Env0 P w K mg base A outer s H → BindsTo s fd args (ps.zip us) → Vals vs us → sp vs H Q E →
    codeAny (model P w) A (.call (.ref f) args) (CR CX outer P w H s Q E) s
section
variable {X : Cx} {pins : List (Addr × Obj)} {σ : St} {H : Hp} {s s' : Shared}
end

def tCall (sp : Sp) (dvs : List V) (E : XK) (t : TA) : TE := fun σ H Q => t σ H fun vs H1 => sp (vs ++ dvs) H1 Q E
def tMeth (C : Addr) (m : Str) (sp : Sp) (dvs : List V) (E : XK) (ta : TE) (t : TA) : TE := fun σ H Q => ta σ H fun x H1 => ∃ a dx fs, x = .ref a ∧ H1 a = some (.ins C dx fs) ∧ fs.lookup m = none ∧
  t σ H1 fun vs H2 => sp (x :: (vs ++ dvs)) H2 Q E
def tMake (C : Addr) (sp : Sp) (dvs : List V) (E : XK) (t : TA) : TE := fun σ H Q => t σ H fun vs H1 => ∀ x dx, H1 x = none → H1 dx = none → dx ≠ x →
  sp (.ref x :: (vs ++ dvs)) (upd (upd H1 dx (.own x)) x (.ins C dx [])) (fun v H2 => v = .non ∧ Q (.ref x) H2) E

def Binds (K : PySem.W.Frag) (fd : FuncData) (ps : List Str) (ds : List Value) : Prop :=
  ∀ (s : Shared) (us : List Value), K.In s.heap → (us ++ ds).length = ps.length → BindsTo s fd ⟨us, []⟩ (ps.zip (us ++ ds))
def Passes (CX : CXT) (X : Cx) (E : XK) : Prop := ∀ (pins : List (Addr × Obj)) (σ : St) (H : Hp) (s : Shared) (e : Value) (s' : Shared), Inv X pins σ H s → CX X.stack H s E e s' → X.xe e s'

section
variable {X : Cx} {CX : CXT} {k : Nat} {f C : Addr} {fd : FuncData} {ps : List Str} {sp : Sp} {dvs : List V} {ds : List Value} {E : XK} {x m : Str} {p pos apos : Pos} {e o : Expr} {es : List Expr} {ta : TE} {t : TA}

structure Mk (K : PySem.W.Frag) (C f : Addr) : Prop where
  makes : PySem.W.makesIn K C = true
  init : PySem.W.findIn K (.ref C) "__init__" = some (some (.ref f))
  fn : PySem.W.isFn K (.ref f) = true
  kp : PySem.W.keepIn K (.ref C) = true

end

def PK (X : Cx) (kws : List Keyword) (t : TA) : Prop :=
  ∀ (pos : Pos) (pins : List (Addr × Obj)) (s : Shared) (σ : St) (H : Hp) (Q : List V → Hp → Prop), Inv X pins σ H s → t σ H Q → wpAny (model X.prog X.w) X.A (evalAll ((backToKw pos (keywordEach kws X.env)).map (·.2))) (AP X pins σ Q) X.xe s
section
variable {X : Cx} {CX : CXT} {k : Nat} {f C : Addr} {fd : FuncData} {ps ks : List Str} {sp : Sp} {E : XK} {x m : Str} {p pos apos kpos : Pos} {e o : Expr} {es : List Expr} {kws : List Keyword} {te ta : TE} {t tk : TA} {nm : Option Str}
structure KBinds (K : PySem.W.Frag) (fd : FuncData) (ps ks : List Str) (g : List Value → List Value → List Value) (gV : List V → List V → List V) : Prop where
  to : ∀ (s : Shared) (us ws : List Value), K.In s.heap → (g us ws).length = ps.length → BindsTo s fd ⟨us, ks.zip ws⟩ (ps.zip (g us ws))
  rel : ∀ {vs : List V} {us : List Value} {zs : List V} {ws : List Value}, Vals vs us → Vals zs ws → Vals (gV vs zs) (g us ws)
def tCallK (sp : Sp) (gV : List V → List V → List V) (E : XK) (t tk : TA) : TE := fun σ H Q => t σ H fun vs H1 => tk σ H1 fun zs H2 => sp (gV vs zs) H2 Q E
variable {g : List Value → List Value → List Value} {gV : List V → List V → List V}
end

structure FnScope (N P : List Str) (sc : Scope) : Prop where
  kind : sc.kind = .function
  co : sc.isCoroutine = false
  gen : sc.isGenerator = false
  nd : N.Nodup
  pre : N.take P.length = P
  par : ∀ x ∈ P, sc.names.lookup x = some .local ∨ sc.names.lookup x = some .cell
  nofree : ∀ y ∈ sc.names, y.2 ≠ .free

def start (N : List Str) (vs : List V) : St := vs.map some ++ List.replicate (N.length - vs.length) none

def cxOf (CX : CXT) (P : Program) (w : World) (K : PySem.W.Frag) (mg : Str → Option Value) (base : Heap) (N : List Str) (qual : Str) (scope : Scope) (f : Addr) (cd : Value) (A : Around) (outer : List Env) (s : Shared) (H : Hp) (E : XK) : Cx where
  prog := P
  w := w
  K := K
  mg := mg
  base := base
  A := A.deeper (envOfC qual scope s.heap.objs.size f cd)
  N := N
  s₀ := s
  H₀ := H
  env := envOfC qual scope s.heap.objs.size f cd
  outer := outer
  stack := envOfC qual scope s.heap.objs.size f cd :: outer
  ex := []
  calm := true
  fn := fun _ => true
  pn := []
  xe := fun e s' => wpAny (model P w) (A.deeper (envOfC qual scope s.heap.objs.size f cd)) (leaving (envOfC qual scope s.heap.objs.size f cd) e) (fun _ s'' => CX outer H s E e s'') (fun e' s'' => CX outer H s E e' s'') s'

end L2

namespace L2
open PySem PySem.Spec PyProof.Rows
section
variable {X : Cx} {x : Str} {p pos : Pos} {e : Expr} {es : List Expr} {t : TA} {id T : String} {r : List V → Hp → VK → Prop}

def tCB (r : List V → Hp → VK → Prop) (t : TA) : TE := fun σ H Q => t σ H fun vs H1 => r vs H1 Q
end
end L2

namespace HT
open PySem PyProof.Rows

def lexLt : List Int → List Int → Bool
  | [], [] => false
  | [], _ :: _ => true
  | _ :: _, [] => false
  | x :: xs, y :: ys => if x = y then lexLt xs ys else decide (x < y)
section
open PySem.SeqAt
open PySem.AutoSeq1 (wpAny_loadPart')
open PySem.MeetsSeq PySem.MeetsSeq2 PySem.MeetsSeq3

end

section
variable {prog : Program} {w : World} {A : Around} {E : Value → Shared → Prop} {s : Shared}

def sIx (n d : Nat) : Option Int → Nat
  | none => d
  | some v => if v < 0 then (v + (n : Int)).toNat else min v.toNat n
end
end HT

namespace L2
open PySem PySem.Spec PyProof.Rows

abbrev TO := St → Hp → (Option Int → Hp → Prop) → Prop
def PO (X : Cx) (e : Option Expr) (t : TO) : Prop :=
  ∀ (pins : List (Addr × Obj)) (s : Shared) (σ : St) (H : Hp) (Q : Option Int → Hp → Prop), Inv X pins σ H s → t σ H Q →
    wpAny (model X.prog X.w) X.A (evalPart e X.env) (fun u s' => ∃ o H', Inv X pins σ H' s' ∧ IsPart u o ∧ Q o H') X.xe s
def tNoPart : TO := fun _ H Q => Q none H
def tPart (t : TE) : TO := fun σ H Q => t σ H fun x H1 => ∃ i, x = .int i ∧ Q (some i) H1

section
variable {X : Cx} {e : Expr} {te : TE} {lo hi : Option Expr} {tl th : TO} {pos p2 : Pos}

def SlR (X : Cx) (r : V → Option Int → Option Int → Hp → VK → Prop) : Prop :=
  ∀ (pins : List (Addr × Obj)) (s : Shared) (σ : St) (H : Hp) (x : V) (v vl vu : Value) (lo hi : Option Int) (sl : Addr) (Q : VK), Inv X pins σ H s → RelV x v → s.heap.IsSliceOf sl vl vu .none → IsPart vl lo → IsPart vu hi → r x lo hi H Q →
    ∃ T id, typeLookup (.type T) "__getitem__" = pure (some (.builtin id)) ∧ s.TypeIs v T ∧ wpAny (model X.prog X.w) X.A (getItem v (.ref sl)) (EP X pins σ Q) X.xe s
def tSl (r : V → Option Int → Option Int → Hp → VK → Prop) (te : TE) (tl th : TO) : TE := fun σ H Q => te σ H fun x H1 => tl σ H1 fun l H2 => th σ H2 fun u H3 => r x l u H3 Q
def cutV (xs : List V) (lo hi : Option Int) : List V := (xs.drop (HT.sIx xs.length 0 lo)).take (HT.sIx xs.length xs.length hi - HT.sIx xs.length 0 lo)
def rSlT (K : PySem.W.Frag) : V → Option Int → Option Int → Hp → VK → Prop := fun x lo hi H Q => ∃ a xs, x = .ref a ∧ SqT K H a xs ∧
  ¬ (HT.sIx xs.length 0 lo = 0 ∧ HT.sIx xs.length xs.length hi = xs.length) ∧ ∀ p, H p = none → Q (.ref p) (upd H p (.tup (cutV xs lo hi)))
def rLtT (K : PySem.W.Frag) : R2 := fun x y H Q => ∃ a b ns ms, x = .ref a ∧ y = .ref b ∧ SqT K H a (ns.map V.int) ∧ SqT K H b (ms.map V.int) ∧ Q (.bl (HT.lexLt ns ms)) H
def rCatT (K : PySem.W.Frag) : R2 := fun x y H Q => ∃ a b xs ys, x = .ref a ∧ y = .ref b ∧ SqT K H a xs ∧ SqT K H b ys ∧ xs ≠ [] ∧ xs.length + ys.length ≤ sizeLine ∧
  (ys = [] → Q (.ref a) H) ∧ (ys ≠ [] → ∀ p, H p = none → Q (.ref p) (upd H p (.tup (xs ++ ys))))
end
end L2

namespace L2
open PySem PySem.Spec PyProof.Rows

def ixN (n : Nat) (i : Int) : Option Nat := if 0 ≤ i then (if i < n then some i.toNat else none) else if -(n : Int) ≤ i then some (i + n).toNat else none
def atI {α : Type} (xs : List α) (i : Int) : Option α := (ixN xs.length i).bind fun j => xs[j]?
def PlainIx (b : Expr) : Prop := ∀ o i, subscripted b false o i = operate [o, i] (getItem o i)
def IxR (X : Cx) (r : R2) : Prop :=
  ∀ (value slice : Expr) (pins : List (Addr × Obj)) (s : Shared) (σ : St) (H : Hp) (x y : V) (v u : Value) (Q : VK), Inv X pins σ H s → RelV x v → RelV y u → r x y H Q →
    subscripted slice false v u = operate [v, u] (getItem v u) → wpAny (model X.prog X.w) X.A (subscriptTail value slice v u) (EP X pins σ Q) X.xe s
def MtR (X : Cx) (id : String) (r : V → List V → Hp → VK → Prop) : Prop :=
  ∀ (pins : List (Addr × Obj)) (s : Shared) (σ : St) (H : Hp) (x : V) (xs : List V) (v : Value) (us : List Value) (Q : VK), Inv X pins σ H s → RelV x v → Vals xs us → r x xs H Q →
    wpAny (model X.prog X.w) X.A (call (.builtin id) (v :: us)) (EP X pins σ Q) X.xe s
section
variable {X : Cx} {a b : Expr} {ta tb : TE} {pos : Pos}
def rIxL (K : PySem.W.Frag) : R2 := fun x y H Q => ∃ p xs i v, x = .ref p ∧ y = .int i ∧ SqL K H p xs ∧ atI xs i = some v ∧ Q v H
def rIxT (K : PySem.W.Frag) : R2 := fun x y H Q => ∃ p xs i v, x = .ref p ∧ y = .int i ∧ SqT K H p xs ∧ atI xs i = some v ∧ Q v H
def rIxS : R2 := fun x y H Q => ∃ z i c, x = .str z ∧ y = .int i ∧ z.length ≤ sizeLine ∧ atI z.cps.toList i = some c ∧ Q (.str ⟨#[c]⟩) H
def rIx (K : PySem.W.Frag) : R2 := fun x y H Q => rIxL K x y H Q ∨ rIxT K x y H Q ∨ rIxS x y H Q
def rSetL : V → V → V → Hp → (Hp → Prop) → Prop := fun o i v H Q => ∃ p xs k j, o = .ref p ∧ i = .int k ∧ H p = some (.lst xs) ∧ ixN xs.length k = some j ∧ Q (upd H p (.lst (xs.set j v)))
def rSlL (K : PySem.W.Frag) : V → Option Int → Option Int → Hp → VK → Prop := fun x lo hi H Q => ∃ a xs, x = .ref a ∧ SqL K H a xs ∧ ∀ p, H p = none → Q (.ref p) (upd H p (.lst (cutV xs lo hi)))
def flatV : V → Bool
  | .non => true
  | .bl _ => true
  | .int _ => true
  | .str _ => true
  | _ => false
def eqV : V → V → Bool
  | .non, .non => true
  | .bl a, .bl b => a == b
  | .bl a, .int b => (if a then 1 else 0) == b
  | .int a, .bl b => a == (if b then 1 else 0)
  | .int a, .int b => a == b
  | .str a, .str b => a == b
  | _, _ => false
def eqU (x : V) (u : Value) : Bool := match u with
  | .none => eqV .non x
  | .bool b => eqV (.bl b) x
  | .int i _ => eqV (.int i) x
  | .str z _ => eqV (.str z) x
  | _ => false
def inV (x : V) (xs : List V) : Bool := xs.any fun y => eqV y x
def rIn (K : PySem.W.Frag) (neg : Bool) : R2 := fun x y H Q => ∃ p xs, y = .ref p ∧ (SqL K H p xs ∨ SqT K H p xs) ∧ flatV x = true ∧ xs.all flatV = true ∧ Q (.bl (if neg then !inV x xs else inV x xs)) H
def tyV (K : PySem.W.Frag) (T : String) (x : V) (H : Hp) : Prop := match x with
  | .str _ => T = "str"
  | .int _ => T = "int"
  | .ref p => (T = "list" ∧ ∃ xs, SqL K H p xs) ∨ (T = "tuple" ∧ ∃ o, K.lookup p = some o ∧ o.cls = .type "tuple" ∧ o.dict = none) ∨
      (T = "dict" ∧ ((∃ kvs, H p = some (.dK kvs)) ∨ ∃ kvs, H p = some (.dT kvs))) ∨ (T = "set" ∧ ∃ S n, H p = some (.set S n))
  | _ => False
def tBM0 (K : PySem.W.Frag) (T : String) (r : V → List V → Hp → VK → Prop) (to : TE) : TE := fun σ H Q => to σ H fun x H1 => tyV K T x H1 ∧ r x [] H1 Q
def tBM (K : PySem.W.Frag) (T : String) (r : V → List V → Hp → VK → Prop) (to : TE) (t : TA) : TE := fun σ H Q => to σ H fun x H1 => tyV K T x H1 ∧ t σ H1 fun xs H2 => r x xs H2 Q
variable {o e : Expr} {es : List Expr} {to : TE} {t : TA} {name : Str} {apos cpos : Pos} {T id : String} {r : V → List V → Hp → VK → Prop}
/- xs.append(e), list.index on a module's tuple .. are MtR facts of 06m -/
end
end L2

namespace L2
open PySem PySem.Spec PyProof.Rows

def MtM (X : Cx) (id : String) (r : V → List V → Hp → VK → Prop) : Prop :=
  ∀ (pins : List (Addr × Obj)) (s : Shared) (σ : St) (H : Hp) (x : V) (xs : List V) (v : Value) (us : List Value) (Q : VK), Inv X pins σ H s → RelV x v → Vals xs us → r x xs H Q →
    wpAny (model X.prog X.w) X.A (call (.builtin id) (v :: us)) (EP X pins σ Q) X.xe s

section
variable {X : Cx} {pins : List (Addr × Obj)} {σ : St} {H : Hp} {s : Shared} {l b : Addr} {xs ys zs : List V}

end

section
variable {X : Cx}

def rAppend : V → List V → Hp → VK → Prop := fun x vs H Q => ∃ l xs y, x = .ref l ∧ vs = [y] ∧ H l = some (.lst xs) ∧ xs.length < sizeLine ∧ Q .non (upd H l (.lst (xs ++ [y])))
def rExtend : V → List V → Hp → VK → Prop := fun x vs H Q => ∃ l b xs zs, x = .ref l ∧ vs = [.ref b] ∧ H l = some (.lst xs) ∧ H b = some (.lst zs) ∧ xs.length + zs.length ≤ sizeLine ∧ Q .non (upd H l (.lst (xs ++ zs)))
def rPop : V → List V → Hp → VK → Prop := fun x vs H Q => ∃ l xs y, x = .ref l ∧ vs = [] ∧ H l = some (.lst xs) ∧ xs[xs.length - 1]? = some y ∧ Q y (upd H l (.lst xs.dropLast))
def rPopAt : V → List V → Hp → VK → Prop := fun x vs H Q => ∃ l xs i k y, x = .ref l ∧ vs = [.int i] ∧ H l = some (.lst xs) ∧ -(2 ^ 63) ≤ i ∧ i < 2 ^ 63 ∧ seqIndex? i xs.length = some k ∧ xs[k]? = some y ∧ Q y (upd H l (.lst (xs.eraseIdx k)))
def rReverse : V → List V → Hp → VK → Prop := fun x vs H Q => ∃ l xs, x = .ref l ∧ vs = [] ∧ H l = some (.lst xs) ∧ Q .non (upd H l (.lst xs.reverse))
def rClear : V → List V → Hp → VK → Prop := fun x vs H Q => ∃ l xs, x = .ref l ∧ vs = [] ∧ H l = some (.lst xs) ∧ Q .non (upd H l (.lst []))
def rCat : R2 := fun x y H Q => ∃ l b xs zs, x = .ref l ∧ y = .ref b ∧ H l = some (.lst xs) ∧ H b = some (.lst zs) ∧ xs.length + zs.length ≤ sizeLine ∧ ∀ p, H p = none → Q (.ref p) (upd H p (.lst (xs ++ zs)))
def rRep : R2 := fun x y H Q => ∃ l k xs, x = .ref l ∧ y = .int k ∧ H l = some (.lst xs) ∧ -(2 ^ 63) ≤ k ∧ k < 2 ^ 63 ∧ xs.length * k.toNat ≤ sizeLine ∧
  ∀ p, H p = none → Q (.ref p) (upd H p (.lst (List.replicate k.toNat xs).flatten))
end

section
variable {prog : Program} {w : World} {A : Around} {E : Value → Shared → Prop} {s : Shared}
end

section
variable {X : Cx}
end
end L2

namespace Att
open PySem PySem.W PySem.Calls PyProof.Rows

section
variable {prog : Program} {w : World} {A : Around} {E : Value → Shared → Prop} {s : Shared} {K : Frag}

def noObjs (h : Heap) : Heap := { h with objs := #[] }
def ledger (h : Heap) (L d : Addr) : List (Addr × Obj) := (List.range h.objs.size).filterMap fun a => if a = L ∨ a = d then none else (h.get? a).map fun o => (a, o)
end
end Att

namespace L2
open PySem PySem.Spec PyProof.Rows

def Only (H : Hp) : Prop := ∀ b, H b = none ∨ ∃ o xs, H b = some (.frz o (.lst xs))

end L2

namespace L2
open PySem PySem.Spec PyProof.Rows

abbrev KOf {K : PySem.W.Frag} {h : Heap} (_ : K.In h) : PySem.W.Frag := K

end L2

namespace L2
open PySem PySem.Spec PyProof.Rows

def inClass (s : Stmt) (j : Nat) : Stmt := match s with
  | .ClassDef _ _ _ body _ _ _ _ _ _ _ => body.getD j (.Pass ⟨0, 0, 0, 0⟩)
  | _ => .Pass ⟨0, 0, 0, 0⟩
def defArgs (s : Stmt) : Arguments := match s with
  | .FunctionDef _ a _ _ _ _ _ _ _ _ => a
  | _ => { posonlyargs := [], args := [], vararg := none, kwonlyargs := [], kw_defaults := [], kwarg := none, defaults := [] }
def defBody (s : Stmt) : List Stmt := match s with
  | .FunctionDef _ _ b _ _ _ _ _ _ _ => b
  | _ => []
def defScope (s : Stmt) : Scope := match s with
  | .FunctionDef _ _ _ _ _ _ sc _ _ _ => sc
  | _ => { kind := .function, names := [], isGenerator := false, isCoroutine := false }

abbrev CX0 : CXT := fun _ _ _ _ _ _ => False
abbrev E0 : XK := fun _ _ _ => False
structure Fun (K : PySem.W.Frag) (x qual : Str) (st : Stmt) (f : Addr) (fd : FuncData) : Prop where
  ex : ∃ (oc : Value) (od : Option Addr) (kV doc pm : Value) (an : Option Addr) (cdv ct : Value) (osl : Array (Option Value)),
    fd = PySem.W.fnOf x qual (defArgs st) (defBody st) (defScope st) .none kV doc pm an cdv ct ∧ K.lookup f = some ⟨oc, od, .func fd, osl⟩ ∧ PySem.W.codeIn K cdv qual = true
  kp : PySem.W.keepIn K (.ref f) = true
section
variable {P : Program} {w : World} {K : PySem.W.Frag} {mg : Str → Option Value} {base : Heap}
end
section
variable {X : Cx}
end

def Same (H H' : Hp) : Prop := ∀ b o, H b = some o → H' b = some o
end L2

namespace L2
open PySem PySem.Spec PyProof.Rows

section
variable {X : Cx}
def CDivL (_ j : Int) : Prop := j ≠ 0 ∧ j.natAbs.log2 < 9000
end

section
variable {P : Program} {w : World} {H H1 H2 : Hp} {h h1 h2 : Heap} {a : Addr} {o : HO}
end

structure Fly (P : Program) (w : World) (outer : List Env) (H : Hp) (s : Shared) (cls a0 : Value) (ea : Addr) (B : Heap) (H' : Hp) (s' : Shared) : Prop where
  os : s'.os = s.os
  bare : AllBare s'.gens
  un : Un (frs outer) [] H H' s.heap s'.heap
  hok : HOk P w H' s'.heap
  fly : Heap.FlyingW B outer ea cls a0 s'.heap
  frf : ∀ b ∈ frs outer, H' b = none
  cov : ∀ b o, s'.heap.get? b = some o → b ∉ frs outer → (H' b ≠ none ∨ ∃ o', s.heap.get? b = some o') → B.get? b = some o
def XF (P : Program) (w : World) : CXT := fun outer H s E e s' => ∃ (ea : Addr) (cls a0 : Value) (B : Heap) (H' : Hp), e = .ref ea ∧ Fly P w outer H s cls a0 ea B H' s' ∧ E cls none H'

section
variable {P : Program} {w : World} {K : PySem.W.Frag} {mg : Str → Option Value} {base : Heap} {N : List Str} {qual : Str} {scope : Scope} {f : Addr} {cd : Value} {A : Around} {outer : List Env} {s0 s1 : Shared} {H0 H1 : Hp} {E : XK}
  {pins : List (Addr × Obj)} {σ : St}
end
end L2

namespace L2
open PySem PySem.Spec PyProof.Rows PySem.W PySem.Calls Builtin Builtin.ObjectAttr Builtin.Getset_descriptor

def ExcAt (C e : Addr) (h : Heap) : Prop := ∃ o, h.get? e = some o ∧ o.cls = .ref C ∧ notCls o = true
structure ExcCls (K : Frag) (C : Addr) : Prop where
  cls : (clsIn K C).isSome = true
  ga : findIn K (.ref C) "__getattribute__" = some (some (.builtin "BaseException.__getattribute__"))
  gt : findIn K (.ref C) "__getattr__" = some none
  cl : findIn K (.ref C) "__class__" = some (some (.builtin "object.__class__"))
  get : specialIn K (.builtin "object.__class__") "__get__" = some (some (.builtin "getset_descriptor.__get__"))
  tk : takesIn K (.builtin "object.__class__") = some true
  ob : mroIn K C (.type "object") = some true
  be : mroIn K C (.type "BaseException") = some true
section
variable {prog : Program} {w : World} {A : Around} {E : Value → Shared → Prop} {s : Shared} {K : Frag} {e C : Addr}
end
end L2

namespace L2
open PySem PySem.Spec PyProof.Rows

structure RoomQ (k : Nat) (A : Around) : Prop where
  dp : A.depth + 3 * k + 5 < recursionLimit
  un : A.units + 16 * k + 200 < cLine
structure FnOkQ (P : Program) (w : World) (K : PySem.W.Frag) (mg : Str → Option Value) (base : Heap) (k : Nat) (f : Addr) (fd : FuncData) (ps : List Str) (sp : Sp) : Prop where
  len : ∀ vs H Q E, sp vs H Q E → vs.length = ps.length
  run : ∀ (A : Around) (outer : List Env) (s : Shared) (H : Hp) (args : Args) (us : List Value) (vs : List V) (Q : VK) (E : XK), RoomQ k A → Env0 P w K mg base A outer s H → BindsTo s fd args (ps.zip us) → Vals vs us → sp vs H Q E →
    codeAny (model P w) A (.call (.ref f) args) (CR CX0 outer P w H s Q E) s
def cxQ (P : Program) (w : World) (K : PySem.W.Frag) (mg : Str → Option Value) (base : Heap) (N : List Str) (qual : Str) (scope : Scope) (f : Addr) (cd : Value) (A : Around) (outer : List Env) (s : Shared) (H : Hp) : Cx :=
  { cxOf CX0 P w K mg base N qual scope f cd A outer s H E0 with calm := false, xe := fun _ _ => False }
section
variable {P : Program} {w : World} {K : PySem.W.Frag} {mg : Str → Option Value} {base : Heap}
end
section
variable {X : Cx} {k : Nat} {f : Addr} {fd : FuncData} {ps : List Str} {sp : Sp} {dvs : List V} {ds : List Value} {x : Str} {p pos : Pos} {e : Expr} {es : List Expr} {t : TA}
end
abbrev bmVE : List Value := [.type "ValueError", .type "Exception", .type "BaseException", .type "object"]
def tRaise (C : Addr) (E : XK) (ta : TA) : TS := fun _ σ H => ta σ H fun vs H1 => vs.length ≤ sizeLine ∧ E (.ref C) none H1
section
variable {P : Program} {w : World} {K : PySem.W.Frag} {mg : Str → Option Value} {base : Heap} {N : List Str} {qual : Str} {scope : Scope} {f : Addr} {cd : Value} {A : Around} {outer : List Env} {s0 : Shared} {H0 : Hp} {E : XK}
  {x : Str} {C : Addr} {np cpos pos : Pos} {e : Expr} {es : List Expr} {t : TA}
end
end L2

namespace L2
open PySem PySem.Spec PyProof.Rows

abbrev Cx.marked (X : Cx) (e : Addr) : Cx := { X with A := X.A.mark (some (.ref e)), calm := false, xe := fun _ _ => False }
section
variable {X : Cx} {pins : List (Addr × Obj)} {σ : St} {H H' : Hp} {s s' : Shared} {e : Addr}
variable {cls a0 : Value} {ea C : Addr} {B h' : Heap} {t' : Nat}
def asEnds (D : Ends) (i : Nat) : Ends := { nx := fun σ H => D.nx (σ.set i none) H, rt := D.rt, bk := fun σ H => D.bk (σ.set i none) H, ct := fun σ H => D.ct (σ.set i none) H }
end
def tTryAs (sp : Sp) (C : Addr) (i : Nat) (ta : TA) (ts : TS) : TS := fun D σ H => ta σ H fun vs H1 => sp vs H1 (fun _ H2 => D.nx σ H2) fun cls _ H2 => cls = .ref C ∧ ∀ e, H2 e = none → ts (asEnds D i) (σ.set i (some (.ref e))) (upd H2 e (.ext (ExcAt C e)))
section
variable {X : Cx} {k : Nat} {f C : Addr} {fd : FuncData} {ps : List Str} {sp : Sp} {g x n : Str} {p pos pos2 pos3 np hpos : Pos} {e : Expr} {es : List Expr} {t : TA} {ts : TS} {b₀ : Stmt} {suite : List Stmt} {i : Nat}
end
end L2

namespace L2
open PySem PySem.Spec PyProof.Rows

def rCount : V → List V → Hp → VK → Prop := fun x vs H Q => ∃ (l : Addr) (bs : List Bool) (k : Bool), x = .ref l ∧ vs = [.bl k] ∧ H l = some (.lst (bs.map V.bl)) ∧ Q (.int (countIn (.bool k) (bs.map PyData.bool))) H
inductive TyX (K : PySem.W.Frag) (H : Hp) : V → Value → Prop where
  | of {x : V} {t : Value} (h : TyOf K H x t) : TyX K H x t
  | exc {e C : Addr} (T : ExcCls K C) (h : H e = some (.ext (ExcAt C e))) : TyX K H (.ref e) (.ref C)
def valOf : V → Value
  | .ref a => .ref a
  | .ty n => .type n
  | _ => .none
def rIsi (K : PySem.W.Frag) : List V → Hp → VK → Prop := fun xs H Q => ∃ x c t b, xs = [x, c] ∧ ((∃ a, c = .ref a) ∨ ∃ n, c = .ty n) ∧ TyX K H x t ∧ PySem.W.kitOne K t (valOf c) = some b ∧ Q (.bl b) H
def spLaw (K : PySem.W.Frag) : Sp := fun vs H Q _ => ∃ (a : Addr) (ns : List Int), vs = [.ref a] ∧ SqL K H a (ns.map V.int) ∧ ns.length ≤ 63 ∧ (∀ m ∈ ns, Builtin.Int.intBits m ≤ 1048576) ∧ ∀ H', Q (.bl true) H'
end L2

namespace L2
open PySem PySem.Spec PyProof.Rows

def tCut (t u : TS) : TS := fun D σ H => ∃ R : St → Hp → Prop, t { D with nx := R } σ H ∧ ∀ σ' H', R σ' H' → u D σ' H'
def spCell (K : PySem.W.Frag) : Sp := fun vs H Q _ => ∃ (a : Addr) (ns : List Int) (k : Int), vs = [.ref a, .int k] ∧ SqL K H a (ns.map V.int) ∧ 0 ≤ k ∧ Q (.int (ns.getD k.toNat 0)) H
def spWhole : Sp := fun vs H Q _ => ∃ n, vs = [.int n] ∧ Q (.bl true) H
def spAlone (C : Addr) : Sp := fun vs H Q _ => ∃ e, vs = [.ref e] ∧ H e = some (.ext (ExcAt C e)) ∧ ∀ H', Same H H' → Q (.bl true) H'
end L2
namespace L2
open PySem PySem.Spec PyProof.Rows
def Has (P : Program) (w : World) (K : PySem.W.Frag) (mg : Str → Option Value) (base : Heap) (CX : CXT) (k : Nat) (x : Str) (ps : List Str) (sp : Sp) : Prop :=
  ∃ (f : Addr) (fd : FuncData), FnOk P w K mg base CX k f fd ps sp ∧ Binds K fd ps [] ∧ PySem.W.keepIn K (.ref f) = true ∧ mg x = some (.ref f)
def HasQ (P : Program) (w : World) (K : PySem.W.Frag) (mg : Str → Option Value) (base : Heap) (k : Nat) (x : Str) (ps : List Str) (sp : Sp) : Prop :=
  ∃ (f : Addr) (fd : FuncData), FnOkQ P w K mg base k f fd ps sp ∧ Binds K fd ps [] ∧ PySem.W.keepIn K (.ref f) = true ∧ mg x = some (.ref f)
end L2
namespace L2
open PySem PySem.Spec PyProof.Rows
inductive IntsE : List Expr → List Int → Prop where
  | nil : IntsE [] []
  | cons {i : Int} {j : Nat} {pos : Pos} {es : List Expr} {ns : List Int} (h : IntsE es ns) : IntsE (.Constant (.int i) j pos :: es) (i :: ns)
end L2
namespace L2
open PySem PySem.Spec PyProof.Rows
end L2

namespace Sh
structure Rows (x y a s t b u v : Int) : Prop where
  up : a = s * x + t * y
  lo : b = u * x + v * y
  one : ∃ p q, x = p * a + q * b
  two : ∃ p q, y = p * a + q * b
structure Sz (B a s t b u v : Int) : Prop where
  a0 : a.natAbs ≤ B.natAbs
  b0 : b.natAbs ≤ B.natAbs
  s0 : s.natAbs ≤ B.natAbs
  t0 : t.natAbs ≤ B.natAbs
  u0 : u.natAbs ≤ B.natAbs
  v0 : v.natAbs ≤ B.natAbs
  way : (s = 1 ∧ t = 0 ∧ u = 0 ∧ v = 1 ∧ a.natAbs + 2 * b.natAbs ≤ B.natAbs) ∨
    ((0 ≤ a ∧ 0 ≤ b ∨ a ≤ 0 ∧ b ≤ 0) ∧ s.natAbs * b.natAbs + u.natAbs * a.natAbs ≤ B.natAbs ∧ t.natAbs * b.natAbs + v.natAbs * a.natAbs ≤ B.natAbs)
end Sh

namespace Sm
structure P3 where
  (x y z : Int)
structure F6 where
  (a b c d e f : Int)
structure T3 where
  (r0 r1 r2 : P3)
def rp (r s : P3) : Int := r.x * s.x + r.y * s.y + r.z * s.z
def wo (Q : F6) (P : P3) : Int := Q.a * (P.x * P.x) + Q.b * (P.y * P.y) + Q.c * (P.z * P.z) + Q.d * (P.y * P.z) + Q.e * (P.x * P.z) + Q.f * (P.x * P.y)
def sl (Q : F6) : T3 := ⟨⟨2 * Q.a, Q.f, Q.e⟩, ⟨Q.f, 2 * Q.b, Q.d⟩, ⟨Q.e, Q.d, 2 * Q.c⟩⟩
def tb (t : T3) (P : P3) : P3 := ⟨rp t.r0 P, rp t.r1 P, rp t.r2 P⟩
def tr (t : T3) : T3 := ⟨⟨t.r0.x, t.r1.x, t.r2.x⟩, ⟨t.r0.y, t.r1.y, t.r2.y⟩, ⟨t.r0.z, t.r1.z, t.r2.z⟩⟩
def bl (Q : F6) (x y : P3) : Int := rp (tb (sl Q) x) y
def ch (Q : F6) (t : T3) : F6 := ⟨wo Q (tr t).r0, wo Q (tr t).r1, wo Q (tr t).r2, bl Q (tr t).r1 (tr t).r2, bl Q (tr t).r0 (tr t).r2, bl Q (tr t).r0 (tr t).r1⟩
def pt (t u : T3) : T3 := ⟨tb (tr u) t.r0, tb (tr u) t.r1, tb (tr u) t.r2⟩
def cr (r s : P3) : P3 := ⟨r.y * s.z - r.z * s.y, r.z * s.x - r.x * s.z, r.x * s.y - r.y * s.x⟩
def me (t : T3) : Int := rp t.r0 (cr t.r1 t.r2)
def lw (Q : F6) (P : P3) : Int := Q.a * P.x * P.x + Q.b * P.y * P.y + Q.c * P.z * P.z + Q.d * P.y * P.z + Q.e * P.x * P.z + Q.f * P.x * P.y
def lm (t : T3) : Int := t.r0.x * t.r1.y * t.r2.z + t.r0.y * t.r1.z * t.r2.x + t.r0.z * t.r1.x * t.r2.y - t.r0.z * t.r1.y * t.r2.x - t.r0.y * t.r1.x * t.r2.z - t.r0.x * t.r1.z * t.r2.y
def rt (r : P3) (t : T3) : P3 := ⟨r.x * t.r0.x + r.y * t.r1.x + r.z * t.r2.x, r.x * t.r0.y + r.y * t.r1.y + r.z * t.r2.y, r.x * t.r0.z + r.y * t.r1.z + r.z * t.r2.z⟩
def Bd (k : Nat) (x : Int) : Prop := x.natAbs ≤ 2 ^ k
structure BP (k : Nat) (P : P3) : Prop where
  (x : Bd k P.x) (y : Bd k P.y) (z : Bd k P.z)
structure BF (k : Nat) (Q : F6) : Prop where
  (a : Bd k Q.a) (b : Bd k Q.b) (c : Bd k Q.c) (d : Bd k Q.d) (e : Bd k Q.e) (f : Bd k Q.f)
structure BT (k : Nat) (t : T3) : Prop where
  (r0 : BP k t.r0) (r1 : BP k t.r1) (r2 : BP k t.r2)
end Sm

namespace Lw
def One3 (a b c : Int) : Prop := ∃ u v w : Int, u * a + v * b + w * c = 1
def Pos3 (a b c : Int) : Prop := 0 < a ∨ (a = 0 ∧ 0 < b) ∨ (a = 0 ∧ b = 0 ∧ 0 < c)
def Al (a b c x y z : Int) : Prop := a * y = b * x ∧ a * z = c * x ∧ b * z = c * y
end Lw

namespace Sm
end Sm
namespace Pn
open Sm Lw
def sz (Q : F6) : Int := 4 * Q.a * Q.b * Q.c + Q.d * Q.e * Q.f - Q.a * Q.d * Q.d - Q.b * Q.e * Q.e - Q.c * Q.f * Q.f
def fm (t : T3) (c : Int) : F6 :=
  ⟨c * (t.r0.x * t.r2.x - t.r1.x * t.r1.x), c * (t.r0.y * t.r2.y - t.r1.y * t.r1.y), c * (t.r0.z * t.r2.z - t.r1.z * t.r1.z),
   c * (t.r0.y * t.r2.z + t.r0.z * t.r2.y - 2 * t.r1.y * t.r1.z), c * (t.r0.x * t.r2.z + t.r0.z * t.r2.x - 2 * t.r1.x * t.r1.z), c * (t.r0.x * t.r2.y + t.r0.y * t.r2.x - 2 * t.r1.x * t.r1.y)⟩
def sp1 (s u : Int) (p q r : Int) : Int := s * s * p + s * u * q + u * u * r
def sp (t : T3) (s u : Int) : P3 :=
  ⟨sp1 s u (cr t.r1 t.r2).x (cr t.r2 t.r0).x (cr t.r0 t.r1).x, sp1 s u (cr t.r1 t.r2).y (cr t.r2 t.r0).y (cr t.r0 t.r1).y, sp1 s u (cr t.r1 t.r2).z (cr t.r2 t.r0).z (cr t.r0 t.r1).z⟩
def N3 (P : P3) : Prop := P.x ≠ 0 ∨ P.y ≠ 0 ∨ P.z ≠ 0
def tm (d : Int) (P : P3) : P3 := ⟨d * P.x, d * P.y, d * P.z⟩
def ad (P R : P3) : P3 := ⟨P.x + R.x, P.y + R.y, P.z + R.z⟩
def dr (P : P3) (m n : Int) : P3 := if P.z ≠ 0 then ⟨m, n, 0⟩ else if P.y ≠ 0 then ⟨m, 0, n⟩ else ⟨0, m, n⟩
def mk (Q : F6) (P D : P3) : P3 := ad (tm (wo Q D) P) (tm (-(bl Q P D)) D)
def L3 (P : P3) : Prop := One3 P.x P.y P.z ∧ Pos3 P.x P.y P.z
instance : DecidableEq P3 := fun P R => decidable_of_iff (P.x = R.x ∧ P.y = R.y ∧ P.z = R.z) ⟨P3.ext', fun h => by subst h; exact ⟨rfl, rfl, rfl⟩⟩
def ax (P : P3) : P3 := if P.z ≠ 0 then ⟨0, 0, 1⟩ else if P.y ≠ 0 then ⟨0, 1, 0⟩ else ⟨1, 0, 0⟩
def ln (Q : F6) (P R : P3) : P3 := if R = P then tb (sl Q) P else cr P R
def nm1 (P D : P3) : Int := if P.z ≠ 0 then D.x else if P.y ≠ 0 then D.x else D.y
def nm2 (P D : P3) : Int := if P.z ≠ 0 then D.y else D.z
structure Rgt (F : F6) (P D R : P3) : Prop where
  (low : L3 R) (on : wo F R = 0) (ln : rp (cr P D) R = 0) (same : R = P ↔ bl F P D = 0)
end Pn

namespace L2
open PySem PySem.Spec PyProof.Rows

def cxC (X : Cx) (N : List Str) (scope : Scope) (cl : List (Str × Addr)) (C : Addr) (s0 : Shared) (H0 : Hp) (fp : List Addr) (pins : List (Addr × Obj)) : Cx :=
  { X with N := N, s₀ := s0, H₀ := H0, env := compEnvC scope cl C X.env, outer := X.stack, ex := fp, fn := fun _ => false, pn := X.pn ++ pins, xe := fun _ _ => False }
structure CompScope (X : Cx) (N : List Str) (fr : List Nat) (x : Str) (scope : Scope) (cl : List (Str × Addr)) : Prop where
  kind : scope.kind = .function
  nocell : ∀ y ∈ scope.names, y.2 ≠ .cell
  loc : ∀ y ∈ scope.names, y.2 = .local → scope.names.lookup y.1 = some .local
  own : scope.names.lookup x = some .local
  clos : closureFor scope X.env = pure cl
  sub : ∀ y c, cl.lookup y = some c → X.env.cells.lookup y = some c
  has : ∀ y, ((relabel scope X.env).names.lookup y = some .cell ∨ (relabel scope X.env).names.lookup y = some .free) → ∃ c, cl.lookup y = some c
  nd : N.Nodup
  hN : N[0]? = some x
  len : N.length = fr.length + 1
  ownOnly : ∀ (j : Nat) (y : Str), N[j + 1]? = some y → (relabel scope X.env).names.lookup y ≠ some .local
  out : ∀ (j k : Nat), fr[j]? = some k → ∃ y, N[j + 1]? = some y ∧ X.N[k]? = some y ∧ X.env.kindOf y = some .cell
def compSt (σ : St) (fr : List Nat) (v : Option V) : St := v :: fr.map fun k => (σ[k]?).join
def tComp (wi : TI) (fr : List Nat) (te : TE) : TE := fun σ H Q => wi σ H fun J H1 => ∀ acc, H1 acc = none → ∃ W : Nat → Nat → Hp → List V → Prop, (∃ m, W 0 m (upd H1 acc (.lst [])) []) ∧
  ∀ i m H' vs, W i m H' vs → H' acc = some (.lst vs) ∧ ((J.stop i H' ∧ Q (.ref acc) H') ∨ (J.go i H' ∧ vs.length < sizeLine ∧ ∀ x H2, J.yld i H' x H2 → te (compSt σ fr (some x)) H2 fun y H3 => H3 acc = some (.lst vs) ∧ ∃ m', m' < m ∧ W (i + 1) m' (upd H3 acc (.lst (vs ++ [y]))) (vs ++ [y])))
section
variable {X : Cx} {N : List Str} {fr : List Nat} {x : Str} {scope : Scope} {cl : List (Str × Addr)} {elt iter : Expr} {px pos : Pos} {wi : TI} {te : TE}
end
end L2

namespace L2
open PySem PySem.Spec PyProof.Rows
end L2

namespace L2
open PySem PySem.Spec PyProof.Rows

section
variable {κ : Type} [DecidableEq κ]
def valV (kvs : List (κ × V)) (k : κ) : Option V := (kvs.find? fun kv => decide (kv.1 = k)).map (·.2)
def putK (kvs : List (κ × V)) (k : κ) (v : V) : List (κ × V) :=
  if (kvs.any fun kv => decide (kv.1 = k)) = true then kvs.map (fun kv => if kv.1 = k then (kv.1, v) else kv) else kvs ++ [(k, v)]
def dropK (kvs : List (κ × V)) (k : κ) : List (κ × V) := kvs.filter fun kv => decide (kv.1 ≠ k)

end

abbrev KT (H : Hp) : List (List Key × V) → List (List Key × Addr × Value) → Prop := Paired fun p q => p.1 = q.1 ∧ H q.2.1 = some (.tup (p.1.map kV)) ∧ RelV p.2 q.2.2
section
variable {P : Program} {w : World} {H : Hp} {h : Heap} {a : Addr}
end

def DGet (H : Hp) (a : Addr) (y : V) (r : Option V) : Prop :=
  (∃ kvs k, Rd H a (.dK kvs) ∧ y = kV k ∧ r = valV kvs k) ∨ ∃ kvs k b, Rd H a (.dT kvs) ∧ y = .ref b ∧ H b = some (.tup (k.map kV)) ∧ r = valV kvs k
def DPut (H : Hp) (a : Addr) (y v : V) (H' : Hp) : Prop :=
  (∃ kvs k, H a = some (.dK kvs) ∧ y = kV k ∧ kvs.length < sizeLine ∧ H' = upd H a (.dK (putK kvs k v))) ∨
  ∃ kvs k b, H a = some (.dT kvs) ∧ y = .ref b ∧ H b = some (.tup (k.map kV)) ∧ kvs.length < sizeLine ∧ H' = upd H a (.dT (putK kvs k v))
section
variable {X : Cx} {pins : List (Addr × Obj)} {σ : St} {H : Hp} {s : Shared} {a : Addr} {y v : V} {u r : Value} {o : Option V} {A : Around} {E : Value → Shared → Prop}

end

section
variable {X : Cx} {pins : List (Addr × Obj)} {σ : St} {H : Hp} {s : Shared} {a : Addr} {kvs : List (Key × V)} {k : Key} {u : Value} {A : Around} {E : Value → Shared → Prop}
end

def NoSl (i : Expr) : Prop := ∀ ov iv, subscripted i false ov iv = operate [ov, iv] (getItem ov iv)
def tDGet (td ty : TE) : TE := fun σ H Q => td σ H fun x H1 => ty σ H1 fun y H2 => ∃ a v, x = .ref a ∧ DGet H2 a y (some v) ∧ Q v H2
def tDIn (ty td : TE) : TE := fun σ H Q => ty σ H fun y H1 => td σ H1 fun x H2 => ∃ a o, x = .ref a ∧ DGet H2 a y o ∧ Q (.bl o.isSome) H2
def tDNotIn (ty td : TE) : TE := fun σ H Q => ty σ H fun y H1 => td σ H1 fun x H2 => ∃ a o, x = .ref a ∧ DGet H2 a y o ∧ Q (.bl (!o.isSome)) H2
def sDPut (td ty tv : TE) : TS := fun D σ H => tv σ H fun v H1 => td σ H1 fun x H2 => ty σ H2 fun y H3 => ∃ a H4, x = .ref a ∧ DPut H3 a y v H4 ∧ D.nx σ H4
def sDAug (td ty tv : TE) (rd : V → V → Hp → VK → Prop) : TS := fun D σ H => td σ H fun x H1 => ty σ H1 fun y H2 => ∃ a v, x = .ref a ∧ DGet H2 a y (some v) ∧
  tv σ H2 fun y2 H3 => rd v y2 H3 fun z H4 => ∃ H5, DPut H4 a y z H5 ∧ D.nx σ H5
def sDDel (td ty : TE) : TS := fun D σ H => td σ H fun x H1 => ty σ H1 fun y H2 => ∃ a kvs k, x = .ref a ∧ H2 a = some (.dK kvs) ∧ y = kV k ∧ (valV kvs k).isSome = true ∧ D.nx σ (upd H2 a (.dK (dropK kvs k)))

section
variable {X : Cx} {o i e value : Expr} {pos pos' tpos : Pos} {td ty tv : TE}
end

def tDNewK : TE := fun _ H Q => ∀ p, H p = none → Q (.ref p) (upd H p (.dK []))
def tDNewT : TE := fun _ H Q => ∀ p, H p = none → Q (.ref p) (upd H p (.dT []))
section
variable {X : Cx} {pos : Pos}
end

def tPairs : List (TE × TE) → St → Hp → (List (V × V) → Hp → Prop) → Prop
  | [], _, H, Q => Q [] H
  | (tk, tv) :: r, σ, H, Q => tk σ H fun x H1 => tv σ H1 fun y H2 => tPairs r σ H2 fun ps H3 => Q ((x, y) :: ps) H3
abbrev VV : List (V × V) → List (Value × Value) → Prop := Paired fun p q => RelV p.1 q.1 ∧ RelV p.2 q.2
def PPs (X : Cx) (pos : Pos) (keys : List (Option Expr)) (values : List Expr) (trs : List (TE × TE)) : Prop :=
  ∀ (pins : List (Addr × Obj)) (s : Shared) (σ : St) (H : Hp) (Q : List (V × V) → Hp → Prop), Inv X pins σ H s → tPairs trs σ H Q →
    wpAny (model X.prog X.w) X.A (evalPairs (pairTrees keys values X.env pos)) (fun vs s' => ∃ ps H', Inv X pins σ H' s' ∧ VV ps vs ∧ Q ps H') X.xe s
def mergeK (kvs more : List (Key × V)) : List (Key × V) := more.foldl (fun acc kv => putK acc kv.1 kv.2) kvs
def tDisp (trs : List (TE × TE)) : TE := fun σ H Q => ∀ p, H p = none → tPairs trs σ (upd H p (.dK [])) fun ps H2 => H2 p = some (.dK []) ∧ ∃ kvs : List (Key × V), ps = kvs.map (fun kv => (kV kv.1, kv.2)) ∧ kvs.length ≤ 15 ∧ Q (.ref p) (upd H2 p (.dK (mergeK [] kvs)))
structure M1 (X : Cx) (o : Expr) (m : Str) (apos : Pos) (e : Expr) (cpos : Pos) : Prop where
  base : attributeBase o m X.env (eval o X.env) = eval o X.env
  few : ((backTo cpos (starEach [e] X.env)).all (fun x => !x.1) && (backToKw cpos (keywordEach [] X.env)).all (fun x => x.1.isSome)
    && decide (([e] : List Expr).length + ([] : List Keyword).length + (if ([] : List Keyword).isEmpty then 0 else 1) < 30)) = true
  line : (apos.endLine == cpos.line) = true
  trees : backTo cpos (starEach [e] X.env) = [(false, eval e X.env)]
structure M2 (X : Cx) (o : Expr) (m : Str) (apos : Pos) (e f : Expr) (cpos : Pos) : Prop where
  base : attributeBase o m X.env (eval o X.env) = eval o X.env
  few : ((backTo cpos (starEach [e, f] X.env)).all (fun x => !x.1) && (backToKw cpos (keywordEach [] X.env)).all (fun x => x.1.isSome)
    && decide (([e, f] : List Expr).length + ([] : List Keyword).length + (if ([] : List Keyword).isEmpty then 0 else 1) < 30)) = true
  line : (apos.endLine == cpos.line) = true
  trees : backTo cpos (starEach [e, f] X.env) = [(false, eval e X.env), (false, eval f X.env)]

def IsD (H : Hp) (a : Addr) : Prop := (∃ kvs, Rd H a (.dK kvs)) ∨ ∃ kvs, Rd H a (.dT kvs)
section
variable {X : Cx} {pins : List (Addr × Obj)} {σ : St} {H : Hp} {s : Shared} {a : Addr} {y d : V} {u r : Value} {o : Option V} {A : Around} {E : Value → Shared → Prop}
end

def tDGet1 (td ty : TE) : TE := fun σ H Q => td σ H fun x H1 => ∃ a, x = .ref a ∧ IsD H1 a ∧ ty σ H1 fun y H2 => ∃ o, DGet H2 a y o ∧ Q (o.getD .non) H2
def tDGet2 (td ty tx : TE) : TE := fun σ H Q => td σ H fun x H1 => ∃ a, x = .ref a ∧ IsD H1 a ∧ ty σ H1 fun y H2 => tx σ H2 fun z H3 => ∃ o, DGet H3 a y o ∧ Q (o.getD z) H3
def tDPop1 (td ty : TE) : TE := fun σ H Q => td σ H fun x H1 => ∃ a, x = .ref a ∧ IsD H1 a ∧ ty σ H1 fun y H2 => ∃ kvs k v, H2 a = some (.dK kvs) ∧ y = kV k ∧ valV kvs k = some v ∧ Q v (upd H2 a (.dK (dropK kvs k)))
def tDPop2 (td ty tx : TE) : TE := fun σ H Q => td σ H fun x H1 => ∃ a, x = .ref a ∧ IsD H1 a ∧ ty σ H1 fun y H2 => tx σ H2 fun z H3 => ∃ kvs k, H3 a = some (.dK kvs) ∧ y = kV k ∧
  (∀ v, valV kvs k = some v → Q v (upd H3 a (.dK (dropK kvs k)))) ∧ (valV kvs k = none → Q z H3)
section
variable {X : Cx} {o e f : Expr} {apos cpos : Pos} {td ty tx : TE}
end

section
variable {X : Cx} {pins : List (Addr × Obj)} {σ : St} {H : Hp} {s : Shared} {a : Addr} {y : V} {u : Value} {A : Around} {E : Value → Shared → Prop}
end
end L2

namespace L2
open PySem PySem.Spec PyProof.Rows

section
variable {P : Program} {w : World} {K : PySem.W.Frag} {mg : Str → Option Value} {base : Heap}
end
section
variable {X : Cx}
end

section
variable {κ : Type} [DecidableEq κ]
end
end L2

namespace L2
open PySem PySem.Spec PyProof.Rows
abbrev pairD (x : Int × Int) : PyData := .tuple [.int x.1, .int x.2]
end L2

namespace L2
open PySem PySem.Spec PyProof.Rows
def tCompIf (wi : TI) (fr : List Nat) (tc : TT) (te : TE) : TE := fun σ H Q => wi σ H fun J H1 => ∀ acc, H1 acc = none → ∃ W : Nat → Nat → Hp → List V → Prop, (∃ m, W 0 m (upd H1 acc (.lst [])) []) ∧
  ∀ i m H' vs, W i m H' vs → H' acc = some (.lst vs) ∧ ((J.stop i H' ∧ Q (.ref acc) H') ∨ (J.go i H' ∧ vs.length < sizeLine ∧ ∀ x H2, J.yld i H' x H2 → tc (compSt σ fr (some x)) H2 fun b H3 =>
    if b = true then te (compSt σ fr (some x)) H3 fun y H4 => H4 acc = some (.lst vs) ∧ ∃ m', m' < m ∧ W (i + 1) m' (upd H4 acc (.lst (vs ++ [y]))) (vs ++ [y]) else ∃ m', m' < m ∧ W (i + 1) m' H3 vs))
section
variable {X : Cx} {N : List Str} {fr : List Nat} {x : Str} {scope : Scope} {cl : List (Str × Addr)} {elt iter : Expr} {px pos : Pos} {wi : TI} {te : TE}
end
end L2

namespace L2
open PySem PySem.Spec PyProof.Rows
section
variable {M : Model} {A : Around} {E : Value → Shared → Prop}
variable {nm q nm' q' : Str} {C N D N' : Addr} {bs bm bs' bm' : List Value} {hdct hdct' : Bool} {sn sn' : List Str} {sub sub' : List Value} {ab ab' : Bool} {col col' : Option Bool} {dd dd' : Option Addr} {k0 k1 k2 k3 k5 j0 j1 j2 j3 j5 : Option Value} {newId newId' : String}
end
section
variable {X : Cx} {pins : List (Addr × Obj)} {σ : St} {H H' : Hp} {s s' : Shared} {e : Addr} {cls a0 : Value} {ea C : Addr} {B h' : Heap} {t' : Nat}
end
section
variable {X : Cx} {k : Nat} {f C : Addr} {fd : FuncData} {ps : List Str} {sp : Sp} {g x n : Str} {p pos pos2 pos3 np hpos : Pos} {e : Expr} {es : List Expr} {t : TA} {ts : TS} {b₀ : Stmt} {suite : List Stmt} {i : Nat}
end
end L2

namespace L2
open PySem PySem.Spec PyProof.Rows
def bls (c : Int) (i : Nat) : List Bool := (List.range i).map fun (j : Nat) => decide (V.int (0 + (j : Int)) = V.int c)
def spAloneS (C : Addr) (k : Int) : Sp := fun vs H Q _ => ∃ e, vs = [.ref e, .int k] ∧ H e = some (.ext (ExcAt C e)) ∧ ∀ H', Same H H' → Q (.bl true) H'
end L2

namespace L2
open PySem PySem.Spec PyProof.Rows
end L2

namespace L2
open PySem PySem.Spec PyProof.Rows
def tTryAs3 (sp : Sp) (C C2 : Addr) (i : Nat) (ta : TA) (ts : TS) : TS := fun D σ H => ta σ H fun vs H1 => sp vs H1 (fun _ H2 => D.nx σ H2) fun cls _ H2 =>
  (cls = .ref C ∧ ∀ e, H2 e = none → ts (asEnds D i) (σ.set i (some (.ref e))) (upd H2 e (.ext (ExcAt C e)))) ∨ (cls = .ref C2 ∧ ∀ e, H2 e = none → ts (asEnds D i) (σ.set i (some (.ref e))) (upd H2 e (.ext (ExcAt C2 e))))
section
variable {X : Cx} {k : Nat} {f C : Addr} {fd : FuncData} {ps : List Str} {sp : Sp} {g x n : Str} {p pos pos2 pos3 np hpos : Pos} {e : Expr} {es : List Expr} {t : TA} {ts : TS} {b₀ : Stmt} {suite : List Stmt} {i : Nat}
end
end L2

namespace L2
open PySem PySem.Spec PyProof.Rows
inductive IsiE (X : Cx) (C0 : Addr) : List Expr → List Bool → Prop where
  | nil : IsiE X C0 [] []
  | cons {x : Str} {C : Addr} {b : Bool} {p p2 p3 p4 : Pos} {es : List Expr} {bs : List Bool} (h5 : Gl X x) (h6 : X.mg x = some (.ref C)) (h7 : (x == ("__debug__" : Str)) = false) (k : PySem.W.kitOne X.K (.ref C0) (.ref C) = some b) (h : IsiE X C0 es bs) :
      IsiE X C0 (.Call (.Name "isinstance" p) [.Name "_law_e" p2, .Name x p3] [] p4 :: es) (b :: bs)
def tIsis (C0 : Addr) (bs : List Bool) : TA := fun σ H Q => ∃ a, σ[0]? = some (some (V.ref a)) ∧ H a = some (.ext (ExcAt C0 a)) ∧ Q (bs.map V.bl) H
end L2

namespace L2
open PySem PySem.Spec PyProof.Rows
def tSetC (wi : TI) (fr : List Nat) (tc : TT) (te : TE) (k : Nat) : TS := fun D σ H => tCompIf wi fr tc te σ H fun v H' => D.nx (σ.set k (some v)) H'
section
variable {X : Cx} {N : List Str} {fr : List Nat} {x : Str} {scope : Scope} {cl : List (Str × Addr)} {elt iter : Expr} {px pos : Pos} {wi : TI} {te : TE}
end
end L2

namespace L2
open PySem PySem.Spec PyProof.Rows
def CompEnd (J : It) (Q : VK) (H1 : Hp) (te : TE) (σ : V → St) : Prop := ∀ acc, H1 acc = none → ∃ W : Nat → Nat → Hp → List V → Prop, (∃ m, W 0 m (upd H1 acc (.lst [])) []) ∧
  ∀ i m H' vs, W i m H' vs → H' acc = some (.lst vs) ∧ ((J.stop i H' ∧ Q (.ref acc) H') ∨ (J.go i H' ∧ vs.length < sizeLine ∧ ∀ x H2, J.yld i H' x H2 → te (σ x) H2 fun y H3 => H3 acc = some (.lst vs) ∧ ∃ m', m' < m ∧ W (i + 1) m' (upd H3 acc (.lst (vs ++ [y]))) (vs ++ [y])))
def CompIfEnd (J : It) (Q : VK) (H1 : Hp) (tc : TT) (te : TE) (σ : V → St) : Prop := ∀ acc, H1 acc = none → ∃ W : Nat → Nat → Hp → List V → Prop, (∃ m, W 0 m (upd H1 acc (.lst [])) []) ∧
  ∀ i m H' vs, W i m H' vs → H' acc = some (.lst vs) ∧ ((J.stop i H' ∧ Q (.ref acc) H') ∨ (J.go i H' ∧ vs.length < sizeLine ∧ ∀ x H2, J.yld i H' x H2 → tc (σ x) H2 fun b H3 =>
    if b = true then te (σ x) H3 fun y H4 => H4 acc = some (.lst vs) ∧ ∃ m', m' < m ∧ W (i + 1) m' (upd H4 acc (.lst (vs ++ [y]))) (vs ++ [y]) else ∃ m', m' < m ∧ W (i + 1) m' H3 vs))
def tCompC (wi : TI) (fr : List Nat) (te : TE) : TE := fun σ H Q => wi σ H fun J H1 => CompEnd J Q H1 te (fun x => compSt σ fr (some x))
def tCompIfC (wi : TI) (fr : List Nat) (tc : TT) (te : TE) : TE := fun σ H Q => wi σ H fun J H1 => CompIfEnd J Q H1 tc te (fun x => compSt σ fr (some x))
def tSetC0 (wi : TI) (fr : List Nat) (te : TE) (k : Nat) : TS := fun D σ H => tCompC wi fr te σ H fun v H' => D.nx (σ.set k (some v)) H'
section
variable {X : Cx} {N : List Str} {fr : List Nat} {x : Str} {scope : Scope} {cl : List (Str × Addr)} {elt iter : Expr} {px pos : Pos} {wi : TI} {te : TE}
end

section
variable {X : Cx} {N : List Str} {fr : List Nat} {x : Str} {scope : Scope} {cl : List (Str × Addr)} {elt iter : Expr} {px pos : Pos} {wi : TI} {te : TE}
end
mutual
inductive DA (H : Hp) : V → PyData → Prop where
  | int {i : Int} : DA H (.int i) (.int i)
  | bl {b : Bool} : DA H (.bl b) (.bool b)
  | str {x : Str} : DA H (.str x) (.str x)
  | lst {p : Addr} {xs : List V} {ds : List PyData} : H p = some (.lst xs) → DAs H xs ds → DA H (.ref p) (.list ds)
  | tup {p : Addr} {xs : List V} {ds : List PyData} : H p = some (.tup xs) → DAs H xs ds → DA H (.ref p) (.tuple ds)
inductive DAs (H : Hp) : List V → List PyData → Prop where
  | nil : DAs H [] []
  | cons {x : V} {d : PyData} {xs : List V} {ds : List PyData} : DA H x d → DAs H xs ds → DAs H (x :: xs) (d :: ds)
end
def rEqD : R2 := fun x y H Q => ∃ da db : PyData, DA H x da ∧ DA H y db ∧ SeqAt.shaped da = true ∧ SeqAt.shaped db = true ∧ Q (.bl (PyData.eqv da db)) H
def rNeD : R2 := fun x y H Q => ∃ da db : PyData, DA H x da ∧ DA H y db ∧ SeqAt.shaped da = true ∧ SeqAt.shaped db = true ∧ Q (.bl (!PyData.eqv da db)) H
end L2

namespace L2
open PySem PySem.Spec PyProof.Rows

structure CompScope2 (X : Cx) (N : List Str) (fr : List Nat) (x x2 : Str) (scope : Scope) (cl : List (Str × Addr)) : Prop where
  kind : scope.kind = .function
  nocell : ∀ y ∈ scope.names, y.2 ≠ .cell
  loc : ∀ y ∈ scope.names, y.2 = .local → scope.names.lookup y.1 = some .local
  own : scope.names.lookup x = some .local
  own2 : scope.names.lookup x2 = some .local
  clos : closureFor scope X.env = pure cl
  sub : ∀ y c, cl.lookup y = some c → X.env.cells.lookup y = some c
  has : ∀ y, ((relabel scope X.env).names.lookup y = some .cell ∨ (relabel scope X.env).names.lookup y = some .free) → ∃ c, cl.lookup y = some c
  nd : N.Nodup
  hN : N[0]? = some x
  hN2 : N[1]? = some x2
  len : N.length = fr.length + 2
  ownOnly : ∀ (j : Nat) (y : Str), N[j + 2]? = some y → (relabel scope X.env).names.lookup y ≠ some .local
  out : ∀ (j k : Nat), fr[j]? = some k → ∃ y, N[j + 2]? = some y ∧ X.N[k]? = some y ∧ X.env.kindOf y = some .cell
def compSt2 (σ : St) (fr : List Nat) (v v2 : Option V) : St := v :: v2 :: fr.map fun k => (σ[k]?).join
def CompPEnd (K : PySem.W.Frag) (J : It) (Q : VK) (H1 : Hp) (te : TE) (σ : V → V → St) : Prop := ∀ acc, H1 acc = none → ∃ W : Nat → Nat → Hp → List V → Prop, (∃ m, W 0 m (upd H1 acc (.lst [])) []) ∧
  ∀ i m H' vs, W i m H' vs → H' acc = some (.lst vs) ∧ ((J.stop i H' ∧ Q (.ref acc) H') ∨ (J.go i H' ∧ vs.length < sizeLine ∧ ∀ x H2, J.yld i H' x H2 → ∃ (t : Addr) (v1 v2 : V), x = .ref t ∧ SqT K H2 t [v1, v2] ∧ te (σ v1 v2) H2 fun y H3 => H3 acc = some (.lst vs) ∧ ∃ m', m' < m ∧ W (i + 1) m' (upd H3 acc (.lst (vs ++ [y]))) (vs ++ [y])))
def tCompP (K : PySem.W.Frag) (wi : TI) (fr : List Nat) (te : TE) : TE := fun σ H Q => wi σ H fun J H1 => CompPEnd K J Q H1 te (fun v1 v2 => compSt2 σ fr (some v1) (some v2))
section
variable {X : Cx} {N : List Str} {fr : List Nat} {x x2 : Str} {scope : Scope} {cl : List (Str × Addr)} {elt iter : Expr} {px px2 tp pos : Pos} {kt : Nat} {wi : TI} {te : TE}
end
end L2

namespace L2
open PySem PySem.Spec PyProof.Rows

structure CompScopeK (X : Cx) (N : List Str) (fr : List Nat) (x : Str) (scope : Scope) (cl : List (Str × Addr)) : Prop where
  kind : scope.kind = .function
  hcf : ∀ n : Nat, cellsFrom n scope.names cl = (x, n) :: cl
  hpc : ∀ h : Heap, pushCells h scope.names = h.push { cls := .type "cell", data := .cell none }
  loc : ∀ y ∈ scope.names, y.2 = .local → scope.names.lookup y.1 = some .local
  own : (relabel scope X.env).names.lookup x = some .cell
  clos : closureFor scope X.env = pure cl
  sub : ∀ y c, cl.lookup y = some c → X.env.cells.lookup y = some c
  has : ∀ y, ((relabel scope X.env).names.lookup y = some .cell ∨ (relabel scope X.env).names.lookup y = some .free) → y = x ∨ ∃ c, cl.lookup y = some c
  nd : N.Nodup
  hN : N[0]? = some x
  len : N.length = fr.length + 1
  ownOnly : ∀ (j : Nat) (y : Str), N[j + 1]? = some y → (relabel scope X.env).names.lookup y ≠ some .local
  out : ∀ (j k : Nat), fr[j]? = some k → ∃ y, N[j + 1]? = some y ∧ X.N[k]? = some y ∧ X.env.kindOf y = some .cell
def cxK (X : Cx) (N : List Str) (x : Str) (scope : Scope) (cl : List (Str × Addr)) (C : Addr) (s0 : Shared) (H0 : Hp) (fp : List Addr) (pins : List (Addr × Obj)) : Cx :=
  { X with N := N, s₀ := s0, H₀ := H0, env := compEnvC scope ((x, C + 1) :: cl) C X.env, outer := X.stack, ex := fp, fn := fun y => y == x, pn := X.pn ++ pins, xe := fun _ _ => False }
section
variable {X : Cx} {N : List Str} {fr : List Nat} {x : Str} {scope : Scope} {cl : List (Str × Addr)} {elt iter : Expr} {px pos : Pos} {wi : TI} {te : TE}
end
end L2

namespace L2
open PySem PySem.Spec PyProof.Rows
end L2

namespace L2
open PySem PySem.Spec PyProof.Rows
section
variable {P : Program} {w : World} {A : Around} {E : Value → Shared → Prop} {s : Shared}
structure ZT (z TI TO j1 j2 a1 a2 : Addr) (us vs : Array Value) (i : Nat) (f0 : Value) (h : Heap) : Prop where
  zip : IsZip h z TI TO f0
  its : IsPair h TI (.ref j1) (.ref j2)
  to : ∃ a b, IsPair h TO a b
  i1 : h.IsTupleIter j1 a1 i
  i2 : h.IsTupleIter j2 a2 i
end
def Itz (K : PySem.W.Frag) (a b : Addr) : It :=
  ⟨fun i H => ∃ xs ys x y, SqT K H a xs ∧ SqT K H b ys ∧ xs[i]? = some x ∧ ys[i]? = some y,
   fun i H v H' => ∃ t x y, v = .ref t ∧ H t = none ∧ H' = upd H t (.tup [x, y]) ∧ (∀ xs, SqT K H a xs → xs[i]? = some x) ∧ ∀ ys, SqT K H b ys → ys[i]? = some y,
   fun i H => ∃ xs ys, SqT K H a xs ∧ SqT K H b ys ∧ xs.length ≤ i⟩
def iZip (K : PySem.W.Frag) (ta : TA) : TI := fun σ H R => ta σ H fun vs H1 => ∃ (a b : Addr) (xs ys : List V), vs = [.ref a, .ref b] ∧ SqT K H1 a xs ∧ SqT K H1 b ys ∧ R (Itz K a b) H1
end L2

namespace L2
open PySem PySem.Spec PyProof.Rows
def tSetCP (K : PySem.W.Frag) (wi : TI) (fr : List Nat) (te : TE) (k : Nat) : TS := fun D σ H => tCompP K wi fr te σ H fun v H' => D.nx (σ.set k (some v)) H'
section
variable {X : Cx} {N : List Str} {fr : List Nat} {x x2 : Str} {scope : Scope} {cl : List (Str × Addr)} {elt iter : Expr} {px px2 tp pos : Pos} {kt : Nat} {wi : TI} {te : TE}
end
end L2

namespace L2
open PySem PySem.Spec PyProof.Rows
def Laid (row : Nat → HO) (i : Nat) (vs : List V) (H : Hp) : Prop := ∃ rs : List Addr, vs = rs.map V.ref ∧ rs.length = i ∧ ∀ (j : Nat) (r : Addr), rs[j]? = some r → H r = some (row j)
end L2

namespace L2
open PySem PySem.Spec PyProof.Rows
section
variable {P : Program} {w : World} {A : Around} {E : Value → Shared → Prop}
end
def gLst (K : PySem.W.Frag) (n : Nat) (t : TGs) : TG := fun v σ H Q => ∃ a xs, v = .ref a ∧ SqL K H a xs ∧ xs.length = n ∧ t xs σ H Q
end L2

namespace L2
open PySem PySem.Spec PySem.Calls PyProof.Rows
def CompPIEnd (K : PySem.W.Frag) (J : It) (Q : VK) (H1 : Hp) (tc : TT) (te : TE) (σ : V → V → St) : Prop := ∀ acc, H1 acc = none → ∃ W : Nat → Nat → Hp → List V → Prop, (∃ m, W 0 m (upd H1 acc (.lst [])) []) ∧
  ∀ i m H' vs, W i m H' vs → H' acc = some (.lst vs) ∧ ((J.stop i H' ∧ Q (.ref acc) H') ∨ (J.go i H' ∧ vs.length < sizeLine ∧ ∀ x H2, J.yld i H' x H2 → ∃ (t : Addr) (v1 v2 : V), x = .ref t ∧ SqT K H2 t [v1, v2] ∧ tc (σ v1 v2) H2 fun b H3 =>
    if b = true then te (σ v1 v2) H3 fun y H4 => H4 acc = some (.lst vs) ∧ ∃ m', m' < m ∧ W (i + 1) m' (upd H4 acc (.lst (vs ++ [y]))) (vs ++ [y]) else ∃ m', m' < m ∧ W (i + 1) m' H3 vs))
def tCompPI (K : PySem.W.Frag) (wi : TI) (fr : List Nat) (tc : TT) (te : TE) : TE := fun σ H Q => wi σ H fun J H1 => CompPIEnd K J Q H1 tc te (fun v1 v2 => compSt2 σ fr (some v1) (some v2))
section
variable {X : Cx} {N : List Str} {fr : List Nat} {x x2 : Str} {scope : Scope} {cl : List (Str × Addr)} {elt iter : Expr} {px px2 tp pos : Pos} {kt : Nat} {wi : TI} {te : TE}
end
end L2

namespace L2
open PySem PySem.Spec PyProof.Rows
def tPar3 (i j k : Nat) (ta : TA) : TS := fun D σ H => ta σ H fun vs H1 => ∃ v w z, vs = [v, w, z] ∧ D.nx (((σ.set i (some v)).set j (some w)).set k (some z)) H1
def tSetCI (wi : TI) (fr : List Nat) (tc : TT) (te : TE) (k : Nat) : TS := fun D σ H => tCompIfC wi fr tc te σ H fun v H' => D.nx (σ.set k (some v)) H'
end L2

namespace L2
open PySem PySem.Spec PyProof.Rows
def Ho (b : Bool) (xs : List V) : HO := match b with
  | true => .lst xs
  | false => .tup xs
def Sq (K : PySem.W.Frag) (H : Hp) (b : Bool) (a : Addr) (xs : List V) : Prop := match b with
  | true => SqL K H a xs
  | false => SqT K H a xs
def Itb (K : PySem.W.Frag) (b : Bool) (a : Addr) : It := match b with
  | true => Itl K a
  | false => Itt K a
def iSeq (K : PySem.W.Frag) (tl : TE) : TI := fun σ H R => tl σ H fun x H1 => ∃ a b xs, x = .ref a ∧ Sq K H1 b a xs ∧ R (Itb K b a) H1
def Its (lo st : Int) (n : Nat) : It := ⟨fun i _ => i < n, fun i H x H' => H' = H ∧ x = .int (lo + (i : Int) * st), fun i _ => n ≤ i⟩
section
variable {X : Cx} {tg : Expr}
def iRng3 (ta : TA) : TI := fun σ H R => ta σ H fun vs H1 => ∃ i j c : Int, vs = [.int i, .int j, .int c] ∧ c ≠ 0 ∧ Builtin.divisionGoesByPylong (j - i) c = false ∧ Builtin.Range.small i j c = true ∧ R (Its i c (Builtin.Range.rangeSize i j c).toNat) H1
end
def TupK (K : PySem.W.Frag) (a : Addr) (xs : List V) : Prop := ∃ (o : Obj) (its : Array Value) (n : Nat), K.lookup a = some o ∧ o.cls = .type "tuple" ∧ o.data = .seq its n ∧ its.size ≤ sizeLine ∧ Vals xs its.toList
end L2

namespace K53
open PySem L2
def top (i : Nat) : Stmt := PySem.Challenge.pw_conicplaces_k53_whole_one_point_for_each.main.body.getD i (.Pass ⟨0, 0, 0, 0⟩)
abbrev s_shares_of : Stmt := top 7
abbrev s_row_less : Stmt := top 8
abbrev s_worth_of : Stmt := top 11
abbrev s_size_of : Stmt := top 12
abbrev s_lowest_point : Stmt := top 13
abbrev s_vertex_of : Stmt := top 14
abbrev s_refuse_flat : Stmt := top 15
abbrev s_slopes_of : Stmt := top 16
abbrev s_turned_by : Stmt := top 17
abbrev s_added : Stmt := top 18
abbrev s_stretched : Stmt := top 19
abbrev s_row_product : Stmt := top 20
abbrev s_crossing_of : Stmt := top 21
abbrev s_crossings_of : Stmt := top 22
abbrev s_point_by : Stmt := top 25
abbrev s_led_to : Stmt := top 26
abbrev s_numbers_of : Stmt := top 27
abbrev s_point_on : Stmt := top 28
abbrev s_last_of : Stmt := top 29
abbrev s_cell_at : Stmt := top 31
abbrev s_shared : Stmt := top 32
abbrev s_lowest : Stmt := top 33
abbrev s_beside : Stmt := top 34
abbrev s_dot : Stmt := top 35
abbrev s_rows : Stmt := top 36
abbrev s_form : Stmt := top 37
abbrev s_spot : Stmt := top 38
abbrev s_worth : Stmt := top 39
abbrev s_cross : Stmt := top 40
abbrev s_is_spot : Stmt := top 41
abbrev s_times : Stmt := top 42
abbrev s_pair : Stmt := top 43
abbrev s_there_and_back : Stmt := top 44
abbrev s_law : Stmt := top 45
structure Adr where
  (gAXES gAXES_0 gAXES_1 gAXES_2 gWAYS gWAYS_0 gWAYS_1 gWAYS_2 : Addr)
structure Txt (K : PySem.W.Frag) (mg : Str → Option Value) (t : Adr) : Prop where
  m_AXES : mg "AXES" = some (.ref t.gAXES)
  k_AXES : TupK K t.gAXES [.ref t.gAXES_0, .ref t.gAXES_1, .ref t.gAXES_2]
  k_AXES_0 : TupK K t.gAXES_0 [.int 1, .int 0, .int 0]
  k_AXES_1 : TupK K t.gAXES_1 [.int 0, .int 1, .int 0]
  k_AXES_2 : TupK K t.gAXES_2 [.int 0, .int 0, .int 1]
  m_WAYS : mg "WAYS" = some (.ref t.gWAYS)
  k_WAYS : TupK K t.gWAYS [.ref t.gWAYS_0, .ref t.gWAYS_1, .ref t.gWAYS_2]
  k_WAYS_0 : TupK K t.gWAYS_0 [.int 1, .int 2]
  k_WAYS_1 : TupK K t.gWAYS_1 [.int 0, .int 2]
  k_WAYS_2 : TupK K t.gWAYS_2 [.int 0, .int 1]
  i_ib : PySem.W.kitOne K (.type "int") (.type "bool") = some false
  z_isinstance : mg "isinstance" = none
  z_int : mg "int" = none
  z_bool : mg "bool" = none
  z_len : mg "len" = none
  z_range : mg "range" = none
  z_tuple : mg "tuple" = none
  z_all : mg "all" = none
  z_abs : mg "abs" = none
  z_any : mg "any" = none
  z_max : mg "max" = none
  z_min : mg "min" = none
  z_sum : mg "sum" = none
  z_zip : mg "zip" = none
@[irreducible] def Rt : Nat := 2 ^ 500
@[irreducible] def Lm : Nat := 2 ^ 1000
def spRow : Sp := fun vs H Q _ => ∃ (pa pb : Addr) (x s t y u v k : Int), vs = [.ref pa, .ref pb, .int k] ∧ H pa = some (.tup [.int x, .int s, .int t]) ∧ H pb = some (.tup [.int y, .int u, .int v]) ∧ IntMulOk k y ∧ IntMulOk k u ∧ IntMulOk k v ∧
  ∀ (p : Addr) (H' : Hp), Same H H' → H' p = some (.tup [.int (x - k * y), .int (s - k * u), .int (t - k * v)]) → Q (.ref p) H'
def spShares : Sp := fun vs H Q _ => ∃ (x y : Int), vs = [.int x, .int y] ∧ x.natAbs ≤ Lm ∧ y.natAbs ≤ Lm ∧
  ∀ (p : Addr) (H' : Hp) (g s t : Int), Same H H' → H' p = some (.tup [.int g, .int s, .int t]) → 0 ≤ g → g = s * x + t * y → (∃ k, x = k * g) → (∃ k, y = k * g) → s.natAbs ≤ 8 * Lm → t.natAbs ≤ 8 * Lm → Q (.ref p) H'
open Sm Lw Pn
abbrev v3 (P : P3) : List V := [.int P.x, .int P.y, .int P.z]
abbrev t3 (P : P3) : HO := .tup (v3 P)
abbrev l3 (P : P3) : HO := .lst (v3 P)
def S3 (H : Hp) (p : Addr) (P : P3) : Prop := H p = some (t3 P)
def S6 (H : Hp) (p : Addr) (Q : F6) : Prop := H p = some (.tup [.int Q.a, .int Q.b, .int Q.c, .int Q.d, .int Q.e, .int Q.f])
def ST (H : Hp) (p : Addr) (t : T3) : Prop := ∃ r0 r1 r2 : Addr, H p = some (.tup [.ref r0, .ref r1, .ref r2]) ∧ S3 H r0 t.r0 ∧ S3 H r1 t.r1 ∧ S3 H r2 t.r2
def LT (H : Hp) (p : Addr) (t : T3) : Prop := ∃ r0 r1 r2 : Addr, H p = some (.lst [.ref r0, .ref r1, .ref r2]) ∧ S3 H r0 t.r0 ∧ S3 H r1 t.r1 ∧ S3 H r2 t.r2
def vmul : V → V → V
  | .int a, .int b => .int (a * b)
  | _, _ => .non
def Sq3 (H : Hp) (p : Addr) (x y z : Int) : Prop := H p = some (.tup [.int x, .int y, .int z])
def In3 (M : Int) (x y z : Int) : Prop := (-M ≤ x ∧ x ≤ M) ∧ (-M ≤ y ∧ y ≤ M) ∧ (-M ≤ z ∧ z ≤ M)
def NZ (x y z : Int) : Prop := x ≠ 0 ∨ y ≠ 0 ∨ z ≠ 0
@[irreducible] def Top : Int := 2 ^ 900
def st (P : P3) (m : Int) : P3 := ⟨P.x * m, P.y * m, P.z * m⟩
def lst (P : P3) : Int := if P.z ≠ 0 then 2 else if P.y ≠ 0 then 1 else 0
def cmp (P : P3) : Nat → Int
  | 0 => P.x
  | 1 => P.y
  | _ => P.z
def nzAt (P : P3) : V → Bool
  | .int k => !decide (V.int (cmp P k.toNat) = V.int 0)
  | _ => false
def lasts (P : P3) : List Int := ((if P.x ≠ 0 then [0] else []) ++ if P.y ≠ 0 then [1] else []) ++ if P.z ≠ 0 then [2] else []
inductive Gen (ns : List Int) : Int → Prop where
  | zero : Gen ns 0
  | mem {n : Int} : n ∈ ns → Gen ns n
  | sub {a b : Int} : Gen ns a → Gen ns b → Gen ns (a - b)
  | mul (k : Int) {a : Int} : Gen ns a → Gen ns (k * a)
def fstL : List Int → Int
  | [] => 0
  | n :: ns => if n ≠ 0 then n else fstL ns
def d3 (P : P3) : PyData := .tuple [.int P.x, .int P.y, .int P.z]
def spRp : Sp := fun vs H Q _ => ∃ (p q : Addr) (r s : P3), vs = [.ref p, .ref q] ∧ S3 H p r ∧ S3 H q s ∧ BP 2000 r ∧ BP 2000 s ∧ Q (.int (rp r s)) H
def spTb : Sp := fun vs H Q _ => ∃ (p q : Addr) (t : T3) (P : P3), vs = [.ref p, .ref q] ∧ ST H p t ∧ S3 H q P ∧ BT 2000 t ∧ BP 2000 P ∧ ∀ (r : Addr) (H' : Hp), Same H H' → H r = none → S3 H' r (tb t P) → Q (.ref r) H'
def spSl : Sp := fun vs H Q _ => ∃ (p : Addr) (F : F6), vs = [.ref p] ∧ S6 H p F ∧ ∀ (r : Addr) (H' : Hp), Same H H' → ST H' r (sl F) → Q (.ref r) H'
def spWo : Sp := fun vs H Q _ => ∃ (p q : Addr) (F : F6) (P : P3), vs = [.ref p, .ref q] ∧ S6 H p F ∧ S3 H q P ∧ BF 600 F ∧ BP 600 P ∧ ∀ H', Same H H' → Q (.int (wo F P)) H'
def spCr : Sp := fun vs H Q _ => ∃ (p q : Addr) (r s : P3), vs = [.ref p, .ref q] ∧ S3 H p r ∧ S3 H q s ∧ BP 900 r ∧ BP 900 s ∧ ∀ (z : Addr) (H' : Hp), Same H H' → S3 H' z (cr r s) → Q (.ref z) H'
def spSize : Sp := fun vs H Q _ => ∃ (p : Addr) (F : F6), vs = [.ref p] ∧ S6 H p F ∧ BF 600 F ∧ Q (.int (sz F)) H
def spFlat : Sp := fun vs H Q _ => ∃ (p : Addr) (F : F6), vs = [.ref p] ∧ S6 H p F ∧ BF 600 F ∧ sz F ≠ 0 ∧ Q .non H
def spAdd : Sp := fun vs H Q _ => ∃ (p q : Addr) (P R : P3), vs = [.ref p, .ref q] ∧ S3 H p P ∧ S3 H q R ∧ ∀ (z : Addr) (H' : Hp), Same H H' → S3 H' z (ad P R) → Q (.ref z) H'
def spStr (K : PySem.W.Frag) : Sp := fun vs H Q _ => ∃ (p : Addr) (P : P3) (m : Int), vs = [.ref p, .int m] ∧ SqT K H p (v3 P) ∧ BP 900 P ∧ Bd 900 m ∧ ∀ (z : Addr) (H' : Hp), Same H H' → S3 H' z (st P m) → Q (.ref z) H'
def spLast : Sp := fun vs H Q _ => ∃ (p : Addr) (P : P3), vs = [.ref p] ∧ S3 H p P ∧ N3 P ∧ ∀ H', Same H H' → Q (.int (lst P)) H'
def spLowest : Sp := fun vs H Q _ => ∃ (p : Addr) (x y z : Int), vs = [.ref p] ∧ Sq3 H p x y z ∧ In3 Top x y z ∧ NZ x y z ∧
  ∀ (r : Addr) (H' : Hp) (a b c d : Int), Same H H' → Sq3 H' r a b c → One3 a b c → Pos3 a b c → d ≠ 0 → x = d * a → y = d * b → z = d * c → Q (.ref r) H'
def spOn : Sp := fun vs H Q _ => ∃ (q p : Addr) (F : F6) (P R : P3) (d : Int), vs = [.ref q, .ref p] ∧ S6 H q F ∧ S3 H p P ∧ P = tm d R ∧ d ≠ 0 ∧ L3 R ∧ wo F R = 0 ∧ BF 600 F ∧ BP 600 P ∧ ∀ (r : Addr) (H' : Hp), Same H H' → S3 H' r R → Q (.ref r) H'
def spLed : Sp := fun vs H Q _ => ∃ (q p : Addr) (F : F6) (P : P3) (m n : Int), vs = [.ref q, .ref p, .int m, .int n] ∧ S6 H q F ∧ S3 H p P ∧ L3 P ∧ BF 100 F ∧ BP 130 P ∧ Bd 262 m ∧ Bd 262 n ∧ ∀ (r : Addr) (H' : Hp), Same H H' → S3 H' r (mk F P (dr P m n)) → Q (.ref r) H'
def spBy : Sp := fun vs H Q _ => ∃ (q p : Addr) (F : F6) (P' P : P3) (d m n : Int), vs = [.ref q, .ref p, .int m, .int n] ∧ S6 H q F ∧ S3 H p P' ∧ P' = tm d P ∧ d ≠ 0 ∧ L3 P ∧ wo F P = 0 ∧ sz F ≠ 0 ∧ (m ≠ 0 ∨ n ≠ 0) ∧ BF 100 F ∧ BP 130 P' ∧ Bd 262 m ∧ Bd 262 n ∧
  ∀ (r : Addr) (H' : Hp) (R : P3), Same H H' → S3 H' r R → (Bd 20 m → Bd 20 n → BP 600 R) → Rgt F P (dr P m n) R → Q (.ref r) H'
def spNums (K : PySem.W.Frag) : Sp := fun vs H Q _ => ∃ (q p o : Addr) (F : F6) (P' P R' R : P3) (d e : Int), vs = [.ref q, .ref p, .ref o] ∧ S6 H q F ∧ S3 H p P' ∧ S3 H o R' ∧ P' = tm d P ∧ d ≠ 0 ∧ L3 P ∧ wo F P = 0 ∧ R' = tm e R ∧ e ≠ 0 ∧ L3 R ∧ wo F R = 0 ∧ sz F ≠ 0 ∧ BF 100 F ∧ BP 130 P' ∧ BP 600 R' ∧
  ∀ (r : Addr) (H' : Hp) (D : P3) (d' : Int), Same H H' → H' r = some (.tup [.int (nm1 P D), .int (nm2 P D)]) → L3 D → d' ≠ 0 → cr (ln F P R) (ax P) = tm d' D → (BP 130 R → BP 262 D) → Q (.ref r) H'
def spCrK (K : PySem.W.Frag) : Sp := fun vs H Q _ => ∃ (p q : Addr) (r s : P3), vs = [.ref p, .ref q] ∧ SqT K H p (v3 r) ∧ SqT K H q (v3 s) ∧ BP 900 r ∧ BP 900 s ∧ ∀ (z : Addr) (H' : Hp), Same H H' → S3 H' z (cr r s) → Q (.ref z) H'
def spShared : Sp := fun vs H Q _ => ∃ (p : Addr) (b : Bool) (ns : List Int), vs = [.ref p] ∧ H p = some (Ho b (ns.map V.int)) ∧ ∀ g : Int, 0 ≤ g → (∀ n ∈ ns, g ∣ n) → Gen ns g → Q (.int g) H
def fdv (e : Int) : V → V
  | .int n => .int (n.fdiv e)
  | v => v
def spLow : Sp := fun vs H Q _ => ∃ (p : Addr) (b : Bool) (ns : List Int), vs = [.ref p] ∧ H p = some (Ho b (ns.map V.int)) ∧ ns.length ≤ 9 ∧ (∀ n ∈ ns, Bd 900 n) ∧ fstL ns ≠ 0 ∧ ∀ (r : Addr) (H' : Hp) (e : Int), Same H H' → H' r = some (.tup ((ns.map V.int).map (fdv e))) → e ≠ 0 → (∀ n ∈ ns, e ∣ n) → Gen ns e → (0 < e ↔ 0 < fstL ns) → Q (.ref r) H'
def spRows (K : PySem.W.Frag) : Sp := fun vs H Q _ => ∃ (a : Addr) (ns : List Int) (w G : Int), vs = [.ref a, .int 1, .int w, .int G] ∧ SqL K H a (ns.map V.int) ∧ 0 ≤ G ∧ G ≤ 1000000000 ∧ ∀ (p : Addr) (H' : Hp) (t : T3), Same H H' → LT H' p t → BT 30 t → me t ≠ 0 → Q (.ref p) H'
def spForm : Sp := fun vs H Q _ => ∃ (p : Addr) (t : T3) (c : Int), vs = [.ref p, .int c] ∧ LT H p t ∧ BT 30 t ∧ Bd 20 c ∧ ∀ (r : Addr) (H' : Hp), Same H H' → S6 H' r (fm t c) → Q (.ref r) H'
def spSpot : Sp := fun vs H Q _ => ∃ (p : Addr) (t : T3) (s u : Int), vs = [.ref p, .int s, .int u] ∧ LT H p t ∧ BT 30 t ∧ me t ≠ 0 ∧ Bd 21 s ∧ Bd 21 u ∧ ∀ (r : Addr) (H' : Hp) (R : P3), Same H H' → S3 H' r R → L3 R → BP 105 R → (∀ c, wo (fm t c) R = 0) → Q (.ref r) H'
def spLw : Sp := fun vs H Q _ => ∃ (p q : Addr) (F : F6) (P : P3), vs = [.ref p, .ref q] ∧ S6 H p F ∧ S3 H q P ∧ BF 600 F ∧ BP 601 P ∧ Q (.int (lw F P)) H
def spCross : Sp := fun vs H Q _ => ∃ (p q r : Addr) (F : F6) (P R : P3), vs = [.ref p, .ref q, .ref r] ∧ S6 H p F ∧ S3 H q P ∧ S3 H r R ∧ BF 600 F ∧ BP 600 P ∧ BP 600 R ∧ ∀ H', Same H H' → Q (.int (bl F P R)) H'
def spIsSpot : Sp := fun vs H Q _ => ∃ (p : Addr) (P : P3), vs = [.ref p] ∧ S3 H p P ∧ L3 P ∧ BP 900 P ∧ ∀ H', Same H H' → Q (.bl true) H'
def tv (c : Int) : Int := [1, 1, 1, -1, 2, -3, 6, 1000003].getD (c % 8).toNat 0
def spTimes : Sp := fun vs H Q _ => ∃ c : Int, vs = [.int c] ∧ ∀ H', Same H H' → Q (.int (tv c)) H'
def spPair : Sp := fun vs H Q _ => ∃ x y w : Int, vs = [.int x, .int y, .int w] ∧ ∀ (p : Addr) (H' : Hp) (s u : Int), Same H H' → H' p = some (.tup [.int s, .int u]) → Bd 20 s → Bd 20 u → Q (.ref p) H'
def spWay : Sp := fun vs H Q _ => ∃ (p : Addr) (P : P3) (m n : Int), vs = [.ref p, .int m, .int n] ∧ S3 H p P ∧ ∀ (r : Addr) (H' : Hp), Same H H' → S3 H' r (dr P m n) → Q (.ref r) H'
def spRight : Sp := fun vs H Q _ => ∃ (f q p : Addr) (F : F6) (P R : P3) (m n : Int), vs = [.ref f, .ref q, .ref p, .int m, .int n] ∧ S3 H f R ∧ S6 H q F ∧ S3 H p P ∧ BF 100 F ∧ BP 130 P ∧ BP 600 R ∧ Bd 20 m ∧ Bd 20 n ∧ Rgt F P (dr P m n) R ∧ ∀ H', Same H H' → Q (.bl true) H'
def nz : V → Bool
  | .int n => !decide (V.int n = V.int 0)
  | _ => false
def fst3 (x y z : Int) : Int := if x ≠ 0 then x else if y ≠ 0 then y else z
def vtm (c : Int) : V → V
  | .int n => .int (c * n)
  | v => v
def vmt (c : Int) : V → V
  | .int n => .int (n * c)
  | v => v
def d2 (m n : Int) : PyData := .tuple [.int m, .int n]
structure Nms (F : F6) (P R D : P3) (d : Int) : Prop where
  (low : L3 D) (d0 : d ≠ 0) (e : cr (ln F P R) (ax P) = tm d D)
structure Lay (H : Hp) (o : Addr) (rs : List Addr) (xs : List (List V)) : Prop where
  (at' : H o = some (.lst (rs.map V.ref))) (len : rs.length = xs.length)
  (get : ∀ (j : Nat) (r : Addr), rs[j]? = some r → ∃ x, xs[j]? = some x ∧ H r = some (.tup x))
def Pt (F : F6) (R : P3) : Prop := L3 R ∧ wo F R = 0 ∧ BP 105 R
def Pq (m : Int × Int) : Prop := (m.1 ≠ 0 ∨ m.2 ≠ 0) ∧ Bd 20 m.1 ∧ Bd 20 m.2
def v2 (m : Int × Int) : List V := [.int m.1, .int m.2]
def spBack : Sp := fun vs H Q _ => ∃ (q p o pa : Addr) (F : F6) (P : P3) (rs : List Addr) (Rs : List P3) (qs : List Addr) (ms : List (Int × Int)), vs = [.ref q, .ref p, .ref o, .ref pa] ∧ S6 H q F ∧ S3 H p P ∧ sz F ≠ 0 ∧ BF 100 F ∧ Pt F P ∧ Lay H o rs (Rs.map v3) ∧ (∀ R ∈ Rs, Pt F R) ∧ Lay H pa qs (ms.map v2) ∧ (∀ m ∈ ms, Pq m) ∧ rs.length < 100 ∧ qs.length < 100 ∧ ∀ H', Same H H' → Q (.bl true) H'
section
variable {P : Program} {w : World} {K : PySem.W.Frag} {mg : Str → Option Value} {base : Heap} {t : Adr}
end
end K53
open PySem PySem.W PyProof.Rows