import PyProof.Rows.All
import Wide.All
import OpenK.AllK
import Wide.FinOn
import Lean
import PyProof.EqAt
import PyProof.EqKinds
import PyProof.TupleCall
import PyProof.NeKinds
import PyProof.EnumStmt
import PyProof.ZipIter
import PyProof.Rows.ZipGen
import PyProof.EnumFor
import PyProof.ConsumeWalk
import PyProof.StrWalks
import PyProof.FString5
import PyProof.TupleKey
import PyProof.DictRoadsH
import PyProof.Rows.TupTab
import PyProof.ReprStr
import PyProof.StrLawsRepr
import PyProof.ListMulRoad
import PyProof.StrOps2
import KE.KLam
import PySem.Challenge.RW_scoreflow_k02_reckoned
set_option compiler.extract_closed false
set_option Elab.async false
set_option linter.all false
set_option maxRecDepth 100000
namespace L2
open PySem PySem.Spec PyProof.Rows
abbrev Key := Sum Int Str
def keyIs : Key → Value → Bool
  | .inl k, v => Value.isInt k v
  | .inr x, v => Value.isStrOf x v
def keyH (w : World) : Key → Int
  | .inl k => hashInt k
  | .inr x => hashStr w x
theorem keyIs_shape : ∀ {k : Key} {v : Value}, keyIs k v = true → (∃ i t, k = Sum.inl i ∧ v = Value.int i t) ∨ (∃ x t, k = Sum.inr x ∧ v = Value.str x t)
  | .inl i, v, h => by
    obtain ⟨t, e⟩ := Value.isInt_shape (k := i) (v := v) h
    exact .inl ⟨i, t, rfl, e⟩
  | .inr x, v, h => by
    obtain ⟨t, e⟩ := Value.isStrOf_shape (x := x) (v := v) h
    exact .inr ⟨x, t, rfl, e⟩
theorem key_ll (a b : Int) : decide ((Sum.inl a : Key) = Sum.inl b) = (a == b) := by
  by_cases e : a = b
  · subst e; simp
  · have h : ¬ (Sum.inl a : Key) = Sum.inl b := fun q => e (Sum.inl.inj q)
    rw [decide_eq_false h]
    exact (beq_eq_false_iff_ne.mpr e).symm
theorem key_rr (a b : Str) : decide ((Sum.inr a : Key) = Sum.inr b) = decide (a = b) := by
  by_cases e : a = b
  · subst e; simp
  · have h : ¬ (Sum.inr a : Key) = Sum.inr b := fun q => e (Sum.inr.inj q)
    rw [decide_eq_false h, decide_eq_false e]
theorem key_lr (a : Int) (b : Str) : decide ((Sum.inl a : Key) = Sum.inr b) = false := decide_eq_false (fun q => nomatch q)
theorem key_rl (a : Str) (b : Int) : decide ((Sum.inr a : Key) = Sum.inl b) = false := decide_eq_false (fun q => nomatch q)
def mixKind (prog : Program) (w : World) : PySem.KeyKind prog w Key where
  is := keyIs
  hash := keyH w
  inj := fun v a b ha hb => by
    rcases keyIs_shape ha with ⟨i, t, rfl, rfl⟩ | ⟨x, t, rfl, rfl⟩
    · rcases keyIs_shape hb with ⟨j, u, rfl, e⟩ | ⟨y, u, rfl, e⟩
      · injection e with e1 _; rw [e1]
      · exact nomatch e
    · rcases keyIs_shape hb with ⟨j, u, rfl, e⟩ | ⟨y, u, rfl, e⟩
      · exact nomatch e
      · injection e with e1 _; rw [e1]
  byValue := fun k v h => by
    rcases keyIs_shape h with ⟨i, t, rfl, rfl⟩ | ⟨x, t, rfl, rfl⟩ <;> rfl
  pyHash := fun hv h => by
    rcases keyIs_shape hv with ⟨i, t, rfl, rfl⟩ | ⟨x, t, rfl, rfl⟩
    · exact wpAny_pyHash_int h
    · exact wpAny_pyHash_str h
  eqBool := fun hu hv h => by
    rcases keyIs_shape hu with ⟨i, t, rfl, rfl⟩ | ⟨x, t, rfl, rfl⟩
    · rcases keyIs_shape hv with ⟨j, u, rfl, rfl⟩ | ⟨y, u, rfl, rfl⟩
      · rw [key_ll] at h; exact wpAny_eqBool_int h
      · rw [key_lr] at h; exact SeqAt.EqAt.int_str i t y u _ _ _ _ h
    · rcases keyIs_shape hv with ⟨j, u, rfl, rfl⟩ | ⟨y, u, rfl, rfl⟩
      · rw [key_rl] at h; exact SeqAt.EqAt.str_int x t j u _ _ _ _ h
      · rw [key_rr] at h; exact wpAny_eqBool_str h
  «strs» := fun k x t v h => by
    rcases keyIs_shape h with ⟨i, u, rfl, e⟩ | ⟨y, u, rfl, e⟩
    · exact nomatch e
    · injection e with e1 _
      subst e1
      cases v <;> rfl
end L2
namespace L2
open PySem PySem.Spec PyProof.Rows
inductive V where
  | non | bl (b : Bool) | int (i : Int) | str (x : Str) | byt (b : Array UInt8) | flt (b : UInt64) | ref (a : Addr) | ty (n : String)
  deriving DecidableEq
def RelV : V → Value → Prop
  | .non, u => u = Value.none
  | .bl b, u => u = Value.bool b
  | .int i, u => ∃ t, u = Value.int i t
  | .str x, u => ∃ t, u = Value.str x t
  | .byt b, u => ∃ t, u = Value.bytes b t
  | .flt b, u => ∃ t, u = Value.float b t
  | .ref a, u => u = Value.ref a
  | .ty n, u => u = Value.type n
abbrev Vals : List V → List Value → Prop := Paired RelV
theorem Vals.length {xs : List V} {us : List Value} (r : Vals xs us) : xs.length = us.length := Paired.length r
theorem Vals.get : ∀ {xs : List V} {us : List Value} {i : Nat} {x : V}, Vals xs us → xs[i]? = some x → ∃ u, us[i]? = some u ∧ RelV x u
  | _, _, _, _, .nil, e => by simp at e
  | _, _, 0, _, .cons r _, e => by simp at e; subst e; exact ⟨_, rfl, r⟩
  | _, _, i + 1, x, .cons _ t, e => by
    obtain ⟨u, h1, h2⟩ := Vals.get (i := i) (x := x) t (by simpa using e)
    exact ⟨u, by simpa using h1, h2⟩
theorem Vals.append : ∀ {xs ys : List V} {us ws : List Value}, Vals xs us → Vals ys ws → Vals (xs ++ ys) (us ++ ws)
  | _, _, _, _, .nil, s => s
  | _, _, _, _, .cons r t, s => .cons r (Vals.append t s)
def RelO : Option V → Option Value → Prop
  | some v, some u => RelV v u
  | none, none => True
  | _, _ => False
def KV {κ : Type} : List (κ × V) → List (κ × Value) → Prop := Paired fun (p : κ × V) (q : κ × Value) => p.1 = q.1 ∧ RelV p.2 q.2
def kV : Key → V
  | .inl i => .int i
  | .inr x => .str x
inductive HO where
  /-- a list -/
  | lst (xs : List V)
  /-- a tuple (never changes) -/
  | tup (xs : List V)
  /-- a dict whose keys are ints and texts; one whose keys are tuples of ints and texts (the empty one is both) -/
  | dK (kvs : List (Key × V)) | dT (kvs : List (List Key × V))
  /-- a set of ints: its members, its size -/
  | set (S : Int → Bool) (n : Nat)
  /-- an instance of the class at C, its dict at dx, its attributes -/
  | ins (C dx : Addr) (fs : List (Str × V))
  /-- the dict of the instance at x -/
  | own (x : Addr)
  /-- the dict of an exception -/
  | xd (fs : List (Str × V))
  /-- a bound method, f of x -/
  | met (f x : Addr)
  /-- a range object lo, lo + 1, .. below hi -/
  | rng (lo hi : Int)
  /-- a thing that is known to the object (the script; a dict while a loop walks it): read, never written while it is so -/
  | frz (o : Obj) (u : HO)
  /-- a code object's table -/
  | tbl (ps : Array Value)
  /-- any other thing, by what is true of its one object (a def of one's own: SetO a S n := HO.ext fun h => ..) -/
  | ext (φ : Heap → Prop)
abbrev Hp := Addr → Option HO
def upd (H : Hp) (a : Addr) (o : HO) : Hp := fun b => if b = a then some o else H b
theorem upd_same {H : Hp} {a : Addr} {o : HO} : upd H a o a = some o := by unfold upd; rw [if_pos rfl]
theorem upd_ne {H : Hp} {a b : Addr} {o : HO} (h : b ≠ a) : upd H a o b = H b := by unfold upd; rw [if_neg h]
theorem ne_of_none {H : Hp} {a b : Addr} {o : HO} (h : H a = some o) (h' : H b = none) : a ≠ b := by
  intro e; subst e; rw [h] at h'; cases h'
section
variable (P : Program) (w : World)
def ObjOk (H : Hp) (h : Heap) (a : Addr) : HO → Prop
  | .lst xs => xs.length ≤ sizeLine ∧ ∃ (its : List Value) (n : Nat), Vals xs its ∧ h.get? a = some { cls := .type "list", data := .seq its.toArray n }
  | .tup xs => xs.length ≤ sizeLine ∧ ∃ its : List Value, Vals xs its ∧ IsTup h a its.toArray
  | .dK kvs => kvs.length ≤ sizeLine ∧ (a == sysModules) = false ∧ ∃ vs, KV kvs vs ∧ h.DictOf (mixKind P w) a vs
  | .dT kvs => kvs.length ≤ sizeLine ∧ (a == sysModules) = false ∧ ∃ xs : List (List Key × Addr × Value),
      Paired (fun (p : List Key × V) (q : List Key × Addr × Value) => p.1 = q.1 ∧ H q.2.1 = some (.tup (p.1.map kV)) ∧ RelV p.2 q.2.2) kvs xs ∧
      ∃ o es ep, h.get? a = some o ∧ o.ExactDict ∧ o.data = .dict es ep ∧ es.toList = xs.map (entryOfKey (tupleKind (mixKind P w))) ∧ (xs.map (·.1)).Nodup
  | .set S n => h.SetOf (intKind P w) a S n
  | .ins C dx fs => H dx = some (.own a) ∧ fs.length ≤ 1000 ∧ dx ≠ a ∧ h.get? a = some (PySem.W.instObj C dx) ∧
      ∃ mA, h.Ns1 dx mA ∧ (∀ f, RelO (fs.lookup f) (mA f)) ∧ PySem.Within mA (fs.map (·.1))
  | .own _ => ∃ o, h.get? a = some o
  | .xd fs => ∃ mA, h.Ns1 a mA ∧ ∀ f, RelO (fs.lookup f) (mA f)
  | .rng lo hi => ∃ t u v, h.get? a = some { cls := .type "range", data := .fields #[.int lo t, .int hi u, .int 1 v] }
  | .frz o u => h.get? a = some o ∧ ObjOk H h a u
  | .tbl ps => h.get? a = some { cls := .none, data := .fields ps }
  | .met f x => h.get? a = some (PySem.W.methodObj (.ref f) (.ref x))
  | .ext φ => φ h ∧ (∃ o, h.get? a = some o) ∧ ∀ h1 h2 : Heap, φ h1 → (∀ o, h1.get? a = some o → h2.get? a = some o) → φ h2
def HOk (H : Hp) (h : Heap) : Prop := ∀ a o, H a = some o → ObjOk P w H h a o
end
section
variable {P : Program} {w : World} {H H' : Hp} {h h' : Heap} {a : Addr} {o : HO}
theorem ObjOk.lt (x : ObjOk P w H h a o) : a < h.objs.size := by
  cases o with
  | lst xs => obtain ⟨_, _, _, _, e⟩ := x; exact Heap.lt_size e
  | tup xs => obtain ⟨_, _, _, p⟩ := x; exact p.lt
  | dK kvs => obtain ⟨_, _, _, _, o, _, _, e, _⟩ := x; exact Heap.lt_size e
  | dT kvs => obtain ⟨_, _, _, _, o, _, _, e, _⟩ := x; exact Heap.lt_size e
  | set S n => obtain ⟨o, _, _, _, e, _⟩ := x; exact Heap.lt_size e
  | ins C dx fs => obtain ⟨_, _, _, e, _⟩ := x; exact Heap.lt_size e
  | own y => obtain ⟨_, e⟩ := x; exact Heap.lt_size e
  | xd fs => obtain ⟨_, ⟨_, _, _, e, _⟩, _⟩ := x; exact Heap.lt_size e
  | rng lo hi => obtain ⟨_, _, _, e⟩ := x; exact Heap.lt_size e
  | frz ob u => obtain ⟨e, _⟩ := x; exact Heap.lt_size e
  | tbl ps => exact Heap.lt_size (show h.get? a = some _ from x)
  | met f y => exact Heap.lt_size (show h.get? a = some _ from x)
  | ext φ => obtain ⟨_, ⟨_, e⟩, _⟩ := x; exact Heap.lt_size e
theorem Paired.mapP {α β : Type} {F G : α → β → Prop} : ∀ {l₁ : List α} {l₂ : List β}, Paired F l₁ l₂ → (∀ a b, F a b → G a b) → Paired G l₁ l₂
  | _, _, .nil, _ => .nil
  | _, _, .cons r t, f => .cons (f _ _ r) (Paired.mapP t f)
theorem ObjOk.stay (x : ObjOk P w H h a o) (k : ∀ b u, (b = a ∨ H b = some (.own a)) → h.get? b = some u → h'.get? b = some u)
    (ho : ∀ b, H b = some (.own a) → H' b = some (.own a)) (ht : ∀ b xs, H b = some (.tup xs) → H' b = some (.tup xs)) : ObjOk P w H' h' a o := by
  induction o with
  | lst xs => obtain ⟨z, its, n, r, e⟩ := x; exact ⟨z, its, n, r, k _ _ (.inl rfl) e⟩
  | tup xs => obtain ⟨z, its, r, ob, e, c⟩ := x; exact ⟨z, its, r, ob, k _ _ (.inl rfl) e, c⟩
  | dK kvs => obtain ⟨z, y, vs, r, ob, es, ep, e, c⟩ := x; exact ⟨z, y, vs, r, ob, es, ep, k _ _ (.inl rfl) e, c⟩
  | dT kvs =>
    obtain ⟨z, y, xs, r, ob, es, ep, e, c⟩ := x
    exact ⟨z, y, xs, Paired.mapP r fun p q z => ⟨z.1, ht _ _ z.2.1, z.2.2⟩, ob, es, ep, k _ _ (.inl rfl) e, c⟩
  | set S n => obtain ⟨ob, es, ep, t, e, c⟩ := x; exact ⟨ob, es, ep, t, k _ _ (.inl rfl) e, c⟩
  | ins C dx fs =>
    obtain ⟨d, z, ne, e, mA, ⟨od, es, ep, e2, c⟩, r⟩ := x
    exact ⟨ho _ d, z, ne, k _ _ (.inl rfl) e, mA, ⟨od, es, ep, k _ _ (.inr d) e2, c⟩, r⟩
  | own y => obtain ⟨ob, e⟩ := x; exact ⟨ob, k _ _ (.inl rfl) e⟩
  | xd fs => obtain ⟨mA, ⟨od, es, ep, e, c⟩, r⟩ := x; exact ⟨mA, ⟨od, es, ep, k _ _ (.inl rfl) e, c⟩, r⟩
  | rng lo hi => obtain ⟨t, u, v, e⟩ := x; exact ⟨t, u, v, k _ _ (.inl rfl) e⟩
  | frz ob u ih => obtain ⟨e, q⟩ := x; exact ⟨k _ _ (.inl rfl) e, ih q⟩
  | tbl ps =>
    have e : h.get? a = some { cls := .none, data := .fields ps } := x
    show h'.get? a = some { cls := .none, data := .fields ps }
    exact k a _ (.inl rfl) e
  | met f y =>
    have e : h.get? a = some (PySem.W.methodObj (.ref f) (.ref y)) := x
    show h'.get? a = some (PySem.W.methodObj (.ref f) (.ref y))
    exact k a _ (.inl rfl) e
  | ext φ => obtain ⟨p, ⟨o, e⟩, st⟩ := x; exact ⟨st _ _ p fun o q => k _ _ (.inl rfl) q, ⟨o, k _ _ (.inl rfl) e⟩, st⟩
theorem HOk.lt (x : HOk P w H h) (e : H a = some o) : a < h.objs.size := (x a o e).lt
theorem HOk.fresh (x : HOk P w H h) (e : h.objs.size ≤ a) : H a = none := by
  cases q : H a with
  | none => rfl
  | some u => exact absurd (Nat.lt_of_lt_of_le (x.lt q) e) (Nat.lt_irrefl _)
theorem HOk.kept (x : HOk P w H h) (k : ∀ b u, h.get? b = some u → h'.get? b = some u) : HOk P w H h' := fun a o e =>
  (x a o e).stay (fun b u _ q => k b u q) (fun _ q => q) fun _ _ q => q
theorem HOk.laid (x : HOk P w H h) (k : ∀ b u, h.get? b = some u → h'.get? b = some u) (hp : h.objs.size ≤ a) (new : ObjOk P w (upd H a o) h' a o) : HOk P w (upd H a o) h' := fun b u e => by
  have hn := x.fresh hp
  by_cases hb : b = a
  · subst hb; rw [upd_same] at e; cases e; exact new
  · rw [upd_ne hb] at e
    exact (x b u e).stay (fun c v _ q => k c v q) (fun c q => by rw [upd_ne (ne_of_none q hn)]; exact q) fun c xs q => by rw [upd_ne (ne_of_none q hn)]; exact q
end
def Rd (H : Hp) (a : Addr) (u : HO) : Prop := H a = some u ∨ ∃ o, H a = some (.frz o u)
theorem Rd.ok {P : Program} {w : World} {H : Hp} {h : Heap} {a : Addr} {u : HO} (r : Rd H a u) (x : HOk P w H h) : ObjOk P w H h a u := by
  rcases r with r | ⟨o, r⟩
  · exact x a u r
  · obtain ⟨_, q⟩ := x a _ r
    exact q
section
variable {P : Program} {w : World} {H : Hp} {h h' : Heap} {x e : Addr} {o' : HO}
end
structure Un (fs ex : List Addr) (H H' : Hp) (h h' : Heap) : Prop where
  keep : ∀ b o, h.get? b = some o → H b = none → b ∉ fs → b ∉ ex → h'.get? b = some o
  slot : ∀ b o, h.get? b = some o → H b = none → b ∈ fs → b ∉ ex → ∃ sl, h'.get? b = some { o with slots := sl }
  free : ∀ b o, h.get? b = some o → H b = none → b ∉ ex → H' b = none
  there : ∀ b o, h.get? b = some o → b ∉ ex → ∃ o', h'.get? b = some o'
  tups : ∀ b xs, H b = some (.tup xs) → H' b = some (.tup xs)
  frzs : ∀ b o u, H b = some (.frz o u) → H' b = some (.frz o u)
  tbls : ∀ b ps, H b = some (.tbl ps) → ∃ more, H' b = some (.tbl (ps ++ more))
section
variable {fs fs' ex ex' : List Addr} {H H1 H2 : Hp} {h h1 h2 h' : Heap} {a x e : Addr} {o : HO}
theorem Un.any (u : Un fs ex H H1 h h1) {b : Addr} {ob : Obj} (q : h.get? b = some ob) (n : H b = none) (hx : b ∉ ex) : ∃ sl, h1.get? b = some { ob with slots := sl } := by
  by_cases hb : b ∈ fs
  · exact u.slot b ob q n hb hx
  · exact ⟨ob.slots, u.keep b ob q n hb hx⟩
theorem Un.kept (k : ∀ b u, h.get? b = some u → h'.get? b = some u) : Un fs ex H H h h' :=
  ⟨fun b ob q _ _ _ => k b ob q, fun b ob q _ _ _ => ⟨ob.slots, k b ob q⟩, fun _ _ _ n _ => n, fun b ob q _ => ⟨ob, k b ob q⟩, fun _ _ q => q, fun _ _ _ q => q, fun _ ps q => ⟨#[], by rw [q]; simp⟩⟩
theorem Un.refl : Un fs ex H H h h := Un.kept fun _ _ q => q
theorem Un.laid (k : ∀ b u, h.get? b = some u → h'.get? b = some u) (hp : h.objs.size ≤ a) (hn : H a = none) : Un fs ex H (upd H a o) h h' where
  keep := fun b u q _ _ _ => k b u q
  slot := fun b u q _ _ _ => ⟨u.slots, k b u q⟩
  free := fun b u q n _ => by rw [upd_ne (Nat.ne_of_lt (Nat.lt_of_lt_of_le (Heap.lt_size q) hp))]; exact n
  there := fun b u q _ => ⟨u, k b u q⟩
  tups := fun b xs q => by rw [upd_ne (ne_of_none q hn)]; exact q
  frzs := fun b u xs q => by rw [upd_ne (ne_of_none q hn)]; exact q
  tbls := fun b ps q => ⟨#[], by rw [upd_ne (ne_of_none q hn), q]; simp⟩
end
def trk (h : Heap) (H : Hp) : List Addr := (List.range h.objs.size).filter fun a => (H a).isSome
def hidT (h : Heap) (H : Hp) : Heap := PySem.W.hideAll h (trk h H)
theorem hidT_size (h : Heap) (H : Hp) : (hidT h H).objs.size = h.objs.size := PySem.W.hideAll_size _ _
theorem hidT_get {h : Heap} {H : Hp} {b : Addr} {o : Obj} (e : h.get? b = some o) (n : H b = none) : (hidT h H).get? b = some o :=
  PySem.W.hideAll_get _ e fun hm => by
    have q : (H b).isSome = true := (List.mem_filter.mp hm).2
    rw [n] at q; simp at q
theorem of_hidT {h : Heap} {H : Hp} {b : Addr} {o : Obj} (e : (hidT h H).get? b = some o) : h.get? b = some o ∧ H b = none := by
  have e' : h.get? b = some o := PySem.W.of_hideAll (trk h H) e
  refine ⟨e', ?_⟩
  cases q : H b with
  | none => rfl
  | some x =>
    have hm : b ∈ trk h H := List.mem_filter.mpr ⟨List.mem_range.mpr (Heap.lt_size e'), by simp [q]⟩
    have z : (hidT h H).get? b = none := PySem.W.hideAll_none (trk h H) hm
    rw [z] at e; cases e
end L2
namespace L2
open PySem PySem.Spec PyProof.Rows
structure Mod (K : PySem.W.Frag) (mg : Str → Option Value) (base : Heap) : Prop where
  kin : K.In base
  glob : base.Ns mainGlobals mg
  blt : ∃ mb, base.Ns builtinsNs mb ∧ ∀ x : Str, x ≠ "__name__" → mb x = bootBuiltins x
  nolimit : base.NoLimit
  seer : base.NoSeer
structure Cx where
  prog : Program
  w : World
  K : PySem.W.Frag
  mg : Str → Option Value
  base : Heap
  A : Around
  N : List Str
  s₀ : Shared
  H₀ : Hp
  env : Env
  outer : List Env
  stack : List Env
  ex : List Addr
  fn : Str → Bool
  calm : Bool
  pn : List (Addr × Obj)
  xe : Value → Shared → Prop
def frs (l : List Env) : List Addr := l.filterMap (·.frame)
abbrev Cx.fs (X : Cx) : List Addr := frs X.outer
def Vis (sc : Scope) (x : Str) : Prop := sc.names.lookup x = some .local ∨ sc.names.lookup x = some .cell ∨ sc.names.lookup x = some .free
def Loc (sc : Scope) (x : Str) : Prop := sc.names.lookup x = some .local ∨ sc.names.lookup x = some .cell
def Look (env : Env) (h : Heap) (m : Str → Option Value) (x : Str) (u : Value) : Prop :=
  (env.kindOf x = some .local ∧ m x = some u) ∨ ((env.kindOf x = some .cell ∨ env.kindOf x = some .free) ∧ ∃ c, env.cells.lookup x = some c ∧ h.IsCell c (some u))
structure Cx.Ok (X : Cx) : Prop where
  mod : Mod X.K X.mg X.base
  kind : X.env.scope.kind = .function
  glob : X.env.globals = mainGlobals
  blt : X.env.builtins = builtinsNs
  above : X.s₀.heap.objs.size ≤ X.env.locals
  inj : ∀ x y c, X.env.cells.lookup x = some c → X.env.cells.lookup y = some c → x = y
  has : ∀ x, (X.env.kindOf x = some .cell ∨ X.env.kindOf x = some .free) → ∃ c, X.env.cells.lookup x = some c
  cab : ∀ x c, X.fn x = true → X.env.cells.lookup x = some c → X.s₀.heap.objs.size ≤ c
  hd : X.calm = true → X.A.handled = none
  frames : X.A.frames = some X.stack
  stk : X.stack = X.outer ∨ (X.stack = X.env :: X.outer ∧ X.env.frame = some X.env.locals)
  exf : ∀ b ∈ X.ex, b ≠ X.env.locals ∧ ∀ x c, X.env.cells.lookup x = some c → c ≠ b
  bs : ∀ b o, X.base.get? b = some o → X.s₀.heap.get? b = some o ∧ X.H₀ b = none
  bsz : X.base.objs.size ≤ X.s₀.heap.objs.size
  noex : ∀ b o, X.base.get? b = some o → b ∉ X.ex
  exfs : ∀ b ∈ X.ex, b ∉ X.fs
  funs : X.s₀.heap.FunFrames X.base X.outer
  frf : ∀ b ∈ X.fs, X.H₀ b = none
structure Inv (X : Cx) (pins : List (Addr × Obj)) (σ : List (Option V)) (H : Hp) (s : Shared) : Prop where
  ok : X.Ok
  os : s.os = X.s₀.os
  bare : AllBare s.gens
  base : Un X.fs X.ex X.H₀ H X.s₀.heap s.heap
  loc : ∃ m, s.heap.Ns X.env.locals m ∧ ∀ (i : Nat) (x : Str) (v : V), X.N[i]? = some x → σ[i]? = some (some v) → Vis X.env.scope x → ∃ u, RelV v u ∧ Look X.env s.heap m x u
  cell : ∀ x c, X.env.cells.lookup x = some c → ∃ v, s.heap.IsCell c v
  free : H X.env.locals = none
  freeC : ∀ x c, X.env.cells.lookup x = some c → H c = none
  pin : ∀ p ∈ X.pn ++ pins, s.heap.get? p.1 = some p.2 ∧ H p.1 = none ∧ p.1 ≠ X.env.locals ∧ p.1 ∉ X.fs ∧ ∀ v, p.2.data ≠ .cell v
  hok : HOk X.prog X.w H s.heap
  len : σ.length = X.N.length
section
variable {X : Cx} {pins : List (Addr × Obj)} {σ : List (Option V)} {H H' : Hp} {s : Shared} {h' : Heap}
theorem Cx.Ok.nofr (ok : X.Ok) {b : Addr} {o : Obj} (e : X.base.get? b = some o) : b ∉ X.fs := fun hb => by
  have := (ok.funs.mem hb).1
  rw [e] at this; cases this
theorem Inv.bs (I : Inv X pins σ H s) : ∀ b o, X.base.get? b = some o → s.heap.get? b = some o ∧ H b = none := fun b o e =>
  ⟨I.base.keep b o (I.ok.bs b o e).1 (I.ok.bs b o e).2 (I.ok.nofr e) (I.ok.noex b o e), I.base.free b o (I.ok.bs b o e).1 (I.ok.bs b o e).2 (I.ok.noex b o e)⟩
theorem Inv.bk (I : Inv X pins σ H s) : ∀ b o, X.base.get? b = some o → s.heap.get? b = some o := fun b o e => (I.bs b o e).1
theorem Inv.mod (I : Inv X pins σ H s) : Mod X.K X.mg X.base := I.ok.mod
theorem Inv.kIn (I : Inv X pins σ H s) : X.K.In s.heap := I.ok.mod.kin.keeps I.bk
theorem Inv.nolimit (I : Inv X pins σ H s) : s.heap.NoLimit := I.ok.mod.nolimit.keeps I.bk
theorem Inv.lt (I : Inv X pins σ H s) : X.env.locals < s.heap.objs.size := let ⟨_, hn, _⟩ := I.loc; hn.lt
theorem Inv.sz (I : Inv X pins σ H s) : X.s₀.heap.objs.size ≤ s.heap.objs.size := Nat.le_trans I.ok.above (Nat.le_of_lt I.lt)
theorem Inv.cne (I : Inv X pins σ H s) : ∀ x c, X.env.cells.lookup x = some c → c ≠ X.env.locals := fun x c e z => by
  obtain ⟨v, o, ho, hd⟩ := I.cell x c e
  obtain ⟨m, ⟨o', es, ep, ho', hd', _⟩, _⟩ := I.loc
  rw [z, ho'] at ho; cases ho; rw [hd'] at hd; cases hd
theorem Inv.funs (I : Inv X pins σ H s) : s.heap.FunFrames X.base X.outer := by
  have all : ∀ (l : List Env), (∀ b ∈ frs l, b ∈ X.fs) → X.s₀.heap.FunFrames X.base l → s.heap.FunFrames X.base l := by
    intro l
    induction l with
    | nil => intro _ _; trivial
    | cons env r ih =>
      intro hs hl
      obtain ⟨hk, ⟨L, o, hf, hn, ho, hd⟩, hr⟩ := hl
      have hL : L ∈ X.fs := hs L (by unfold frs; rw [List.filterMap_cons, hf]; exact List.mem_cons_self)
      obtain ⟨sl, e⟩ := I.base.slot L o ho (I.ok.frf L hL) hL fun z => I.ok.exfs L z hL
      exact ⟨hk, ⟨L, _, hf, hn, e, hd⟩, ih (fun b hb => hs b (by unfold frs; rw [List.filterMap_cons, hf]; exact List.mem_cons_of_mem _ hb)) hr⟩
  exact all X.outer (fun _ hb => hb) I.ok.funs
theorem Inv.stack (I : Inv X pins σ H s) : s.heap.FunFrames X.base X.stack := by
  rcases I.ok.stk with e | ⟨e, hf⟩
  · rw [e]; exact I.funs
  · rw [e]
    obtain ⟨m, hn, _⟩ := I.loc
    refine .cons (by rw [I.ok.kind]; decide) hf hn ?_ I.funs
    exact Heap.get?_none_of_le (Nat.le_trans I.ok.bsz I.ok.above)
theorem Inv.stkSub (I : Inv X pins σ H s) : ∀ b ∈ frs X.stack, b ∈ X.env.locals :: X.fs := fun b hb => by
  rcases I.ok.stk with e | ⟨e, hf⟩
  · rw [e] at hb; exact List.mem_cons_of_mem _ hb
  · rw [e] at hb
    unfold frs at hb
    rw [List.filterMap_cons, hf] at hb
    exact hb
theorem Inv.stkFree (I : Inv X pins σ H s) : ∀ b ∈ frs X.stack, H b = none := fun b hb => by
  rcases List.mem_cons.mp (I.stkSub b hb) with e | hb
  · rw [e]; exact I.free
  · obtain ⟨_, o, ho, _⟩ := I.ok.funs.mem hb
    exact I.base.free b o ho (I.ok.frf b hb) fun z => I.ok.exfs b z hb
theorem Inv.step {g' : Array GenState} {t' : Nat} {d' : Drawn} {ch : List Addr} (I : Inv X pins σ H s)
    (hch : ∀ b ∈ ch, (b ∈ X.ex ∨ X.s₀.heap.objs.size ≤ b) ∧ b ≠ X.env.locals ∧ (∀ x c, X.env.cells.lookup x = some c → c ≠ b) ∧ ∀ p ∈ X.pn ++ pins, p.1 ≠ b)
    (keep : ∀ b o, b ≠ X.env.locals → b ∉ X.fs → b ∉ ch → s.heap.get? b = some o → H b = none → h'.get? b = some o)
    (slot : ∀ b o, b ≠ X.env.locals → b ∈ X.fs → b ∉ ch → s.heap.get? b = some o → H b = none → ∃ sl, h'.get? b = some { o with slots := sl }) (free : ∀ b o, b ∉ ch → s.heap.get? b = some o → H b = none → H' b = none)
    (there : ∀ b o, b ∉ ch → s.heap.get? b = some o → ∃ o', h'.get? b = some o')
    (tups : ∀ b xs, H b = some (.tup xs) → H' b = some (.tup xs)) (frzs : ∀ b o u, H b = some (.frz o u) → H' b = some (.frz o u)) (tbls : ∀ b ps, H b = some (.tbl ps) → ∃ more, H' b = some (.tbl (ps ++ more)))
    (ns : ∀ m, s.heap.Ns X.env.locals m → h'.Ns X.env.locals m) (hok : HOk X.prog X.w H' h') (hg : AllBare g') :
    Inv X pins σ H' { s with heap := h', gens := g', drawn := d', toks := t' } := by
  have neL : ∀ b o, X.s₀.heap.get? b = some o → b ≠ X.env.locals := fun b o e => Nat.ne_of_lt (Nat.lt_of_lt_of_le (Heap.lt_size e) I.ok.above)
  have neC : ∀ b o, X.s₀.heap.get? b = some o → b ∉ X.ex → b ∉ ch := fun b o e hx hb => by
    rcases (hch b hb).1 with z | z
    · exact hx z
    · exact absurd (Nat.lt_of_lt_of_le (Heap.lt_size e) z) (Nat.lt_irrefl _)
  have cellK : ∀ x c, X.env.cells.lookup x = some c → ∀ v, s.heap.IsCell c v → h'.IsCell c v := fun x c e v ⟨o, ho, hd⟩ => by
    have nch : c ∉ ch := fun z => (hch c z).2.2.1 x c e rfl
    by_cases hc : c ∈ X.fs
    · obtain ⟨sl, q⟩ := slot c o (I.cne x c e) hc nch ho (I.freeC x c e)
      exact ⟨_, q, hd⟩
    · exact ⟨o, keep c o (I.cne x c e) hc nch ho (I.freeC x c e), hd⟩
  refine ⟨I.ok, I.os, hg, ⟨fun b o e n hb hx => ?_, fun b o e n hb hx => ?_, fun b o e n hx => ?_, fun b o e hx => ?_, fun b xs e => tups b xs (I.base.tups b xs e), fun b o xs e => frzs b o xs (I.base.frzs b o xs e), fun b ps e => ?_⟩, ?_, fun x c e => ?_, ?_, fun x c e => ?_, fun p hp => ?_, hok, I.len⟩
  · exact keep b o (neL b o e) hb (neC b o e hx) (I.base.keep b o e n hb hx) (I.base.free b o e n hx)
  · obtain ⟨sl, e1⟩ := I.base.slot b o e n hb hx
    obtain ⟨sl', e2⟩ := slot b _ (neL b o e) hb (neC b o e hx) e1 (I.base.free b o e n hx)
    exact ⟨sl', e2⟩
  · obtain ⟨o', e1⟩ := I.base.there b o e hx
    exact free b o' (neC b o e hx) e1 (I.base.free b o e n hx)
  · obtain ⟨o', e1⟩ := I.base.there b o e hx
    exact there b o' (neC b o e hx) e1
  · obtain ⟨m1, e1⟩ := I.base.tbls b ps e
    obtain ⟨m2, e2⟩ := tbls b _ e1
    exact ⟨m1 ++ m2, by rw [e2, Array.append_assoc]⟩
  · obtain ⟨m, hn, hl⟩ := I.loc
    refine ⟨m, ns m hn, fun i x v e1 e2 e3 => ?_⟩
    obtain ⟨u, r, l⟩ := hl i x v e1 e2 e3
    refine ⟨u, r, ?_⟩
    rcases l with l | ⟨k, c, e, z⟩
    · exact .inl l
    · exact .inr ⟨k, c, e, cellK x c e _ z⟩
  · obtain ⟨v, z⟩ := I.cell x c e
    exact ⟨v, cellK x c e v z⟩
  · obtain ⟨m, ⟨o, _, _, ho, _⟩, _⟩ := I.loc
    exact free _ o (fun z => (hch _ z).2.1 rfl) ho I.free
  · obtain ⟨v, o, ho, hd⟩ := I.cell x c e
    exact free c o (fun z => (hch c z).2.2.1 x c e rfl) ho (I.freeC x c e)
  · obtain ⟨e, n, ne, nf, d⟩ := I.pin p hp
    have nch : p.1 ∉ ch := fun z => (hch p.1 z).2.2.2 p hp rfl
    exact ⟨keep p.1 p.2 ne nf nch e n, free p.1 p.2 nch e n, ne, nf, d⟩
theorem Inv.un {t' : Nat} (I : Inv X pins σ H s) (u : Un X.fs [] H H' s.heap h') (hok : HOk X.prog X.w H' h') : Inv X pins σ H' { s with heap := h', toks := t' } := by
  obtain ⟨m, ⟨o, es, ep, ho, r⟩, _⟩ := id I.loc
  obtain ⟨sl, hL⟩ := u.any ho I.free (by simp)
  exact I.step (g' := s.gens) (d' := s.drawn) (ch := []) (fun _ z => nomatch z) (fun b o _ hb _ e n => u.keep b o e n hb (by simp)) (fun b o _ hb _ e n => u.slot b o e n hb (by simp)) (fun b o _ e n => u.free b o e n (by simp)) (fun b o _ e => u.there b o e (by simp)) u.tups u.frzs u.tbls (fun m' hm => by
    obtain ⟨o', es', ep', ho', r'⟩ := hm
    rw [ho] at ho'; cases ho'
    exact ⟨_, es', ep', hL, r'⟩) hok I.bare
theorem Inv.call {g' : Array GenState} {t' : Nat} {d' : Drawn} {ch : List Addr} (I : Inv X pins σ H s) (u : Un (frs X.stack) ch H H' s.heap h') (hok : HOk X.prog X.w H' h') (hg : AllBare g')
    (hch : ∀ b ∈ ch, (b ∈ X.ex ∨ X.s₀.heap.objs.size ≤ b) ∧ b ≠ X.env.locals ∧ (∀ x c, X.env.cells.lookup x = some c → c ≠ b) ∧ ∀ p ∈ X.pn ++ pins, p.1 ≠ b) :
    Inv X pins σ H' { s with heap := h', gens := g', drawn := d', toks := t' } := by
  obtain ⟨m, ⟨o, es, ep, ho, r⟩, _⟩ := id I.loc
  obtain ⟨sl, hL⟩ := u.any ho I.free fun z => (hch _ z).2.1 rfl
  exact I.step (ch := ch) hch (fun b o hL hb hc e n => u.keep b o e n (fun z => (List.mem_cons.mp (I.stkSub b z)).elim hL hb) hc) (fun b o _ _ hc e n => u.any e n hc) (fun b o hc e n => u.free b o e n hc) (fun b o hc e => u.there b o e hc) u.tups u.frzs u.tbls (fun m' hm => by
    obtain ⟨o', es', ep', ho', r'⟩ := hm
    rw [ho] at ho'; cases ho'
    exact ⟨_, es', ep', hL, r'⟩) hok hg
theorem Inv.tok (I : Inv X pins σ H s) (t : Nat) : Inv X pins σ H { s with toks := t } := I.un (h' := s.heap) (t' := t) Un.refl I.hok
theorem Inv.laid {a : Addr} {o : HO} {t' : Nat} (I : Inv X pins σ H s) (k : ∀ b u, s.heap.get? b = some u → h'.get? b = some u) (hp : s.heap.objs.size ≤ a) (new : ObjOk X.prog X.w (upd H a o) h' a o) :
    Inv X pins σ (upd H a o) { s with heap := h', toks := t' } := I.un (Un.laid k hp (I.hok.fresh hp)) (I.hok.laid k hp new)
theorem nodup_ix {N : List Str} (hN : N.Nodup) {i j : Nat} {x : Str} (a : N[i]? = some x) (b : N[j]? = some x) : i = j := by
  obtain ⟨h1, e1⟩ := List.getElem?_eq_some_iff.mp a
  obtain ⟨h2, e2⟩ := List.getElem?_eq_some_iff.mp b
  exact (List.getElem_inj hN).mp (e1.trans e2.symm)
theorem store_ok2 {M : Model} {A : Around} {E : Value → Shared → Prop} {i : Nat} {x : Str} {v : V} {u : Value} {Q : Unit → Shared → Prop} (I : Inv X pins σ H s) (hN : X.N.Nodup) (hi : X.N[i]? = some x) (hx : Loc X.env.scope x) (r : RelV v u)
    (h : ∀ s', Inv X pins (σ.set i (some v)) H s' → (∃ a, Heap.SameBut a s.heap s'.heap ∧ (a = X.env.locals ∨ X.env.cells.lookup x = some a)) → Q () s') (hf : X.fn x = true ∨ X.env.scope.names.lookup x = some .local := by first | exact .inl rfl | exact .inr rfl | assumption) : wpAny M A (storeName X.env x u) Q E s := by
  obtain ⟨m, hn, hl⟩ := id I.loc
  have hcls : (X.env.scope.kind == .class || (X.env.scope.kind == .module && X.env.locals != X.env.globals)) = false := by rw [I.ok.kind]; rfl
  have hiσ : i < σ.length := by rw [I.len]; exact (List.getElem?_eq_some_iff.mp hi).1
  have cne := I.cne
  have tracked : ∀ {a : Addr} {h' : Heap}, (∃ o, s.heap.get? a = some o ∧ H a = none) → Heap.SameBut a s.heap h' → HOk X.prog X.w H h' := fun {a h'} ha hs b ob e => by
    obtain ⟨_, _, hfree⟩ := ha
    refine (I.hok b ob e).stay (fun c w' hc q => (hs.2 c ?_).trans q) (fun _ q => q) fun _ _ q => q
    rintro rfl
    rcases hc with rfl | hc
    · rw [hfree] at e; cases e
    · rw [hfree] at hc; cases hc
  rcases hx with hk | hk
  · refine wpAny_storeName_local hk hn (fun h' hn' hs => ?_) hcls
    obtain ⟨oL, _, _, hoL, _⟩ := id hn
    refine h _ ⟨I.ok, I.os, I.bare, ⟨fun b o e n hb hx => ?_, fun b o e n hb hx => ?_, I.base.free, fun b o e hx => ?_, I.base.tups, I.base.frzs, I.base.tbls⟩, ⟨_, hn', fun j y v' e1 e2 e3 => ?_⟩, fun y c e => ?_, I.free, I.freeC, fun p hp => ?_, tracked ⟨oL, hoL, I.free⟩ hs, by simpa using I.len⟩ ⟨_, hs, .inl rfl⟩
    · exact (hs.2 b (Nat.ne_of_lt (Nat.lt_of_lt_of_le (Heap.lt_size e) I.ok.above))).trans (I.base.keep b o e n hb hx)
    · obtain ⟨sl, e1⟩ := I.base.slot b o e n hb hx
      exact ⟨sl, (hs.2 b (Nat.ne_of_lt (Nat.lt_of_lt_of_le (Heap.lt_size e) I.ok.above))).trans e1⟩
    · obtain ⟨o', e1⟩ := I.base.there b o e hx
      exact ⟨o', (hs.2 b (Nat.ne_of_lt (Nat.lt_of_lt_of_le (Heap.lt_size e) I.ok.above))).trans e1⟩
    · by_cases hj : j = i
      · subst hj
        rw [hi] at e1; cases e1
        rw [List.getElem?_set_self hiσ] at e2
        cases e2
        exact ⟨u, r, .inl ⟨hk, by simp⟩⟩
      · rw [List.getElem?_set_ne (Ne.symm hj)] at e2
        obtain ⟨u', r', q⟩ := hl j y v' e1 e2 e3
        refine ⟨u', r', ?_⟩
        rcases q with ⟨k, e⟩ | ⟨k, c, e, z⟩
        · refine .inl ⟨k, ?_⟩
          have : y ≠ x := fun e => hj (nodup_ix hN e1 (e ▸ hi))
          simp [this, e]
        · exact .inr ⟨k, c, e, z.sameBut hs (cne y c e)⟩
    · obtain ⟨w', z⟩ := I.cell y c e
      exact ⟨w', z.sameBut hs (cne y c e)⟩
    · obtain ⟨e, n, ne, nf, d⟩ := I.pin p hp
      exact ⟨(hs.2 p.1 ne).trans e, n, ne, nf, d⟩
  · have hfn : X.fn x = true := by
      rcases hf with z | z
      · exact z
      · rw [z] at hk; cases hk
    obtain ⟨c, hc⟩ := I.ok.has x (.inl hk)
    obtain ⟨w', z⟩ := I.cell x c hc
    refine wpAny_storeName_cell I.ok.kind hk hc z (fun h' hc' hs => ?_)
    obtain ⟨oc, hoc, hocd⟩ := id z
    refine h { s with heap := h' } ⟨I.ok, I.os, I.bare, ⟨fun b o e n hb hx => ?_, fun b o e n hb hx => ?_, I.base.free, fun b o e hx => ?_, I.base.tups, I.base.frzs, I.base.tbls⟩, ⟨m, hn.sameBut hs (Ne.symm (cne x c hc)), fun j y v' e1 e2 e3 => ?_⟩, fun y c' e => ?_, I.free, I.freeC, fun p hp => ?_, tracked ⟨oc, hoc, I.freeC x c hc⟩ hs, by simpa using I.len⟩ ⟨c, hs, .inr hc⟩
    · exact (hs.2 b (Nat.ne_of_lt (Nat.lt_of_lt_of_le (Heap.lt_size e) (I.ok.cab x c hfn hc)))).trans (I.base.keep b o e n hb hx)
    · obtain ⟨sl, e1⟩ := I.base.slot b o e n hb hx
      exact ⟨sl, (hs.2 b (Nat.ne_of_lt (Nat.lt_of_lt_of_le (Heap.lt_size e) (I.ok.cab x c hfn hc)))).trans e1⟩
    · obtain ⟨o', e1⟩ := I.base.there b o e hx
      exact ⟨o', (hs.2 b (Nat.ne_of_lt (Nat.lt_of_lt_of_le (Heap.lt_size e) (I.ok.cab x c hfn hc)))).trans e1⟩
    · by_cases hj : j = i
      · subst hj
        rw [hi] at e1; cases e1
        rw [List.getElem?_set_self hiσ] at e2
        cases e2
        exact ⟨u, r, .inr ⟨.inl hk, c, hc, hc'⟩⟩
      · rw [List.getElem?_set_ne (Ne.symm hj)] at e2
        obtain ⟨u', r', q⟩ := hl j y v' e1 e2 e3
        refine ⟨u', r', ?_⟩
        rcases q with q | ⟨k, c', e, z'⟩
        · exact .inl q
        · refine .inr ⟨k, c', e, z'.sameBut hs ?_⟩
          rintro rfl
          exact hj (nodup_ix hN e1 (I.ok.inj _ _ _ e hc ▸ hi))
    · by_cases hcc : c' = c
      · subst hcc; exact ⟨_, hc'⟩
      · obtain ⟨w2, z2⟩ := I.cell y c' e
        exact ⟨w2, z2.sameBut hs hcc⟩
    · obtain ⟨e, n, ne, nf, d⟩ := I.pin p hp
      refine ⟨(hs.2 p.1 ?_).trans e, n, ne, nf, d⟩
      intro q
      rw [q, hoc] at e
      have q' : oc = p.2 := Option.some.inj e
      exact d w' (by rw [← q']; exact hocd)
theorem store_ok {M : Model} {A : Around} {E : Value → Shared → Prop} {i : Nat} {x : Str} {v : V} {u : Value} {Q : Unit → Shared → Prop} (I : Inv X pins σ H s) (hN : X.N.Nodup) (hi : X.N[i]? = some x) (hx : Loc X.env.scope x) (r : RelV v u)
    (h : ∀ s', Inv X pins (σ.set i (some v)) H s' → Q () s') (hf : X.fn x = true ∨ X.env.scope.names.lookup x = some .local := by first | exact .inl rfl | exact .inr rfl | assumption) : wpAny M A (storeName X.env x u) Q E s :=
  store_ok2 I hN hi hx r (fun s' I' _ => h s' I') hf
theorem Inv.call' {s' : Shared} {ch : List Addr} (I : Inv X pins σ H s) (ho : s'.os = s.os) (u : Un (frs X.stack) ch H H' s.heap s'.heap) (hok : HOk X.prog X.w H' s'.heap) (hg : AllBare s'.gens)
    (hch : ∀ b ∈ ch, (b ∈ X.ex ∨ X.s₀.heap.objs.size ≤ b) ∧ b ≠ X.env.locals ∧ (∀ x c, X.env.cells.lookup x = some c → c ≠ b) ∧ ∀ p ∈ X.pn ++ pins, p.1 ≠ b) : Inv X pins σ H' s' := by
  obtain ⟨h', g', d', t', o'⟩ := s'
  have e : o' = s.os := ho
  subst e
  exact I.call (g' := g') (t' := t') (d' := d') u hok hg hch
end
abbrev XK := Value → Option Addr → Hp → Prop
abbrev St := List (Option V)
abbrev VK := V → Hp → Prop
abbrev TE := St → Hp → VK → Prop
abbrev TT := St → Hp → (Bool → Hp → Prop) → Prop
abbrev TA := St → Hp → (List V → Hp → Prop) → Prop
structure Ends where
  nx : St → Hp → Prop
  rt : VK
  bk : St → Hp → Prop := fun _ _ => False
  ct : St → Hp → Prop := fun _ _ => False
abbrev TS := Ends → St → Hp → Prop
def EP (X : Cx) (pins : List (Addr × Obj)) (σ : St) (Q : VK) (u : Value) (s' : Shared) : Prop := ∃ v H', Inv X pins σ H' s' ∧ RelV v u ∧ Q v H'
def TP (X : Cx) (pins : List (Addr × Obj)) (σ : St) (Q : Bool → Hp → Prop) (b : Bool) (s' : Shared) : Prop := ∃ H', Inv X pins σ H' s' ∧ Q b H'
def AP (X : Cx) (pins : List (Addr × Obj)) (σ : St) (Q : List V → Hp → Prop) (us : List Value) (s' : Shared) : Prop := ∃ vs H', Inv X pins σ H' s' ∧ Vals vs us ∧ Q vs H'
def SP (X : Cx) (pins : List (Addr × Obj)) (D : Ends) (f : Flow) (s' : Shared) : Prop :=
  match f with
  | .next => ∃ σ' H', Inv X pins σ' H' s' ∧ D.nx σ' H'
  | .brk => ∃ σ' H', Inv X pins σ' H' s' ∧ D.bk σ' H'
  | .cont => ∃ σ' H', Inv X pins σ' H' s' ∧ D.ct σ' H'
  | .ret u => ∃ v σ' H', Inv X pins σ' H' s' ∧ RelV v u ∧ D.rt v H'
def PE (X : Cx) (e : Expr) (t : TE) : Prop :=
  ∀ (pins : List (Addr × Obj)) (s : Shared) (σ : St) (H : Hp) (Q : VK), Inv X pins σ H s → t σ H Q → wpAny (model X.prog X.w) X.A (eval e X.env) (EP X pins σ Q) X.xe s
def PT (X : Cx) (e : Expr) (t : TT) : Prop :=
  ∀ (pins : List (Addr × Obj)) (s : Shared) (σ : St) (H : Hp) (Q : Bool → Hp → Prop), Inv X pins σ H s → t σ H Q → wpAny (model X.prog X.w) X.A (isTrue e X.env (eval e X.env)) (TP X pins σ Q) X.xe s
def PW (X : Cx) (e : Expr) (t : TT) : Prop :=
  ∀ (whole : Sem Value) (pins : List (Addr × Obj)) (s : Shared) (σ : St) (H : Hp) (Q : Bool → Hp → Prop), Inv X pins σ H s → t σ H Q → wpAny (model X.prog X.w) X.A (isTrue e X.env whole) (TP X pins σ Q) X.xe s
theorem PW.pt {X : Cx} {e : Expr} {t : TT} (h : PW X e t) : PT X e t := h _
def PA (X : Cx) (es : List Expr) (t : TA) : Prop :=
  ∀ (pos : Pos) (pins : List (Addr × Obj)) (s : Shared) (σ : St) (H : Hp) (Q : List V → Hp → Prop), Inv X pins σ H s → t σ H Q → wpAny (model X.prog X.w) X.A (spliced (backTo pos (starEach es X.env))) (AP X pins σ Q) X.xe s
def PS (X : Cx) (st : Stmt) (t : TS) : Prop :=
  ∀ (pins : List (Addr × Obj)) (s : Shared) (σ : St) (H : Hp) (D : Ends), Inv X pins σ H s → t D σ H → wpAny (model X.prog X.w) X.A (exec st X.env) (SP X pins D) X.xe s
def PSs (X : Cx) (st : List Stmt) (t : TS) : Prop :=
  ∀ (pins : List (Addr × Obj)) (s : Shared) (σ : St) (H : Hp) (D : Ends), Inv X pins σ H s → t D σ H → wpAny (model X.prog X.w) X.A (execs st X.env) (SP X pins D) X.xe s
theorem thn {α : Type} {t : Sem α} {Q Q' : α → Shared → Prop} {M : Model} {A : Around} {E : Value → Shared → Prop} {s : Shared} (h : wpAny M A t Q E s) (hQ : ∀ a s, Q a s → Q' a s) : wpAny M A t Q' E s := wpAny_mono h hQ fun _ _ x => x
end L2
namespace L2
open PySem PySem.Spec PyProof.Rows
section
variable {X : Cx}
def tVar (i : Nat) : TE := fun σ H Q => ∃ v, σ[i]? = some (some v) ∧ Q v H
def tC (v : V) : TE := fun _ H Q => Q v H
theorem pe_var {i : Nat} {x : Str} {pos : Pos} (hN : X.N[i]? = some x) (hv : Vis X.env.scope x) (hd : (x == ("__debug__" : Str)) = false := by decide) (hcd : (x == ("__classdict__" : Str)) = false := by decide) : PE X (.Name x pos) (tVar i) := by
  intro pins s σ H Q I h
  obtain ⟨v, e, h⟩ := h
  obtain ⟨m, hn, hl⟩ := I.loc
  obtain ⟨u, r, l⟩ := hl i x v hN e hv
  have fin : EP X pins σ Q u s := ⟨v, H, I, r, h⟩
  rcases l with ⟨hk, hm⟩ | ⟨hk, c, hc, hcell⟩
  · exact wpAny_Name (wpAny_loadName_local I.ok.kind hk hn hm fin) hd
  · rcases hk with hk | hk
    · exact wpAny_Name (wpAny_loadName_cell I.ok.kind hk hc hcell fin) hd
    · exact wpAny_Name (wpAny_loadName_free I.ok.kind hk hc hcell fin hcd) hd
theorem pe_int {i j pos} : PE X (.Constant (.int i) j pos) (tC (.int i)) := fun _ _ _ H _ I h => wpAny_Constant_int ⟨.int i, H, I.tok _, ⟨_, rfl⟩, h⟩
theorem pe_bl {b j pos} : PE X (.Constant (.bool b) j pos) (tC (.bl b)) := fun _ _ _ H _ I h => Constant_bool ⟨.bl b, H, I, rfl, h⟩
theorem pe_str {x j pos} : PE X (.Constant (.str x) j pos) (tC (.str x)) := fun _ _ _ H _ I h => Calls.Constant_str ⟨.str x, H, I.tok _, ⟨_, rfl⟩, h⟩
def Gl (X : Cx) (x : Str) : Prop := X.env.kindOf x = some .globalImplicit
theorem ld_glob {E : Value → Shared → Prop} {pins : List (Addr × Obj)} {s : Shared} {σ : St} {H : Hp} {x : Str} {u : Value} {pos : Pos} {Q : Value → Shared → Prop} (I : Inv X pins σ H s) (hg : Gl X x) (hm : X.mg x = some u) (h : Q u s)
    (hd : (x == ("__debug__" : Str)) = false := by decide) : wpAny (model X.prog X.w) X.A (eval (.Name x pos) X.env) Q E s :=
  Calls.Name_function_global I.ok.kind hg (Calls.loadGlobal_global (by rw [I.ok.glob]; exact I.mod.glob.keeps I.bk) hm h) hd
theorem ld_blt {E : Value → Shared → Prop} {pins : List (Addr × Obj)} {s : Shared} {σ : St} {H : Hp} {x : Str} {u : Value} {pos : Pos} {Q : Value → Shared → Prop} (I : Inv X pins σ H s) (hg : Gl X x) (hm : X.mg x = none) (hv : bootBuiltins x = some u) (h : Q u s)
    (hn : x ≠ "__name__" := by decide) (hd : (x == ("__debug__" : Str)) = false := by decide) : wpAny (model X.prog X.w) X.A (eval (.Name x pos) X.env) Q E s := by
  obtain ⟨mb, h1, h2⟩ := I.mod.blt
  exact Calls.Name_function_global I.ok.kind hg (Calls.loadGlobal_builtin (by rw [I.ok.glob]; exact I.mod.glob.keeps I.bk) hm (by rw [I.ok.blt]; exact h1.keeps I.bk) ((h2 x hn).trans hv) h) hd
theorem pe_glob {x : Str} {v : V} {u : Value} {pos : Pos} (hg : Gl X x) (hm : X.mg x = some u) (r : RelV v u) (hd : (x == ("__debug__" : Str)) = false := by decide) : PE X (.Name x pos) (tC v) :=
  fun _ _ _ H _ I h => ld_glob I hg hm ⟨v, H, I, r, h⟩ hd
theorem pe_bltn {x : Str} {v : V} {u : Value} {pos : Pos} (hg : Gl X x) (hm : X.mg x = none) (hv : bootBuiltins x = some u) (r : RelV v u) (hn : x ≠ "__name__" := by decide) (hd : (x == ("__debug__" : Str)) = false := by decide) : PE X (.Name x pos) (tC v) :=
  fun _ _ _ H _ I h => ld_blt I hg hm hv ⟨v, H, I, r, h⟩ hn hd
variable {a b : Expr} {ta tb : TE} {pos : Pos}
def tB (t : TE) : TT := fun σ H Q => t σ H fun x H1 => ∃ c, x = .bl c ∧ Q c H1
theorem pt_val {e : Expr} {t : TE} (h : PE X e t) (he : ∀ whole, isTrue e X.env whole = (do let v ← whole; standAt e.pos; holding [v] (truthy v)) := by intro _; rfl) : PT X e (tB t) := by
  intro pins s σ H Q I hw
  refine isTrue_plain (thn (h pins s σ H _ I hw) fun v s1 ⟨x, H1, I1, r1, q1⟩ => ?_) (he _)
  obtain ⟨d, rfl, q⟩ := q1
  cases r1
  exact wpAny_truthy_bool ⟨H1, I1, q⟩
variable {tA tB' : TT} {rest : List Expr}
def tOr (t u : TT) : TT := fun σ H Q => t σ H fun c H1 => if c = true then Q true H1 else u σ H1 Q
def tNot (t : TT) : TT := fun σ H Q => t σ H fun c H1 => Q (!c) H1
theorem pw_or1 (ha : PT X a tA) : PW X (.BoolOp .Or [a] pos) tA := by
  intro wh pins s σ H Q I h
  refine isTrue_or (thn (ha pins s σ H Q I h) fun c s1 e => ?_)
  cases c with
  | false => exact isTrue_or_nil e
  | true => exact e
theorem pw_or (ha : PT X a tA) (hb : PW X (.BoolOp .Or (b :: rest) pos) tB') : PW X (.BoolOp .Or (a :: b :: rest) pos) (tOr tA tB') := by
  intro wh pins s σ H Q I h
  refine isTrue_or (thn (ha pins s σ H _ I h) fun c s1 ⟨H1, I1, q1⟩ => ?_)
  cases c with
  | true => exact ⟨H1, I1, q1⟩
  | false => exact hb wh pins s1 σ H1 Q I1 q1
theorem pt_not (ha : PT X a tA) : PT X (.UnaryOp .Not a pos) (tNot tA) := by
  intro pins s σ H Q I h
  exact isTrue_not (ha pins s σ H (fun c H1 => Q (!c) H1) I h)
def tAndV (ta tb : TE) : TE := fun σ H Q => ta σ H fun x H1 => ∃ c, x = .bl c ∧ if c = true then tb σ H1 Q else Q (.bl false) H1
def tNotV (ta : TE) : TE := fun σ H Q => ta σ H fun x H1 => ∃ c, x = .bl c ∧ Q (.bl (!c)) H1
theorem pe_one {op} {t : TE} (h : PE X a t) : PE X (.BoolOp op [a] pos) t := fun pins s σ H Q I hw => BoolOp_one (h pins s σ H Q I hw)
theorem pe_and (ha : PE X a ta) (hb : PE X (.BoolOp .And (b :: rest) pos) tb) : PE X (.BoolOp .And (a :: b :: rest) pos) (tAndV ta tb) := by
  intro pins s σ H Q I h
  refine BoolOp_and (thn (ha pins s σ H _ I h) fun v s1 ⟨x, H1, I1, r1, q1⟩ => ?_)
  obtain ⟨c, rfl, q1⟩ := q1
  cases r1
  refine wpAny_truthy_bool ?_
  cases c with
  | true => exact hb pins s1 σ H1 Q I1 q1
  | false => exact ⟨.bl false, H1, I1, rfl, q1⟩
theorem pe_not (ha : PE X a ta) : PE X (.UnaryOp .Not a pos) (tNotV ta) := by
  intro pins s σ H Q I h
  refine UnaryOp_ (thn (ha pins s σ H _ I h) fun v s1 ⟨x, H1, I1, r1, q1⟩ => ?_)
  obtain ⟨c, rfl, q1⟩ := q1
  cases r1
  exact not_of (wpAny_truthy_bool ⟨.bl (!c), H1, I1, rfl, q1⟩)
end
end L2
namespace L2
open PySem PySem.Spec PyProof.Rows
def SqL (K : PySem.W.Frag) (H : Hp) (a : Addr) (xs : List V) : Prop :=
  Rd H a (.lst xs) ∨
    ∃ (o : Obj) (its : Array Value) (n : Nat), K.lookup a = some o ∧ o.cls = .type "list" ∧ o.dict = none ∧ o.data = .seq its n ∧ its.size ≤ sizeLine ∧ Vals xs its.toList
def SqT (K : PySem.W.Frag) (H : Hp) (a : Addr) (xs : List V) : Prop :=
  Rd H a (.tup xs) ∨
    ∃ (o : Obj) (its : Array Value) (n : Nat), K.lookup a = some o ∧ o.cls = .type "tuple" ∧ o.data = .seq its n ∧ its.size ≤ sizeLine ∧ Vals xs its.toList
def absV : Value → Option V
  | .none => some .non
  | .bool b => some (.bl b)
  | .int i _ => some (.int i)
  | .str x _ => some (.str x)
  | .bytes b _ => some (.byt b)
  | .float b _ => some (.flt b)
  | .ref a => some (.ref a)
  | .type n => some (.ty n)
  | _ => none
theorem RelV.abs {x : V} {u : Value} (r : RelV x u) : absV u = some x := by
  cases x with
  | non => cases r; rfl
  | bl _ => cases r; rfl
  | int _ => obtain ⟨t, rfl⟩ := r; rfl
  | str _ => obtain ⟨t, rfl⟩ := r; rfl
  | byt _ => obtain ⟨t, rfl⟩ := r; rfl
  | flt _ => obtain ⟨t, rfl⟩ := r; rfl
  | ref _ => cases r; rfl
  | ty _ => cases r; rfl
theorem RelV.inj {x y : V} {u : Value} (r : RelV x u) (q : RelV y u) : x = y := Option.some.inj (r.abs.symm.trans q.abs)
theorem Vals.inj : ∀ {xs ys : List V} {us : List Value}, Vals xs us → Vals ys us → xs = ys
  | _, _, _, .nil, .nil => rfl
  | _, _, _, .cons r t, .cons r' t' => by rw [r.inj r', Vals.inj t t']
section
variable {X : Cx} {pins : List (Addr × Obj)} {σ : St} {H : Hp} {s : Shared} {a : Addr} {xs ys : List V}
theorem Inv.list (I : Inv X pins σ H s) (h : SqL X.K H a xs) : ∃ its : List Value, Vals xs its ∧ PlainL s.heap a its.toArray ∧ xs.length ≤ sizeLine := by
  rcases h with h | ⟨o, its, n, hk, hc, hd, hs, hz, r⟩
  · obtain ⟨z, its, n, r, e⟩ := h.ok I.hok
    exact ⟨its, r, ⟨_, n, e, rfl, rfl, rfl⟩, z⟩
  · refine ⟨its.toList, r, ⟨o, n, I.kIn a o hk, hc, hd, by simpa using hs⟩, ?_⟩
    have e := r.length
    simp only [Array.length_toList] at e
    omega
theorem Inv.tuple (I : Inv X pins σ H s) (h : SqT X.K H a xs) : ∃ its : List Value, Vals xs its ∧ IsTup s.heap a its.toArray ∧ xs.length ≤ sizeLine := by
  rcases h with h | ⟨o, its, n, hk, hc, hs, hz, r⟩
  · obtain ⟨z, its, r, p⟩ := h.ok I.hok
    exact ⟨its, r, p, z⟩
  · refine ⟨its.toList, r, ⟨o, I.kIn a o hk, hc, n, by simpa using hs⟩, ?_⟩
    have e := r.length
    simp only [Array.length_toList] at e
    omega
theorem Inv.list_inj (I : Inv X pins σ H s) (h : SqL X.K H a xs) (h' : SqL X.K H a ys) : xs = ys := by
  obtain ⟨its, r, ⟨o, n, e, _, _, d⟩, _⟩ := I.list h
  obtain ⟨its', r', ⟨o', n', e', _, _, d'⟩, _⟩ := I.list h'
  rw [e] at e'; cases e'
  rw [d] at d'
  injection d' with d1 _
  have : its = its' := by simpa using congrArg Array.toList d1
  subst this
  exact r.inj r'
theorem Inv.tuple_inj (I : Inv X pins σ H s) (h : SqT X.K H a xs) (h' : SqT X.K H a ys) : xs = ys := by
  obtain ⟨its, r, ⟨o, e, _, n, d⟩, _⟩ := I.tuple h
  obtain ⟨its', r', ⟨o', e', _, n', d'⟩, _⟩ := I.tuple h'
  rw [e] at e'; cases e'
  rw [d] at d'
  injection d' with d1 _
  have : its = its' := by simpa using congrArg Array.toList d1
  subst this
  exact r.inj r'
end
abbrev Cx.wish (X : Cx) (E : Value → Shared → Prop) : Cx := { X with xe := E }
abbrev Cx.nox (X : Cx) : Cx := X.wish fun _ _ => False
theorem Cx.Ok.wish {X : Cx} (ok : X.Ok) (E : Value → Shared → Prop) : (X.wish E).Ok :=
  ⟨ok.mod, ok.kind, ok.glob, ok.blt, ok.above, ok.inj, ok.has, ok.cab, ok.hd, ok.frames, ok.stk, ok.exf, ok.bs, ok.bsz, ok.noex, ok.exfs, ok.funs, ok.frf⟩
theorem Cx.Ok.unwish {X : Cx} {E : Value → Shared → Prop} (ok : (X.wish E).Ok) : X.Ok :=
  ⟨ok.mod, ok.kind, ok.glob, ok.blt, ok.above, ok.inj, ok.has, ok.cab, ok.hd, ok.frames, ok.stk, ok.exf, ok.bs, ok.bsz, ok.noex, ok.exfs, ok.funs, ok.frf⟩
section
variable {X : Cx} {pins : List (Addr × Obj)} {σ : St} {H : Hp} {s : Shared} {E : Value → Shared → Prop}
theorem Inv.wish (I : Inv X pins σ H s) (E : Value → Shared → Prop) : Inv (X.wish E) pins σ H s := ⟨I.ok.wish E, I.os, I.bare, I.base, I.loc, I.cell, I.free, I.freeC, I.pin, I.hok, I.len⟩
theorem Inv.unwish (I : Inv (X.wish E) pins σ H s) : Inv X pins σ H s := ⟨I.ok.unwish, I.os, I.bare, I.base, I.loc, I.cell, I.free, I.freeC, I.pin, I.hok, I.len⟩
theorem SP.unwish {D : Ends} {f : Flow} {s' : Shared} (h : SP (X.wish E) pins D f s') : SP X pins D f s' := by
  cases f with
  | next => obtain ⟨σ', H', I, q⟩ := h; exact ⟨σ', H', I.unwish, q⟩
  | brk => obtain ⟨σ', H', I, q⟩ := h; exact ⟨σ', H', I.unwish, q⟩
  | cont => obtain ⟨σ', H', I, q⟩ := h; exact ⟨σ', H', I.unwish, q⟩
  | ret u => obtain ⟨v, σ', H', I, r, q⟩ := h; exact ⟨v, σ', H', I.unwish, r, q⟩
theorem PSs.nox {st : List Stmt} {t : TS} (h : PSs X.nox st t) : PSs X st t := fun pins s σ H D I hw =>
  wpAny_mono (h pins s σ H D (I.wish _) hw) (fun _ _ q => q.unwish) fun _ _ z => False.elim z
end
section
variable {X : Cx} {st : Stmt} {rest : List Stmt} {t u : TS} {e : Expr} {te : TE} {pos : Pos}
def tNext : TS := fun D σ H => D.nx σ H
def tSeq (t u : TS) : TS := fun D σ H => t { D with nx := u D } σ H
theorem pss_nil : PSs X [] tNext := fun _ _ σ H _ I h => wpAny_execs_nil ⟨σ, H, I, h⟩
theorem pss_cons (h1 : PS X st t) (h2 : PSs X rest u) : PSs X (st :: rest) (tSeq t u) := by
  intro pins s σ H D I h
  refine wpAny_execs_cons (thn (h1 pins s σ H { D with nx := u D } I h) fun f s1 q => ?_)
  cases f with
  | next =>
    obtain ⟨σ', H', I', q⟩ := q
    exact h2 pins s1 σ' H' D I' q
  | ret v => exact q
  | brk => exact q
  | cont => exact q
theorem Inv.quiet {pins : List (Addr × Obj)} {σ : St} {H : Hp} {s : Shared} (I : Inv X pins σ H s) : interactive X.env = false := by simp [interactive, I.ok.kind]
def tRet (te : TE) : TS := fun D σ H => te σ H D.rt
theorem ps_ret (he : PE X e te) : PS X (.Return (some e) pos) (tRet te) := by
  intro pins s σ H D I h
  exact wpAny_Return_some (thn (he pins s σ H _ I h) fun v s1 ⟨x, H1, I1, r1, q1⟩ => ⟨x, σ, H1, I1, r1, q1⟩)
def tIfS (c : TT) (t u : TS) : TS := fun D σ H => c σ H fun b H1 => if b = true then t D σ H1 else u D σ H1
theorem ps_if {c : Expr} {a b : List Stmt} {tc : TT} (hc : PT X c tc) (ha : PSs X a t) (hb : PSs X b u) : PS X (.If c a b pos) (tIfS tc t u) := by
  intro pins s σ H D I h
  refine wpAny_If (thn (hc pins s σ H _ I h) fun d s1 ⟨H1, I1, q1⟩ => ?_)
  cases d with
  | true => exact ha pins s1 σ H1 D I1 q1
  | false => exact hb pins s1 σ H1 D I1 q1
def tNever : TS := fun _ _ _ => False
theorem pss_never {sts : List Stmt} : PSs X sts tNever := fun _ _ _ _ _ _ h => h.elim
end
abbrev TG := V → St → Hp → (St → Hp → Prop) → Prop
section
variable {X : Cx} {pos : Pos}
def gName (i : Nat) : TG := fun v σ H Q => Q (σ.set i (some v)) H
def tAsg (te : TE) (g : TG) : TS := fun D σ H => te σ H fun x H1 => g x σ H1 D.nx
theorem ps_set {i : Nat} {x : Str} {e : Expr} {te : TE} {pos' : Pos} (hN : X.N.Nodup) (hi : X.N[i]? = some x) (hx : Loc X.env.scope x) (he : PE X e te) (hs : swapsWith e (some (.Name x pos')) pos.line X.env = pure false := by rfl) (hf : X.fn x = true ∨ X.env.scope.names.lookup x = some .local := by first | exact .inl rfl | exact .inr rfl | assumption) :
    PS X (.Assign [.Name x pos'] e pos) (tAsg te (gName i)) := by
  intro pins s σ H D I h
  refine wpAny_Assign_Name (thn (he pins s σ H _ I h) fun v s1 ⟨y, H1, I1, r1, q1⟩ => ?_) hs
  exact store_ok I1 hN hi hx r1 (fun s2 I2 => ⟨_, H1, I2, q1⟩) hf
end
section
variable {X : Cx} {pos : Pos}
def tWhile (c : TT) (tb : TS) : TS := fun D σ H => ∃ W : Nat → St → Hp → Prop, (∃ m, W m σ H) ∧ ∀ m σ H, W m σ H →
  c σ H fun b H1 => if b = true then ∃ N : St → Hp → Prop, (∀ σ' H', N σ' H' → ∃ m', m' < m ∧ W m' σ' H') ∧ tb { D with nx := N, ct := N, bk := D.nx } σ H1 else D.nx σ H1
theorem ps_while {c : Expr} {body : List Stmt} {tc : TT} {tb : TS} (hp : PassesOwn (model X.prog X.w) X.A X.env X.xe) (hc : PT X c tc) (hb : PSs X body tb) : PS X (.While c body [] pos) (tWhile tc tb) := by
  intro pins s σ H D I h
  obtain ⟨W, ⟨m0, w0⟩, turn⟩ := h
  refine wpAny_While (codeAny_whileLoop (fun n s' => ∃ σ' H', Inv X pins σ' H' s' ∧ W n σ' H') ?_ m0 ⟨σ, H, I, w0⟩)
  rintro n s1 ⟨σ1, H1, I1, w1⟩
  refine wpAny_passesOwn hp (thn (hc pins s1 σ1 H1 _ I1 (turn n σ1 H1 w1)) fun b s2 ⟨H2, I2, q2⟩ => ?_)
  cases b with
  | true =>
    obtain ⟨N, hN, q2⟩ := q2
    rw [if_pos rfl]
    refine wpAny_passesOwn hp (thn (hb pins s2 σ1 H2 _ I2 q2) fun f s3 q3 => ?_)
    cases f with
    | next =>
      obtain ⟨σ3, H3, I3, n3⟩ := q3
      obtain ⟨m', hm, w3⟩ := hN σ3 H3 n3
      exact ⟨m', hm, σ3, H3, I3, w3⟩
    | cont =>
      obtain ⟨σ3, H3, I3, n3⟩ := q3
      obtain ⟨m', hm, w3⟩ := hN σ3 H3 n3
      exact ⟨m', hm, σ3, H3, I3, w3⟩
    | brk => exact q3
    | ret v => exact q3
  | false =>
    rw [if_neg Bool.false_ne_true]
    exact wpAny_execs_nil ⟨σ1, H2, I2, q2⟩
end
end L2
namespace L2
open PySem PySem.Spec PyProof.Rows
section
variable {X : Cx} {tg : Expr}
end
end L2
namespace L2
open PySem PySem.Spec PyProof.Rows
abbrev R2 := V → V → Hp → VK → Prop
def OpR (X : Cx) (f : Value → Value → Sem Value) (r : R2) : Prop :=
  ∀ (pins : List (Addr × Obj)) (s : Shared) (σ : St) (H : Hp) (x y : V) (v u : Value) (Q : VK), Inv X pins σ H s → RelV x v → RelV y u → r x y H Q →
    wpAny (model X.prog X.w) X.A (f v u) (EP X pins σ Q) X.xe s
def CallR (X : Cx) (f : Value) (r : List V → Hp → VK → Prop) : Prop :=
  ∀ (pins : List (Addr × Obj)) (s : Shared) (σ : St) (H : Hp) (xs : List V) (us : List Value) (Q : VK), Inv X pins σ H s → Vals xs us → r xs H Q →
    wpAny (model X.prog X.w) X.A (call f us) (EP X pins σ Q) X.xe s
def tOp (r : R2) (ta tb : TE) : TE := fun σ H Q => ta σ H fun x H1 => tb σ H1 fun y H2 => r x y H2 Q
def rI (C : Int → Int → Prop) (g : Int → Int → V) : R2 := fun x y H Q => ∃ i j, x = .int i ∧ y = .int j ∧ C i j ∧ Q (g i j) H
def rI0 (g : Int → Int → V) : R2 := fun x y H Q => ∃ i j, x = .int i ∧ y = .int j ∧ Q (g i j) H
section
variable {X : Cx} {a b c : Expr} {ta tb tc : TE} {pos : Pos}
theorem binT (ha : PE X a ta) (hb : PE X b tb) {pins : List (Addr × Obj)} {s : Shared} {σ : St} {H : Hp} {R : V → V → Hp → Prop} (I : Inv X pins σ H s)
    (h : ta σ H fun x H1 => tb σ H1 fun y H2 => R x y H2) {Q : Value → Shared → Prop} {f : Value → Value → Sem Value}
    (hf : ∀ v u s2 x y H2, Inv X pins σ H2 s2 → RelV x v → RelV y u → R x y H2 → wpAny (model X.prog X.w) X.A (f v u) Q X.xe s2) :
    wpAny (model X.prog X.w) X.A (eval a X.env) (fun v s₁ => wpAny (model X.prog X.w) X.A (eval b X.env) (fun u s₂ => wpAny (model X.prog X.w) X.A (f v u) Q X.xe s₂) X.xe s₁) X.xe s := by
  refine thn (ha pins s σ H _ I h) fun v s1 ⟨x, H1, I1, r1, q1⟩ => ?_
  refine thn (hb pins s1 σ H1 _ I1 q1) fun u s2 ⟨y, H2, I2, r2, q2⟩ => ?_
  exact hf v u s2 x y H2 I2 r1 r2 q2
theorem pe_op {op : Operator} {r : R2} (ho : OpR X (binaryOp op) r) (ha : PE X a ta) (hb : PE X b tb) : PE X (.BinOp a op b pos) (tOp r ta tb) := by
  intro pins s σ H Q I h
  exact wpAny_BinOp (binT ha hb I h fun v u s2 x y H2 I2 rx ry q => ho pins s2 σ H2 x y v u Q I2 rx ry q)
theorem opI {f : Value → Value → Sem Value} {C : Int → Int → Prop} {g : Int → Int → Int}
    (rule : ∀ (i j : Int) (t u : Tok) (s : Shared) (Q : Value → Shared → Prop) (E : Value → Shared → Prop), C i j → Q (.int (g i j) s.toks) { s with toks := s.toks + 1 } → wpAny (model X.prog X.w) X.A (f (.int i t) (.int j u)) Q E s) :
    OpR X f (rI C fun i j => .int (g i j)) := by
  intro pins s σ H x y v u Q I rx ry h
  obtain ⟨i, j, rfl, rfl, hc, q⟩ := h
  obtain ⟨t, rfl⟩ := rx
  obtain ⟨t', rfl⟩ := ry
  exact rule i j t t' s _ _ hc ⟨.int (g i j), H, I.tok _, ⟨_, rfl⟩, q⟩
theorem opI0 {f : Value → Value → Sem Value} {g : Int → Int → Int}
    (rule : ∀ (i j : Int) (t u : Tok) (s : Shared) (Q : Value → Shared → Prop) (E : Value → Shared → Prop), Q (.int (g i j) s.toks) { s with toks := s.toks + 1 } → wpAny (model X.prog X.w) X.A (f (.int i t) (.int j u)) Q E s) :
    OpR X f (rI0 fun i j => .int (g i j)) := by
  intro pins s σ H x y v u Q I rx ry h
  obtain ⟨i, j, rfl, rfl, q⟩ := h
  obtain ⟨t, rfl⟩ := rx
  obtain ⟨t', rfl⟩ := ry
  exact rule i j t t' s _ _ ⟨.int (g i j), H, I.tok _, ⟨_, rfl⟩, q⟩
theorem opB0 {f : Value → Value → Sem Value} {g : Int → Int → Bool}
    (rule : ∀ (i j : Int) (t u : Tok) (s : Shared) (Q : Value → Shared → Prop) (E : Value → Shared → Prop), Q (.bool (g i j)) s → wpAny (model X.prog X.w) X.A (f (.int i t) (.int j u)) Q E s) :
    OpR X f (rI0 fun i j => .bl (g i j)) := by
  intro pins s σ H x y v u Q I rx ry h
  obtain ⟨i, j, rfl, rfl, q⟩ := h
  obtain ⟨t, rfl⟩ := rx
  obtain ⟨t', rfl⟩ := ry
  exact rule i j t t' s _ _ ⟨.bl (g i j), H, I, rfl, q⟩
def CPow (i j : Int) : Prop := 0 ≤ j ∧ j ≤ 1000000 ∧ i.natAbs < 2 ^ 64
theorem op_add : OpR X (binaryOp .Add) (rI0 fun i j => .int (i + j)) := opI0 fun _ _ _ _ _ _ _ q => add_int q
theorem op_sub : OpR X (binaryOp .Sub) (rI0 fun i j => .int (i - j)) := opI0 fun _ _ _ _ _ _ _ q => sub_int q
theorem op_mod : OpR X (binaryOp .Mod) (rI (fun _ j => 0 < j) fun i j => .int (i % j)) := opI fun i j _ _ _ _ _ hc q => by
  have h1 : (0 : Int) < j := hc
  exact mod_int' (by omega) (by rw [Int.fmod_eq_emod_of_nonneg i (by omega)]; exact q)
theorem op_pow : OpR X (binaryOp .Pow) (rI CPow fun i j => .int (i ^ j.toNat)) := opI fun _ _ _ _ _ _ _ hc q => pow_int_small hc.1 hc.2.1 hc.2.2 q
end
def scal : V → V → Bool
  | .non, .non => true | .non, .int _ => true | .int _, .non => true | .non, .bl _ => true | .bl _, .non => true | .non, .str _ => true | .str _, .non => true
  | .int _, .int _ => true | .bl _, .bl _ => true | .str _, .str _ => true | .byt _, .byt _ => true
  | .int _, .str _ => true | .str _, .int _ => true | .bl _, .str _ => true | .str _, .bl _ => true
  | _, _ => false
def rEq : R2 := fun x y H Q => scal x y = true ∧ Q (.bl (decide (x = y))) H
def rNe : R2 := fun x y H Q => scal x y = true ∧ Q (.bl (!decide (x = y))) H
theorem dec_int {i j : Int} : decide (V.int i = V.int j) = (i == j) := by
  rw [Bool.eq_iff_iff]
  simp
theorem dec_bl {i j : Bool} : decide (V.bl i = V.bl j) = (i == j) := by
  rw [Bool.eq_iff_iff]
  simp
theorem dec_str {i j : Str} : decide (V.str i = V.str j) = (i == j) := by
  rw [Bool.eq_iff_iff]
  simp
theorem dec_byt {i j : Array UInt8} : decide (V.byt i = V.byt j) = (i.toList == j.toList) := by
  rw [Bool.eq_iff_iff]
  cases i
  cases j
  simp
section
variable {X : Cx} {a b c : Expr} {ta tb tc : TE} {pos : Pos}
theorem fin_bl {pins : List (Addr × Obj)} {σ : St} {H : Hp} {s : Shared} {Q : VK} {k k' : Bool} (I : Inv X pins σ H s) (q : Q (.bl k) H) (e : k = k') : EP X pins σ Q (.bool k') s := by
  subst e
  exact ⟨.bl k, H, I, rfl, q⟩
theorem op_eq : OpR X (compareOp .Eq) rEq := by
  intro pins s σ H x y v u Q I rx ry h
  obtain ⟨hs, q⟩ := h
  cases x with
  | non =>
    cases rx
    cases y with
    | non => cases ry; exact PySem.EqNone.eq_none_none (fin_bl I q (by simp))
    | bl j => cases ry; exact PySem.EqNone.eq_none_bool (fin_bl I q (by simp))
    | int j => obtain ⟨t', rfl⟩ := ry; exact PySem.EqNone.eq_none_int (fin_bl I q (by simp))
    | str j => obtain ⟨t', rfl⟩ := ry; exact PySem.EqNone.eq_none_str (fin_bl I q (by simp))
    | _ => exact absurd (show false = true from hs) Bool.false_ne_true
  | bl i =>
    cases rx
    cases y with
    | non => cases ry; exact PySem.EqNone.eq_bool_none (fin_bl I q (by simp))
    | bl j => cases ry; exact eq_bool (fin_bl I q dec_bl)
    | str j => obtain ⟨t', rfl⟩ := ry; exact PySem.EqMixed.eq_bool_str (fin_bl I q (by simp))
    | _ => exact absurd (show false = true from hs) Bool.false_ne_true
  | int i =>
    obtain ⟨t, rfl⟩ := rx
    cases y with
    | non => cases ry; exact PySem.EqNone.eq_int_none (fin_bl I q (by simp))
    | int j => obtain ⟨t', rfl⟩ := ry; exact eq_int (fin_bl I q dec_int)
    | str j => obtain ⟨t', rfl⟩ := ry; exact PySem.EqMixed.eq_int_str (fin_bl I q (by simp))
    | _ => exact absurd (show false = true from hs) Bool.false_ne_true
  | str i =>
    obtain ⟨t, rfl⟩ := rx
    cases y with
    | non => cases ry; exact PySem.EqNone.eq_str_none (fin_bl I q (by simp))
    | bl j => cases ry; exact PySem.EqMixed.eq_str_bool (fin_bl I q (by simp))
    | int j => obtain ⟨t', rfl⟩ := ry; exact PySem.EqMixed.eq_str_int (fin_bl I q (by simp))
    | str j => obtain ⟨t', rfl⟩ := ry; exact eq_str (fin_bl I q dec_str)
    | _ => exact absurd (show false = true from hs) Bool.false_ne_true
  | byt i =>
    obtain ⟨t, rfl⟩ := rx
    cases y with
    | byt j => obtain ⟨t', rfl⟩ := ry; exact PySem.W.eq_bytes (fin_bl I q dec_byt)
    | _ => exact absurd (show false = true from hs) Bool.false_ne_true
  | _ => cases y <;> exact absurd (show false = true from hs) Bool.false_ne_true
theorem op_ne : OpR X (compareOp .NotEq) rNe := by
  intro pins s σ H x y v u Q I rx ry h
  obtain ⟨hs, q⟩ := h
  cases x with
  | non =>
    cases rx
    cases y with
    | non => cases ry; exact PySem.EqNone.ne_none_none (fin_bl I q (by simp))
    | bl j => cases ry; exact PySem.EqNone.ne_none_bool (fin_bl I q (by simp))
    | int j => obtain ⟨t', rfl⟩ := ry; exact PySem.EqNone.ne_none_int (fin_bl I q (by simp))
    | str j => obtain ⟨t', rfl⟩ := ry; exact PySem.EqNone.ne_none_str (fin_bl I q (by simp))
    | _ => exact absurd (show false = true from hs) Bool.false_ne_true
  | bl i =>
    cases rx
    cases y with
    | non => cases ry; exact PySem.EqNone.ne_bool_none (fin_bl I q (by simp))
    | bl j => cases ry; exact ne_bool (fin_bl I q (congrArg not dec_bl))
    | str j => obtain ⟨t', rfl⟩ := ry; exact PySem.EqMixed.ne_bool_str (fin_bl I q (by simp))
    | _ => exact absurd (show false = true from hs) Bool.false_ne_true
  | int i =>
    obtain ⟨t, rfl⟩ := rx
    cases y with
    | non => cases ry; exact PySem.EqNone.ne_int_none (fin_bl I q (by simp))
    | int j => obtain ⟨t', rfl⟩ := ry; exact ne_int (fin_bl I q (congrArg not dec_int))
    | str j => obtain ⟨t', rfl⟩ := ry; exact PySem.EqMixed.ne_int_str (fin_bl I q (by simp))
    | _ => exact absurd (show false = true from hs) Bool.false_ne_true
  | str i =>
    obtain ⟨t, rfl⟩ := rx
    cases y with
    | non => cases ry; exact PySem.EqNone.ne_str_none (fin_bl I q (by simp))
    | bl j => cases ry; exact PySem.EqMixed.ne_str_bool (fin_bl I q (by simp))
    | int j => obtain ⟨t', rfl⟩ := ry; exact PySem.EqMixed.ne_str_int (fin_bl I q (by simp))
    | str j => obtain ⟨t', rfl⟩ := ry; exact ne_str (fin_bl I q (congrArg not dec_str))
    | _ => exact absurd (show false = true from hs) Bool.false_ne_true
  | byt i =>
    obtain ⟨t, rfl⟩ := rx
    cases y with
    | byt j => obtain ⟨t', rfl⟩ := ry; exact PySem.W.ne_bytes (fin_bl I q (congrArg not dec_byt))
    | _ => exact absurd (show false = true from hs) Bool.false_ne_true
  | _ => cases y <;> exact absurd (show false = true from hs) Bool.false_ne_true
theorem op_lt : OpR X (compareOp .Lt) (rI0 fun i j => .bl (decide (i < j))) := opB0 fun _ _ _ _ _ _ _ q => lt_int q
theorem op_gt : OpR X (compareOp .Gt) (rI0 fun i j => .bl (decide (j < i))) := opB0 fun _ _ _ _ _ _ _ q => gt_int q
theorem op_ge : OpR X (compareOp .GtE) (rI0 fun i j => .bl (decide (j ≤ i))) := opB0 fun _ _ _ _ _ _ _ q => ge_int q
theorem nomark (b : Expr) {op : CmpOp} (h : op ≠ .In := by decide) (h2 : op ≠ .NotIn := by decide) : behindInMarks op b = false := by
  have e1 : (op == CmpOp.In) = false := by cases op <;> first | rfl | exact absurd rfl h
  have e2 : (op == CmpOp.NotIn) = false := by cases op <;> first | rfl | exact absurd rfl h2
  cases b <;> simp [behindInMarks, e1, e2]
theorem pe_cmpR {op : CmpOp} {r : R2} (ho : OpR X (compareOp op) r) (ha : PE X a ta) (hb : PE X b tb) (hm : behindInMarks op b = false) : PE X (.Compare a [op] [b] pos) (tOp r ta tb) := by
  intro pins s σ H Q I h
  exact wpAny_Compare1 (binT ha hb I h fun v u s2 x y H2 I2 rx ry q => ho pins s2 σ H2 x y v u Q I2 rx ry q) hm
def tTest (t : TE) : TT := fun σ H Q => t σ H fun x H' => ∃ k, x = .bl k ∧ Q k H'
theorem pt_cmpR {op : CmpOp} {r : R2} (ho : OpR X (compareOp op) r) (ha : PE X a ta) (hb : PE X b tb) (hm : behindInMarks op b = false) : PT X (.Compare a [op] [b] pos) (tTest (tOp r ta tb)) := by
  intro pins s σ H Q I h
  refine wpAny_isTrue_Compare1 (thn (ha pins s σ H _ I h) fun v s1 ⟨x, H1, I1, r1, q1⟩ => thn (hb pins s1 σ H1 _ I1 q1) fun u s2 ⟨y, H2, I2, r2, q2⟩ =>
    thn (ho pins s2 σ H2 x y v u _ I2 r1 r2 q2) fun c s3 ⟨z, H3, I3, r3, k, e, q3⟩ => ?_) hm
  subst e
  cases r3
  exact wpAny_truthy_bool ⟨H3, I3, q3⟩
theorem line63 : (sizeLine : Nat) < 2 ^ 63 := by rw [sizeLine_eq]; decide
theorem vals1 {x : V} {us : List Value} (r : Vals [x] us) : ∃ u, us = [u] ∧ RelV x u := by
  cases r with
  | cons r1 r2 => cases r2; exact ⟨_, rfl, r1⟩
theorem vals2 {x y : V} {us : List Value} (r : Vals [x, y] us) : ∃ u w', us = [u, w'] ∧ RelV x u ∧ RelV y w' := by
  cases r with
  | cons r1 r2 =>
    cases r2 with
    | cons r3 r4 => cases r4; exact ⟨_, _, rfl, r1, r3⟩
end
end L2
namespace L2
open PySem PySem.Spec PyProof.Rows
structure ObjM (h : Heap) (x dx C : Addr) (mA : Str → Option Value) : Prop where
  obj : h.get? x = some (PySem.W.instObj C dx)
  ns : h.Ns1 dx mA
  ne : dx ≠ x
theorem lookIn_ns {h : Heap} {dx : Addr} {mA : Str → Option Value} (n : h.Ns1 dx mA) : ∃ od, h.get? dx = some od ∧ ∀ name, PySem.W.lookIn name od = some (mA name) := by
  obtain ⟨o, es, ep, ho, hd, hk, _, hm⟩ := n
  refine ⟨o, ho, fun name => ?_⟩
  have e := hm name
  unfold nsFind findBy at e
  rw [← Array.find?_toList] at e
  unfold PySem.W.lookIn
  rw [hd]
  dsimp only
  split
  · rename_i y q
    rw [q] at e
    exact congrArg some e
  · rename_i q
    rw [q] at e
    have a : es.toList.any (·.refKey) = false := by
      rw [List.any_eq_false]
      intro y hy
      obtain ⟨z, t, hkey⟩ := hk y (Array.mem_toList_iff.mp hy)
      simp [DictEntry.refKey, hkey]
    have a' : ¬ es.toList.any (·.refKey) = true := by rw [a]; exact Bool.false_ne_true
    rw [if_neg a']
    exact congrArg some e
theorem ObjM.look {h : Heap} {x dx C : Addr} {mA : Str → Option Value} (I : ObjM h x dx C mA) : ∃ od, PySem.W.InstAt h x (PySem.W.instObj C dx) C (some od) ∧ ∀ name, PySem.W.lookIn name od = some (mA name) :=
  let ⟨od, ho, hl⟩ := lookIn_ns I.ns
  ⟨od, ⟨I.obj, rfl, rfl, ho⟩, hl⟩
section
variable {prog : Program} {w : World} {A : Around} {E : Value → Shared → Prop} {s : Shared} {K : PySem.W.Frag} {x dx C f : Addr} {mA : Str → Option Value} {name : Str} {v : Value}
end
section
variable {P : Program} {w : World} {H H' : Hp} {h h' : Heap} {a C dx : Addr} {fs fs' : List (Str × V)}
theorem ins_get (hok : HOk P w H h) (e : H a = some (.ins C dx fs)) : ∃ mA, ObjM h a dx C mA ∧ (∀ f, RelO (fs.lookup f) (mA f)) ∧ PySem.Within mA (fs.map (·.1)) ∧ fs.length ≤ 1000 ∧ H dx = some (.own a) := by
  obtain ⟨d, z, ne, ob, mA, n, r, q⟩ := (show ObjOk P w H h a (.ins C dx fs) from hok a _ e)
  exact ⟨mA, ⟨ob, n, ne⟩, r, q, z, d⟩
end
structure Cls (K : PySem.W.Frag) (C : Addr) : Prop where
  pg : PySem.W.plainGet K C Str.empty = true
  hd : PySem.W.hasDictIn K C = true
  po : PySem.W.plainOver K C = true
  sa : PySem.W.findIn K (.ref C) "__setattr__" = some (some (.builtin "object.__setattr__"))
theorem Cls.get {K : PySem.W.Frag} {C : Addr} (c : Cls K C) (f : Str) : PySem.W.plainGet K C f = true := c.pg
section
variable {X : Cx} {pins : List (Addr × Obj)} {σ : St} {H : Hp} {s : Shared} {a C dx : Addr} {fs : List (Str × V)} {f : Str} {v : V} {A : Around} {E : Value → Shared → Prop}
end
section
variable {X : Cx} {o e value : Expr} {f : Str} {pos pos' tpos : Pos} {ta tv : TE}
end
section
variable {X : Cx} {pins : List (Addr × Obj)} {σ : St} {H : Hp} {s : Shared} {A : Around} {E : Value → Shared → Prop} {Q : Value → Shared → Prop} {c : Value} {b : Bool}
inductive TyOf (K : PySem.W.Frag) (H : Hp) : V → Value → Prop where
  | non : TyOf K H .non (.type "NoneType")
  | bl (x : Bool) : TyOf K H (.bl x) (.type "bool")
  | int (i : Int) : TyOf K H (.int i) (.type "int")
  | str (x : Str) : TyOf K H (.str x) (.type "str")
  | flt (x : UInt64) : TyOf K H (.flt x) (.type "float")
  | lst {a : Addr} {xs : List V} (e : H a = some (.lst xs)) : TyOf K H (.ref a) (.type "list")
  | frz {a : Addr} {o : Obj} {xs : List V} (e : H a = some (.frz o (.lst xs))) : TyOf K H (.ref a) (.type "list")
  | tup {a : Addr} {xs : List V} (e : H a = some (.tup xs)) : TyOf K H (.ref a) (.type "tuple")
  | dK {a : Addr} {kvs : List (Key × V)} (e : H a = some (.dK kvs)) : TyOf K H (.ref a) (.type "dict")
  | dT {a : Addr} {kvs : List (List Key × V)} (e : H a = some (.dT kvs)) : TyOf K H (.ref a) (.type "dict")
  | ins {a C dx : Addr} {fs : List (Str × V)} (e : H a = some (.ins C dx fs)) (cl : Cls K C) (ha : PySem.W.findIn K (.ref C) "__class__" = some (some (.builtin "object.__class__")))
      (hn : PySem.W.specialIn K (.builtin "object.__class__") "__get__" = some (some (.builtin "getset_descriptor.__get__"))) (htk : PySem.W.takesIn K (.builtin "object.__class__") = some true)
      (hm : PySem.W.mroIn K C (.type "object") = some true) : TyOf K H (.ref a) (.ref C)
theorem isinst_ok {x : V} {u t : Value} (I : Inv X pins σ H s) (rx : RelV x u) (ty : TyOf X.K H x t) (e : PySem.W.kitOne X.K t c = some b) (h : ∀ tk, Q (.bool b) { s with toks := tk }) :
    wpAny (model X.prog X.w) A (call (.builtin "isinstance") [u, c]) Q E s := by
  cases ty with
  | non => cases (show u = Value.none from rx); exact PySem.W.kia_one PySem.W.kitx_none I.kIn True.intro e (fun z => nomatch z) h
  | bl y => cases (show u = Value.bool y from rx); exact PySem.W.kia_one PySem.W.kitx_bool I.kIn True.intro e (fun z => nomatch z) h
  | int i => obtain ⟨t, q⟩ := (show ∃ t, u = Value.int i t from rx); cases q; exact PySem.W.kia_one PySem.W.kitx_int I.kIn True.intro e (fun z => nomatch z) h
  | str y => obtain ⟨t, q⟩ := (show ∃ t, u = Value.str y t from rx); cases q; exact PySem.W.kia_one PySem.W.kitx_str I.kIn True.intro e (fun z => nomatch z) h
  | flt y => obtain ⟨t, q⟩ := (show ∃ t, u = Value.float y t from rx); cases q; exact PySem.W.kia_one PySem.W.kitx_float I.kIn True.intro e (fun z => nomatch z) h
  | @lst a xs ea =>
    cases (show u = Value.ref a from rx)
    obtain ⟨_, _, n, _, h1⟩ := (show ObjOk X.prog X.w H s.heap a (.lst xs) from I.hok a _ ea)
    exact PySem.W.kia_one PySem.W.kitx_list I.kIn ⟨_, h1, rfl⟩ e (fun z => nomatch z) h
  | @frz a ob xs ea =>
    cases (show u = Value.ref a from rx)
    obtain ⟨_, _, _, n, _, h1⟩ := (show ObjOk X.prog X.w H s.heap a (.frz ob (.lst xs)) from I.hok a _ ea)
    exact PySem.W.kia_one PySem.W.kitx_list I.kIn ⟨_, h1, rfl⟩ e (fun z => nomatch z) h
  | @tup a xs ea =>
    cases (show u = Value.ref a from rx)
    obtain ⟨_, _, _, p⟩ := (show ObjOk X.prog X.w H s.heap a (.tup xs) from I.hok a _ ea)
    obtain ⟨o, h1, h2, _⟩ := p
    exact PySem.W.kia_one PySem.W.kitx_tuple I.kIn ⟨o, h1, h2⟩ e (fun z => nomatch z) h
  | @dK a kvs ea =>
    cases (show u = Value.ref a from rx)
    obtain ⟨_, _, vs, _, p⟩ := (show ObjOk X.prog X.w H s.heap a (.dK kvs) from I.hok a _ ea)
    obtain ⟨o, es, ep, h1, h2, _⟩ := p
    exact PySem.W.kia_one PySem.W.kitx_dict I.kIn ⟨o, h1, h2.1⟩ e (fun z => nomatch z) h
  | @dT a kvs ea =>
    cases (show u = Value.ref a from rx)
    obtain ⟨_, _, xs, _, o, es, ep, h1, h2, _⟩ := (show ObjOk X.prog X.w H s.heap a (.dT kvs) from I.hok a _ ea)
    exact PySem.W.kia_one PySem.W.kitx_dict I.kIn ⟨o, h1, h2.1⟩ e (fun z => nomatch z) h
  | @ins a C dx fs ea cl ha hn htk hm =>
    cases (show u = Value.ref a from rx)
    obtain ⟨mA, O, _⟩ := ins_get I.hok ea
    obtain ⟨od, J, _⟩ := O.look
    exact PySem.W.kia_one (PySem.W.kitx_own (cl.get _) cl.hd ha hn htk hm) I.kIn J e (fun z => nomatch z) h
end
end L2
namespace L2
open PySem PySem.Spec PyProof.Rows
structure Room (k : Nat) (A : Around) : Prop where
  hd : A.handled = none
  dp : A.depth + 3 * k + 5 < recursionLimit
  un : A.units + 16 * k + 200 < cLine
theorem Room.mono {j k : Nat} {A : Around} (r : Room k A) (h : j ≤ k) : Room j A := ⟨r.hd, by have := r.dp; omega, by have := r.un; omega⟩
theorem Room.deeper {k : Nat} {A : Around} (r : Room (k + 1) A) (env : Env) : Room k (A.deeper env) :=
  ⟨r.hd, by have := r.dp; show A.depth + 1 + 3 * k + 5 < _; omega, by have := r.un; show A.units + 3 + 16 * k + 200 < _; omega⟩
theorem Room.depth {k : Nat} {A : Around} (r : Room k A) : A.depth < recursionLimit := by have := r.dp; omega
theorem Room.units {k : Nat} {A : Around} (r : Room k A) : A.units + 64 < cLine := by have := r.un; omega
def tNil : TA := fun _ H Q => Q [] H
def tCons (ta : TE) (tr : TA) : TA := fun σ H Q => ta σ H fun x H1 => tr σ H1 fun xs H2 => Q (x :: xs) H2
section
variable {X : Cx} {e : Expr} {es : List Expr} {te : TE} {t : TA} {pos : Pos}
theorem pa_nil : PA X [] tNil := fun _ _ _ _ H Q I h => Calls.spliced_nil ⟨[], H, I, .nil, h⟩
theorem pa_cons (ha : PE X e te) (hr : PA X es t) (hs : starEach (e :: es) X.env = (false, eval e X.env) :: starEach es X.env := by rfl) : PA X (e :: es) (tCons te t) := by
  intro pos pins s σ H Q I h
  rw [hs]
  show wpAny _ _ (spliced ((false, eval e X.env) :: backTo pos (starEach es X.env))) _ _ s
  refine Calls.spliced_cons (thn (ha pins s σ H _ I h) fun u s1 ⟨x, H1, I1, r1, q1⟩ => ?_)
  exact thn (hr pos pins s1 σ H1 _ I1 q1) fun us s2 ⟨xs, H2, I2, r2, q2⟩ => ⟨x :: xs, H2, I2, .cons r1 r2, q2⟩
def tTup (t : TA) : TE := fun σ H Q => t σ H fun xs H1 => xs.length ≤ sizeLine ∧ ∀ p, H1 p = none → Q (.ref p) (upd H1 p (.tup xs))
theorem pe_tup {x1} (h : PA X es t) : PE X (.Tuple es x1 pos) (tTup t) := by
  intro pins s σ H Q I hq
  refine wpAny_Tuple_spliced (thn (h pos pins s σ H _ I hq) fun us s1 ⟨xs, H1, I1, r, z, q⟩ => ⟨by rw [← r.length]; exact z, ?_⟩)
  have hf : H1 s1.heap.objs.size = none := I1.hok.fresh (Nat.le_refl _)
  refine ⟨.ref s1.heap.objs.size, upd H1 s1.heap.objs.size (.tup xs), I1.laid (t' := s1.toks) (fun b u e => Heap.get?_push_of_some _ e) (Nat.le_refl _) ?_, rfl, q _ hf⟩
  exact ⟨z, us, r, ⟨_, Heap.get?_push_size _ rfl, rfl, _, rfl⟩⟩
end
abbrev Sp := List V → Hp → VK → XK → Prop
abbrev CXT := List Env → Hp → Shared → XK → Value → Shared → Prop
structure Env0 (P : Program) (w : World) (K : PySem.W.Frag) (mg : Str → Option Value) (base : Heap) (A : Around) (outer : List Env) (s : Shared) (H : Hp) : Prop where
  frames : A.frames = some outer
  mod : Mod K mg base
  bs : ∀ b o, base.get? b = some o → s.heap.get? b = some o ∧ H b = none
  bsz : base.objs.size ≤ s.heap.objs.size
  funs : s.heap.FunFrames base outer
  frf : ∀ b ∈ frs outer, H b = none
  hok : HOk P w H s.heap
  bare : AllBare s.gens
def CE (outer : List Env) (P : Program) (w : World) (H : Hp) (s : Shared) (Q : VK) (u : Value) (s' : Shared) : Prop :=
  ∃ v H', s'.os = s.os ∧ AllBare s'.gens ∧ Un (frs outer) [] H H' s.heap s'.heap ∧ HOk P w H' s'.heap ∧ RelV v u ∧ Q v H'
def CR (CX : CXT) (outer : List Env) (P : Program) (w : World) (H : Hp) (s : Shared) (Q : VK) (E : XK) (r : Result) (s' : Shared) : Prop :=
  match r with
  | .ok (.ret u) => CE outer P w H s Q u s'
  | .ok _ => False
  | .error e => CX outer H s E e s'
structure FnOk (P : Program) (w : World) (K : PySem.W.Frag) (mg : Str → Option Value) (base : Heap) (CX : CXT) (k : Nat) (f : Addr) (fd : FuncData) (ps : List Str) (sp : Sp) : Prop where
  len : ∀ vs H Q E, sp vs H Q E → vs.length = ps.length
  run : ∀ (A : Around) (outer : List Env) (s : Shared) (H : Hp) (args : Args) (us : List Value) (vs : List V) (Q : VK) (E : XK), Room k A → Env0 P w K mg base A outer s H → BindsTo s fd args (ps.zip us) → Vals vs us → sp vs H Q E →
    codeAny (model P w) A (.call (.ref f) args) (CR CX outer P w H s Q E) s
section
variable {X : Cx} {pins : List (Addr × Obj)} {σ : St} {H : Hp} {s s' : Shared}
theorem Inv.env0 (I : Inv X pins σ H s) : Env0 X.prog X.w X.K X.mg X.base X.A X.stack s H :=
  ⟨I.ok.frames, I.ok.mod, I.bs, Nat.le_trans I.ok.bsz I.sz, I.stack, I.stkFree, I.hok, I.bare⟩
theorem Inv.after {Q : VK} {u : Value} (I : Inv X pins σ H s) (h : CE X.stack X.prog X.w H s Q u s') : EP X pins σ Q u s' := by
  obtain ⟨v, H', os, bare, un, hok, r, q⟩ := h
  obtain ⟨hh, g, d, t, os'⟩ := s'
  obtain rfl : os' = s.os := os
  exact ⟨v, H', I.call (h' := hh) (g' := g) (d' := d) (t' := t) (ch := []) un hok bare (fun b z => absurd z (by simp)), r, q⟩
end
def tCall (sp : Sp) (dvs : List V) (E : XK) (t : TA) : TE := fun σ H Q => t σ H fun vs H1 => sp (vs ++ dvs) H1 Q E
def Binds (K : PySem.W.Frag) (fd : FuncData) (ps : List Str) (ds : List Value) : Prop :=
  ∀ (s : Shared) (us : List Value), K.In s.heap → (us ++ ds).length = ps.length → BindsTo s fd ⟨us, []⟩ (ps.zip (us ++ ds))
theorem Binds.all {K : PySem.W.Frag} {fd : FuncData} {ps : List Str} (h : ∀ us : List Value, us.length = ps.length → bindArgs fd ⟨us, []⟩ = pure (ps.zip us)) : Binds K fd ps [] := fun s us _ hl => by
  rw [List.append_nil] at hl ⊢
  exact .of_eq (h us hl)
def Passes (CX : CXT) (X : Cx) (E : XK) : Prop := ∀ (pins : List (Addr × Obj)) (σ : St) (H : Hp) (s : Shared) (e : Value) (s' : Shared), Inv X pins σ H s → CX X.stack H s E e s' → X.xe e s'
section
variable {X : Cx} {CX : CXT} {k : Nat} {f C : Addr} {fd : FuncData} {ps : List Str} {sp : Sp} {dvs : List V} {ds : List Value} {E : XK} {x m : Str} {p pos apos : Pos} {e o : Expr} {es : List Expr} {ta : TE} {t : TA}
theorem run_fn {pins : List (Addr × Obj)} {σ : St} {H : Hp} {s : Shared} {Q : VK} {us : List Value} {vs : List V} (F : FnOk X.prog X.w X.K X.mg X.base CX k f fd ps sp) (hr : Room k X.A) (hb : Binds X.K fd ps ds) (hd : Vals dvs ds) (hx : Passes CX X E)
    (I : Inv X pins σ H s) (r : Vals vs us) (h : sp (vs ++ dvs) H Q E) : wpAny (model X.prog X.w) X.A (call (.ref f) us) (EP X pins σ Q) X.xe s := by
  have r2 : Vals (vs ++ dvs) (us ++ ds) := r.append hd
  have hl : (us ++ ds).length = ps.length := by rw [← r2.length]; exact F.len _ _ _ _ h
  refine wpAny_call (codeAny_mono (F.run X.A X.stack s H ⟨us, []⟩ (us ++ ds) (vs ++ dvs) Q E hr I.env0 (hb s us I.kIn hl) r2 h) fun r s' hq => ?_)
  cases r with
  | error e => exact hx pins σ H s e s' I hq
  | ok fl =>
    cases fl with
    | ret u => exact I.after hq
    | next => exact False.elim hq
    | brk => exact False.elim hq
    | cont => exact False.elim hq
theorem pe_call (F : FnOk X.prog X.w X.K X.mg X.base CX k f fd ps sp) (hr : Room k X.A) (hg : Gl X x) (hm : X.mg x = some (.ref f)) (hk : PySem.W.keepIn X.K (.ref f) = true) (hb : Binds X.K fd ps ds) (hd : Vals dvs ds) (hx : Passes CX X E)
    (ha : PA X (e :: es) t) (hdb : (x == ("__debug__" : Str)) = false := by decide) (he : starEach (e :: es) X.env = (false, eval e X.env) :: starEach es X.env := by rfl) (hpl : (backTo pos (starEach es X.env)).any (·.1) = false := by rfl) :
    PE X (.Call (.Name x p) (e :: es) [] pos) (tCall sp dvs E t) := by
  intro pins s σ H Q I h
  refine wpAny_Call_Name_kw (ld_glob I hg hm ?_ hdb)
  refine PySem.W.callWith_K (h₀ := X.base) I.ok.mod.kin hk (thn (ha pos pins s σ H _ I h) fun us s1 ⟨vs, H1, I1, r, q⟩ => ⟨I1.kIn, ?_⟩) he hpl
  exact run_fn F hr hb hd hx I1 r q
end
section
variable {X : Cx} {CX : CXT} {k : Nat} {f C : Addr} {fd : FuncData} {ps ks : List Str} {sp : Sp} {E : XK} {x m : Str} {p pos apos kpos : Pos} {e o : Expr} {es : List Expr} {kws : List Keyword} {te ta : TE} {t tk : TA} {nm : Option Str}
variable {g : List Value → List Value → List Value} {gV : List V → List V → List V}
end
structure FnScope (N P : List Str) (sc : Scope) : Prop where
  kind : sc.kind = .function
  co : sc.isCoroutine = false
  gen : sc.isGenerator = false
  nd : N.Nodup
  pre : N.take P.length = P
  par : ∀ x ∈ P, sc.names.lookup x = some .local ∨ sc.names.lookup x = some .cell
  nofree : ∀ y ∈ sc.names, y.2 ≠ .free
theorem bindL_out {kindOf : Str → Option NameKind} {x : Str} : ∀ {binds : List (Str × Value)} {m : Str → Option Value}, (∀ v, (x, v) ∉ binds) → bindL kindOf binds m x = m x
  | [], _, _ => rfl
  | (n, v) :: r, m, h => by
    unfold bindL
    rw [bindL_out fun w hw => h w (List.mem_cons_of_mem _ hw)]
    split
    · have : x ≠ n := by rintro rfl; exact h v List.mem_cons_self
      simp [this]
    · rfl
theorem bindC_out {kindOf : Str → Option NameKind} {x : Str} : ∀ {binds : List (Str × Value)} {m : Str → Option Value}, (∀ v, (x, v) ∉ binds) → bindC kindOf binds m x = m x
  | [], _, _ => rfl
  | (n, v) :: r, m, h => by
    unfold bindC
    rw [bindC_out fun w hw => h w (List.mem_cons_of_mem _ hw)]
    split
    · rfl
    · have : x ≠ n := by rintro rfl; exact h v List.mem_cons_self
      simp [this]
theorem bindL_get {kindOf : Str → Option NameKind} {x : Str} {v : Value} : ∀ {P : List Str} {vs : List Value} {i : Nat} {m : Str → Option Value}, P.Nodup → P[i]? = some x → vs[i]? = some v → kindOf x = some .local →
    bindL kindOf (P.zip vs) m x = some v
  | [], _, _, _, _, h, _, _ => by simp at h
  | _ :: _, [], _, _, _, _, h, _ => by simp at h
  | p :: P, w :: vs, 0, m, nd, h1, h2, hk => by
    simp at h1 h2; subst h1; subst h2
    show bindL kindOf ((p, w) :: P.zip vs) m p = _
    unfold bindL
    rw [bindL_out fun v hv => (List.nodup_cons.mp nd).1 (List.of_mem_zip hv).1, if_pos hk]
    simp
  | p :: P, w :: vs, i + 1, m, nd, h1, h2, hk => by
    show bindL kindOf ((p, w) :: P.zip vs) m x = _
    unfold bindL
    exact bindL_get (i := i) (List.nodup_cons.mp nd).2 (by simpa using h1) (by simpa using h2) hk
theorem bindC_get {kindOf : Str → Option NameKind} {x : Str} {v : Value} : ∀ {P : List Str} {vs : List Value} {i : Nat} {m : Str → Option Value}, P.Nodup → P[i]? = some x → vs[i]? = some v → kindOf x ≠ some .local →
    bindC kindOf (P.zip vs) m x = some v
  | [], _, _, _, _, h, _, _ => by simp at h
  | _ :: _, [], _, _, _, _, h, _ => by simp at h
  | p :: P, w :: vs, 0, m, nd, h1, h2, hk => by
    simp at h1 h2; subst h1; subst h2
    show bindC kindOf ((p, w) :: P.zip vs) m p = _
    unfold bindC
    rw [bindC_out fun v hv => (List.nodup_cons.mp nd).1 (List.of_mem_zip hv).1, if_neg hk]
    simp
  | p :: P, w :: vs, i + 1, m, nd, h1, h2, hk => by
    show bindC kindOf ((p, w) :: P.zip vs) m x = _
    unfold bindC
    exact bindC_get (i := i) (List.nodup_cons.mp nd).2 (by simpa using h1) (by simpa using h2) hk
def start (N : List Str) (vs : List V) : St := vs.map some ++ List.replicate (N.length - vs.length) none
def cxOf (CX : CXT) (P : Program) (w : World) (K : PySem.W.Frag) (mg : Str → Option Value) (base : Heap) (N : List Str) (qual : Str) (scope : Scope) (f : Addr) (cd : Value) (A : Around) (outer : List Env) (s : Shared) (H : Hp) (E : XK) : Cx where
  prog := P
  w := w
  K := K
  mg := mg
  base := base
  A := A.deeper (envOfC qual scope s.heap.objs.size f cd)
  N := N
  s₀ := s
  H₀ := H
  env := envOfC qual scope s.heap.objs.size f cd
  outer := outer
  stack := envOfC qual scope s.heap.objs.size f cd :: outer
  ex := []
  calm := true
  fn := fun _ => true
  pn := []
  xe := fun e s' => wpAny (model P w) (A.deeper (envOfC qual scope s.heap.objs.size f cd)) (leaving (envOfC qual scope s.heap.objs.size f cd) e) (fun _ s'' => CX outer H s E e s'') (fun e' s'' => CX outer H s E e' s'') s'
theorem cell_has {sc : Scope} {n : Nat} {x : Str} (h : sc.names.lookup x = some .cell) : ∃ c, (cellsFrom n sc.names []).lookup x = some c := by
  have q := PySem.W.cellsFrom_some sc.names n [] (.inl h)
  exact Option.isSome_iff_exists.mp q
theorem inv_start {CX : CXT} {P : Program} {w : World} {K : PySem.W.Frag} {mg : Str → Option Value} {base : Heap} {N ps : List Str} {qual : Str} {scope : Scope} {f : Addr} {cd : Value} {A : Around} {outer : List Env} {s s1 : Shared} {H : Hp} {E : XK} {us : List Value} {vs : List V}
    (S : FnScope N ps scope) (hd : A.handled = none) (e0 : Env0 P w K mg base A outer s H) (hl : vs.length = ps.length) (r : Vals vs us)
    (x : InCallC s s.heap.objs.size (bindL (envOfC qual scope s.heap.objs.size f cd).kindOf (ps.zip us) fun _ => none) (cellsFrom (s.heap.objs.size + 1) scope.names []) (bindC (envOfC qual scope s.heap.objs.size f cd).kindOf (ps.zip us) fun _ => none) s1) :
    Inv (cxOf CX P w K mg base N qual scope f cd A outer s H E) [] (start N vs) H s1 := by
  have hpl : ps.length ≤ N.length := by have := congrArg List.length S.pre; rw [List.length_take] at this; omega
  obtain ⟨h1, tk, rfl, hk⟩ := x.done
  have noA : ∀ b : Addr, b ∉ (cxOf CX P w K mg base N qual scope f cd A outer s H E).ex := fun b z => absurd (show b ∈ ([] : List Addr) from z) (by simp)
  refine ⟨⟨e0.mod, S.kind, rfl, rfl, Nat.le_refl _, fun y z c h1 h2 => ?_, fun y hy => ?_, fun y c _ h => ?_, fun _ => hd, Around.frames_deeper e0.frames, .inr ⟨rfl, rfl⟩, fun b z => absurd z (noA b), e0.bs, e0.bsz, fun b _ _ => noA b, fun b z => absurd z (noA b), e0.funs, e0.frf⟩,
    rfl, e0.bare, Un.kept hk, ⟨_, x.toInCall.ns, fun i y v h1 h2 h3 => ?_⟩, fun y c h => ⟨_, x.cell y c h⟩, e0.hok.fresh (Nat.le_refl _), fun y c h => ?_, fun p hp => absurd (show p ∈ ([] : List (Addr × Obj)) from hp) (by simp), e0.hok.kept hk, ?_⟩
  · exact name_of_addr x.apart (PySem.mem_of_lookup h1) (PySem.mem_of_lookup h2)
  · have hy : scope.names.lookup y = some .cell ∨ scope.names.lookup y = some .free := hy
    rcases hy with hy | hy
    · exact cell_has hy
    · exact absurd rfl (S.nofree _ (PySem.mem_of_lookup hy))
  · exact Nat.le_of_lt (x.above y c (PySem.mem_of_lookup h))
  · have hi : i < vs.length := by
      unfold start at h2
      by_cases hi : i < vs.length
      · exact hi
      · rw [List.getElem?_append_right (by simpa using hi)] at h2
        rw [List.getElem?_replicate] at h2
        split at h2 <;> cases h2
    have ha : vs[i]? = some v := by
      unfold start at h2
      rw [List.getElem?_append_left (by simpa using hi), List.getElem?_map] at h2
      cases e : vs[i]? with
      | none => rw [e] at h2; cases h2
      | some a => rw [e] at h2; cases h2; rfl
    obtain ⟨u, hu, rv⟩ := r.get ha
    have hp : ps[i]? = some y := by
      rw [← S.pre, List.getElem?_take_of_lt (by omega)]; exact h1
    have ndP : ps.Nodup := by rw [← S.pre]; exact S.nd.sublist (List.take_sublist _ _)
    refine ⟨u, rv, ?_⟩
    rcases S.par y (List.mem_of_getElem? hp) with k | k
    · exact .inl ⟨k, bindL_get ndP hp hu k⟩
    · obtain ⟨c, e⟩ := cell_has (n := s.heap.objs.size + 1) k
      refine .inr ⟨.inl k, c, e, ?_⟩
      have q := x.cell y c e
      rw [bindC_get ndP hp hu (by show scope.names.lookup y ≠ _; rw [k]; decide)] at q
      exact q
  · exact e0.hok.fresh (Nat.le_of_lt (x.above y c (PySem.mem_of_lookup h)))
  · unfold start
    show _ = N.length
    rw [List.length_append, List.length_map, List.length_replicate]
    omega
theorem fn_of {CX : CXT} {P : Program} {w : World} {K : PySem.W.Frag} {mg : Str → Option Value} {base : Heap} {k : Nat} {f : Addr} {name qual : Str} {params : Arguments} {body : List Stmt} {scope : Scope} {dV kV doc pm cdv ct oc : Value} {an od : Option Addr}
    {osl : Array (Option Value)} {N ps : List Str} {sp : Sp} (lk : K.lookup f = some ⟨oc, od, .func (PySem.W.fnOf name qual params body scope dV kV doc pm an cdv ct), osl⟩) (hcd : PySem.W.codeIn K cdv qual = true) (S : FnScope N ps scope)
    (len : ∀ vs H Q E, sp vs H Q E → vs.length = ps.length)
    (hbody : ∀ (A : Around) (outer : List Env) (s : Shared) (H : Hp) (vs : List V) (Q : VK) (E : XK), Room k (A.deeper (envOfC qual scope s.heap.objs.size f cdv)) → sp vs H Q E →
      ∃ t, PSs (cxOf CX P w K mg base N qual scope f cdv A outer s H E) body t ∧ t { nx := fun _ H' => Q .non H', rt := Q } (start N vs) H) :
    FnOk P w K mg base CX (k + 1) f (PySem.W.fnOf name qual params body scope dV kV doc pm an cdv ct) ps sp := by
  refine ⟨len, fun A outer s H args us vs Q E hr e0 hb r hsp => ?_⟩
  have hl := len _ _ _ _ hsp
  have KX : K.In s.heap := e0.mod.kin.keeps fun b o e => (e0.bs b o e).1
  have lim : s.heap.NoLimit := e0.mod.nolimit.keeps fun b o e => (e0.bs b o e).1
  have hkind : ∀ y ∈ ps.zip us, scope.names.lookup y.1 = some .local ∨ (scope.names.lookup y.1 = some .cell ∧ ((cellsFrom (s.heap.objs.size + 1) scope.names []).lookup y.1).isSome = true) := fun ⟨n, v⟩ hy => by
    rcases S.par n (List.of_mem_zip hy).1 with q | q
    · exact .inl q
    · exact .inr ⟨q, PySem.W.cellsFrom_some _ _ _ (.inl q)⟩
  refine codeAny_call_function hr.depth (KX _ _ lk) rfl S.co S.gen rfl (PySem.W.codeRec_of KX hcd) (hb _ _ _ _ ?_)
  refine wpAny_newFunctionEnv_cells S.kind hkind fun env he s1 x => ?_
  subst he
  refine ⟨lim.keeps x.toInCall.keep, codeAny_func ?_⟩
  obtain ⟨t, ht, hq⟩ := hbody A outer s H vs Q E (hr.deeper _) hsp
  have I : Inv (cxOf CX P w K mg base N qual scope f cdv A outer s H E) [] (start N vs) H s1 := inv_start S hr.hd e0 hl r x
  refine wpAny_mono (ht [] s1 (start N vs) H _ I hq) (fun fl s' hs => ?_) fun e s' hs => hs
  have fin : ∀ {σ' : St} {H' : Hp} {v : V} {u : Value}, Inv (cxOf CX P w K mg base N qual scope f cdv A outer s H E) [] σ' H' s' → RelV v u → Q v H' → CE outer P w H s Q u s' :=
    fun {σ' H' v u} J rv q => ⟨v, H', J.os, J.bare, J.base, J.hok, rv, q⟩
  cases fl with
  | ret u =>
    obtain ⟨v, σ', H', J, rv, q⟩ := hs
    exact fin J rv q
  | next =>
    obtain ⟨σ', H', J, q⟩ := hs
    exact fin (v := V.non) (u := Value.none) J rfl q
  | brk =>
    obtain ⟨_, _, _, q⟩ := hs
    exact False.elim q
  | cont =>
    obtain ⟨_, _, _, q⟩ := hs
    exact False.elim q
end L2
namespace L2
open PySem PySem.Spec PyProof.Rows
section
variable {X : Cx} {x : Str} {p pos : Pos} {e : Expr} {es : List Expr} {t : TA} {id T : String} {r : List V → Hp → VK → Prop}
def tCB (r : List V → Hp → VK → Prop) (t : TA) : TE := fun σ H Q => t σ H fun vs H1 => r vs H1 Q
theorem pe_callB (hc : CallR X (.builtin id) r) (hg : Gl X x) (hm : X.mg x = none) (hv : bootBuiltins x = some (.builtin id)) (ha : PA X (e :: es) t) (hn : x ≠ "__name__" := by decide) (hdb : (x == ("__debug__" : Str)) = false := by decide)
    (he : starEach (e :: es) X.env = (false, eval e X.env) :: starEach es X.env := by rfl) (hpl : (backTo pos (starEach es X.env)).any (·.1) = false := by rfl) : PE X (.Call (.Name x p) (e :: es) [] pos) (tCB r t) := by
  intro pins s σ H Q I h
  refine wpAny_Call_Name_kw (ld_blt I hg hm hv ?_ hn hdb)
  exact PyProof.Rows.callWith_builtin1 (thn (ha pos pins s σ H _ I h) fun us s1 ⟨vs, H1, I1, r1, q1⟩ => hc pins s1 σ H1 vs us Q I1 r1 q1) he hpl
end
end L2
namespace HT
open PySem PyProof.Rows
section
open PySem.SeqAt
open PySem.AutoSeq1 (wpAny_loadPart')
open PySem.MeetsSeq PySem.MeetsSeq2 PySem.MeetsSeq3
end
section
variable {prog : Program} {w : World} {A : Around} {E : Value → Shared → Prop} {s : Shared}
end
end HT
namespace L2
open PySem PySem.Spec PyProof.Rows
section
variable {X : Cx} {e : Expr} {te : TE} {lo hi : Option Expr} {tl th : TO} {pos p2 : Pos}
end
end L2
namespace L2
open PySem PySem.Spec PyProof.Rows
def ixN (n : Nat) (i : Int) : Option Nat := if 0 ≤ i then (if i < n then some i.toNat else none) else if -(n : Int) ≤ i then some (i + n).toNat else none
def atI {α : Type} (xs : List α) (i : Int) : Option α := (ixN xs.length i).bind fun j => xs[j]?
theorem ixN_seq {n : Nat} {i : Int} {j : Nat} (h : ixN n i = some j) : seqIndex? i n = some j ∧ j < n ∧ -(n : Int) ≤ i ∧ i < n := by
  unfold ixN at h
  by_cases h0 : 0 ≤ i
  · rw [if_pos h0] at h
    by_cases h1 : i < n
    · rw [if_pos h1] at h
      have e : i.toNat = j := Option.some.inj h
      exact ⟨by rw [seqIndex_of h0 h1, e], by omega, by omega, h1⟩
    · rw [if_neg h1] at h; cases h
  · rw [if_neg h0] at h
    by_cases h1 : -(n : Int) ≤ i
    · rw [if_pos h1] at h
      have e : (i + n).toNat = j := Option.some.inj h
      exact ⟨by rw [seqIndex_neg (by omega) h1, e], by omega, h1, by omega⟩
    · rw [if_neg h1] at h; cases h
theorem atI_get {α : Type} {xs : List α} {i : Int} {v : α} (h : atI xs i = some v) : ∃ j, seqIndex? i xs.length = some j ∧ xs[j]? = some v ∧ j < xs.length ∧ -(xs.length : Int) ≤ i ∧ i < xs.length := by
  unfold atI at h
  cases e : ixN xs.length i with
  | none => rw [e] at h; cases h
  | some j =>
    rw [e] at h
    obtain ⟨h1, h2, h3, h4⟩ := ixN_seq e
    exact ⟨j, h1, h, h2, h3, h4⟩
def PlainIx (b : Expr) : Prop := ∀ o i, subscripted b false o i = operate [o, i] (getItem o i)
def IxR (X : Cx) (r : R2) : Prop :=
  ∀ (value slice : Expr) (pins : List (Addr × Obj)) (s : Shared) (σ : St) (H : Hp) (x y : V) (v u : Value) (Q : VK), Inv X pins σ H s → RelV x v → RelV y u → r x y H Q →
    subscripted slice false v u = operate [v, u] (getItem v u) → wpAny (model X.prog X.w) X.A (subscriptTail value slice v u) (EP X pins σ Q) X.xe s
section
variable {X : Cx} {a b : Expr} {ta tb : TE} {pos : Pos}
theorem pe_ix {r : R2} (hr : IxR X r) (ha : PE X a ta) (hb : PE X b tb) (hs : PlainIx b) : PE X (.Subscript a b pos) (tOp r ta tb) := by
  intro pins s σ H Q I h
  exact Subscript_ (binT ha hb I h fun v u s2 x y H2 I2 rx ry q => hr a b pins s2 σ H2 x y v u Q I2 rx ry q (hs _ _))
def rIxL (K : PySem.W.Frag) : R2 := fun x y H Q => ∃ p xs i v, x = .ref p ∧ y = .int i ∧ SqL K H p xs ∧ atI xs i = some v ∧ Q v H
def rIxT (K : PySem.W.Frag) : R2 := fun x y H Q => ∃ p xs i v, x = .ref p ∧ y = .int i ∧ SqT K H p xs ∧ atI xs i = some v ∧ Q v H
theorem ix_list : IxR X (rIxL X.K) := by
  intro value slice pins s σ H x y v u Q I rx ry h hs
  obtain ⟨p, xs, i, z, rfl, rfl, hq, he, q⟩ := h
  cases rx
  obtain ⟨t, rfl⟩ := ry
  obtain ⟨its, r, pl, hz⟩ := I.list hq
  obtain ⟨j, h1, h2, h3, h4, h5⟩ := atI_get he
  obtain ⟨w, ew, rw'⟩ := r.get h2
  have hl := r.length
  have hn := line63
  have fin : EP X pins σ Q w s := ⟨z, H, I, rw', q⟩
  by_cases h0 : 0 ≤ i
  · have hj : i.toNat = j := by
      rw [seqIndex_of h0 h5] at h1
      exact Option.some.inj h1
    exact item_listR pl.isList h0 (by omega) (by rw [hj]; simpa using ew) fin hs
  · have hj : (i + (its.toArray.size : Int)).toNat = j := by
      rw [seqIndex_neg (by omega) h4] at h1
      rw [List.size_toArray, ← hl]
      exact Option.some.inj h1
    exact subscriptTail_builtinR (x := w) pl.isList.typeIs slot_list_getitem.lookup
      (wpAny_getItem_list_neg (Q := fun r s' => r = w ∧ EP X pins σ Q r s') pl.isList (by omega) (by rw [List.size_toArray] <;> omega) (by omega) (by rw [hj]; simpa using ew) ⟨rfl, fin⟩) hs
theorem ix_tup : IxR X (rIxT X.K) := by
  intro value slice pins s σ H x y v u Q I rx ry h hs
  obtain ⟨p, xs, i, z, rfl, rfl, hq, he, q⟩ := h
  cases rx
  obtain ⟨t, rfl⟩ := ry
  obtain ⟨its, r, pl, hz⟩ := I.tuple hq
  obtain ⟨j, h1, h2, h3, h4, h5⟩ := atI_get he
  obtain ⟨w, ew, rw'⟩ := r.get h2
  have hl := r.length
  have hn := line63
  have fin : EP X pins σ Q w s := ⟨z, H, I, rw', q⟩
  exact subscriptTail_builtinR (x := w) pl.typeIs slot_tuple_getitem.lookup
    (getItem_tuple (j := j) (Q := fun r s' => r = w ∧ EP X pins σ Q r s') pl (by omega) (by omega) (by rw [List.size_toArray, ← hl]; exact h1) (by simpa using ew) ⟨rfl, fin⟩) hs
theorem call_len_seq : CallR X (.builtin "len") (fun xs H Q => ∃ p ys, xs = [.ref p] ∧ (SqL X.K H p ys ∨ SqT X.K H p ys) ∧ Q (.int ys.length) H) := by
  intro pins s σ H xs us Q I r h
  obtain ⟨p, ys, rfl, hq, q⟩ := h
  obtain ⟨u, rfl, rx⟩ := vals1 r
  cases rx
  have hn := line63
  rcases hq with hq | hq
  · obtain ⟨its, r', pl, hz⟩ := I.list hq
    have hlen := r'.length
    exact Calls.call_len_list pl.isList (by simp only [List.size_toArray] <;> omega) ⟨.int ys.length, H, I.tok _, ⟨s.toks + 1, by rw [List.size_toArray, hlen]⟩, q⟩
  · obtain ⟨its, r', pl, hz⟩ := I.tuple hq
    have hlen := r'.length
    exact len_tuple pl (by simp only [List.size_toArray] <;> omega) ⟨.int ys.length, H, I.tok _, ⟨s.toks + 1, by rw [List.size_toArray, hlen]⟩, q⟩
variable {o e : Expr} {es : List Expr} {to : TE} {t : TA} {name : Str} {apos cpos : Pos} {T id : String} {r : V → List V → Hp → VK → Prop}
/- xs.append(e), list.index on a module's tuple .. are MtR facts of 06m -/
end
end L2
namespace L2
open PySem PySem.Spec PyProof.Rows
section
variable {X : Cx} {pins : List (Addr × Obj)} {σ : St} {H : Hp} {s : Shared} {l b : Addr} {xs ys zs : List V}
end
section
variable {X : Cx}
end
section
variable {prog : Program} {w : World} {A : Around} {E : Value → Shared → Prop} {s : Shared}
end
section
variable {X : Cx}
end
end L2
namespace Att
open PySem PySem.W PySem.Calls PyProof.Rows
theorem ints_of_wellAll {P : Params} {h : Heap} : ∀ (ns : List Int) (vs : List Value), WellAll P h vs (ns.map WData.int) → IntsAre vs ns := by
  intro ns
  induction ns with
  | nil =>
    intro vs w
    rw [List.map_nil] at w
    cases w
    exact .nil
  | cons n ns ih =>
    intro vs w
    rw [List.map_cons] at w
    cases w with
    | cons a b =>
      cases a
      exact .cons _ _ (ih _ b)
theorem script_of {l : OpenLaw} {n : Nat} (hn : l.most = some n) {P : Params} {h : Heap} {args : List WData} {vals : List Value}
    (hpre : l.row.toRowW.claim.pre args = true) (hwl : WellAll P h vals args) :
    ∃ a vs ns, vals = [Value.ref a] ∧ args = [WData.list (ns.map WData.int)] ∧ h.get? a = some { cls := .type "list", data := .seq vs.toArray } ∧ IntsAre vs ns ∧ ns.length ≤ n := by
  have hsh : WShape.hasAll [] args [.list .int] = true := (pre_splitW hpre).1
  have hc : l.pre.holds [] { args := args } = true := (pre_splitW hpre).2
  obtain ⟨d, r, rfl, h1, h2⟩ := hasAllW_cons hsh
  obtain rfl := hasAllW_nil h2
  obtain ⟨xs, rfl, h3⟩ := hasW_list h1
  obtain ⟨ns, rfl⟩ := items_int h3
  have hlen : ns.length ≤ n := by
    unfold OpenLaw.pre at hc
    have h4 : (WTm.not (.lt (.lit (.int (n : Int))) (.len (.arg 0)))).holds [] { args := [.list (ns.map .int)] } = true := by
      have h4 := (holds_andW hc).1
      rw [hn] at h4
      exact h4
    have h5 := condW_of h4 (w_not (w_lt w_lit (w_len_list (w_arg rfl))))
    rw [List.length_map] at h5
    refine Nat.le_of_not_lt fun q => ?_
    have q' : (n : Int) < ((ns.length : Nat) : Int) := by omega
    first
      | (rw [decide_eq_true q'] at h5; exact absurd h5 (by decide))
      | (simp at h5; omega)
  cases hwl with
  | cons w1 w2 =>
    cases w2
    cases w1 with
    | list ho hall => exact ⟨_, _, ns, rfl, rfl, ho, ints_of_wellAll ns _ hall, hlen⟩
theorem post_true (l : OpenLaw) (args : List WData) : l.row.toRowW.claim.post args (.bool true) args = true :=
  postW_of (r := l.row.toRowW) (X := (true == true))
    (show WShape.has [] (.bool true) .bool = true by first | rfl | decide | simp [WShape.has, WShape.arms, WShape.armsAll])
    (show (WTm.eq .res (.lit (.bool true))).value [] { args := args, res := some (.bool true), after := args } = some (.bool (true == true)) from w_eq_bool (w_res rfl) w_lit) rfl
theorem attach_call {l : OpenLaw} {n : Nat} {q : Program} {loose : List Str} {XP : (Str → Option Value) → Heap → Prop} {YP : World → Heap → Prop} {d : DefRec}
    (hn : l.most = some n) (hdf : d.params.defaults = [])
    (call : ∀ (w : World) (s₀ s₁ : Shared) (mg mb : Str → Option Value) (fa : Addr) (o : Obj) (pm cd doc : Value) (a : Addr) (vs : List Value) (ns : List Int),
      Ground q loose [] XP w s₀ mg mb s₁.heap → YP w s₁.heap →
      s₁.heap.get? fa = some o → o.data = .func (docDef d.name d.params d.body d.scope pm cd doc) → s₁.heap.CodeRec cd d.name → mg d.name = some (.ref fa) →
      s₁.heap.get? a = some { cls := .type "list", data := .seq vs.toArray } → IntsAre vs ns → ns.length ≤ n → s₁.gens = #[] →
      codeAny (model l.prog w) callerA (.call (.ref fa) ⟨[.ref a], []⟩) (fun r s' => r = .ok (.ret (.bool true)) ∧ OldK s₁.heap s'.heap ∧ s'.os = s₁.os ∧ AllBare s'.gens) s₁) :
    WalkO q loose XP YP l.row.toRowW d [] (fun f vs => PySem.call f vs) := by
  intro w s₀ s₁ mg mb G Y fa o pm cd doc dV kV ho hd hcd hD hmg hg args vals as hpre hlay hrd hwl hlo
  obtain rfl : dV = .none := Dflts.none hD hdf
  obtain rfl : kV = .none := Dflts.noKw hD
  obtain ⟨a, vs, ns, rfl, rfl, hobj, hints, hlen⟩ := script_of hn hpre hwl
  refine enter_call (codeAny_mono (call w s₀ s₁ mg mb fa o pm cd doc a vs ns G Y ho (fd_plain hd) hcd hmg hobj hints hlen hg) fun r s' hq => ?_)
  obtain ⟨rfl, h2, h3, h4⟩ := hq
  exact ⟨.inl ⟨.bool true, .bool true, [], rfl, fun _ => rfl, .bool true, post_true l _, fun _ => ⟨List.Pairwise.nil, fun _ hm => (nomatch hm)⟩⟩, h2, h3, h4⟩
section
variable {prog : Program} {w : World} {A : Around} {E : Value → Shared → Prop} {s : Shared} {K : Frag}
end
end Att
namespace L2
open PySem PySem.Spec PyProof.Rows
theorem vals_ints : ∀ {vs : List Value} {ns : List Int}, IntsAre vs ns → Vals (ns.map V.int) vs
  | _, _, .nil => .nil
  | _, _, .cons n t h => .cons ⟨t, rfl⟩ (vals_ints h)
end L2
namespace L2
open PySem PySem.Spec PyProof.Rows
abbrev KOf {K : PySem.W.Frag} {h : Heap} (_ : K.In h) : PySem.W.Frag := K
end L2
namespace L2
open PySem PySem.Spec PyProof.Rows
def defArgs (s : Stmt) : Arguments := match s with
  | .FunctionDef _ a _ _ _ _ _ _ _ _ => a
  | _ => { posonlyargs := [], args := [], vararg := none, kwonlyargs := [], kw_defaults := [], kwarg := none, defaults := [] }
def defBody (s : Stmt) : List Stmt := match s with
  | .FunctionDef _ _ b _ _ _ _ _ _ _ => b
  | _ => []
def defScope (s : Stmt) : Scope := match s with
  | .FunctionDef _ _ _ _ _ _ sc _ _ _ => sc
  | _ => { kind := .function, names := [], isGenerator := false, isCoroutine := false }
abbrev CX0 : CXT := fun _ _ _ _ _ _ => False
abbrev E0 : XK := fun _ _ _ => False
theorem pass0 {X : Cx} : Passes CX0 X E0 := fun _ _ _ _ _ _ _ h => h.elim
structure Fun (K : PySem.W.Frag) (x qual : Str) (st : Stmt) (f : Addr) (fd : FuncData) : Prop where
  ex : ∃ (oc : Value) (od : Option Addr) (kV doc pm : Value) (an : Option Addr) (cdv ct : Value) (osl : Array (Option Value)),
    fd = PySem.W.fnOf x qual (defArgs st) (defBody st) (defScope st) .none kV doc pm an cdv ct ∧ K.lookup f = some ⟨oc, od, .func fd, osl⟩ ∧ PySem.W.codeIn K cdv qual = true
  kp : PySem.W.keepIn K (.ref f) = true
section
variable {P : Program} {w : World} {K : PySem.W.Frag} {mg : Str → Option Value} {base : Heap}
theorem Fun.ok {x qual : Str} {st : Stmt} {f : Addr} {fd : FuncData} {N ps : List Str} {k : Nat} {sp : Sp} (F : Fun K x qual st f fd) (S : FnScope N ps (defScope st)) (len : ∀ vs H Q E, sp vs H Q E → vs.length = ps.length)
    (hbody : ∀ (cdv : Value) (A : Around) (outer : List Env) (s : Shared) (H : Hp) (vs : List V) (Q : VK) (E : XK), Room k (A.deeper (envOfC qual (defScope st) s.heap.objs.size f cdv)) → sp vs H Q E →
      ∃ t, PSs (cxOf CX0 P w K mg base N qual (defScope st) f cdv A outer s H E).nox (defBody st) t ∧ t { nx := fun _ H' => Q .non H', rt := Q } (start N vs) H) : FnOk P w K mg base CX0 (k + 1) f fd ps sp := by
  obtain ⟨oc, od, kV, doc, pm, an, cdv, ct, osl, rfl, lk, hcd⟩ := F.ex
  refine fn_of lk hcd S len fun A outer s H vs Q E hr hsp => ?_
  obtain ⟨t, h, q⟩ := hbody cdv A outer s H vs Q E hr hsp
  exact ⟨t, h.nox, q⟩
theorem Fun.binds {x qual : Str} {st : Stmt} {f : Addr} {fd : FuncData} {ps : List Str} (F : Fun K x qual st f fd)
    (h : ∀ (kV doc pm : Value) (an : Option Addr) (cdv ct : Value) (us : List Value), us.length = ps.length → bindArgs (PySem.W.fnOf x qual (defArgs st) (defBody st) (defScope st) .none kV doc pm an cdv ct) ⟨us, []⟩ = pure (ps.zip us)) : Binds K fd ps [] := by
  obtain ⟨oc, od, kV, doc, pm, an, cdv, ct, osl, rfl, lk, hcd⟩ := F.ex
  exact .all (h kV doc pm an cdv ct)
theorem fun_mk {x qual : Str} {st : Stmt} {f : Addr} {oc : Value} {od an : Option Addr} {osl : Array (Option Value)} {kV doc pm cdv ct : Value} (l : K.lookup f = some ⟨oc, od, .func (PySem.W.fnOf x qual (defArgs st) (defBody st) (defScope st) .none kV doc pm an cdv ct), osl⟩)
    (c : PySem.W.codeIn K cdv qual = true) (k : PySem.W.keepIn K (.ref f) = true) : Fun K x qual st f (PySem.W.fnOf x qual (defArgs st) (defBody st) (defScope st) .none kV doc pm an cdv ct) := ⟨⟨oc, od, kV, doc, pm, an, cdv, ct, osl, rfl, l, c⟩, k⟩
end
section
variable {X : Cx}
end
theorem iteF {A B : Prop} (h : B) : if false = true then A else B := by
  rw [if_neg Bool.false_ne_true]
  exact h
theorem iteT {A B : Prop} (h : A) : if true = true then A else B := by
  rw [if_pos rfl]
  exact h
def Same (H H' : Hp) : Prop := ∀ b o, H b = some o → H' b = some o
theorem Same.refl (H : Hp) : Same H H := fun _ _ h => h
theorem Same.trans {H H1 H2 : Hp} (a : Same H H1) (b : Same H1 H2) : Same H H2 := fun c o h => b c o (a c o h)
theorem Same.free {H H' : Hp} (e : Same H H') {l : Addr} (h : H' l = Option.none) : H l = Option.none := by
  cases q : H l with
  | none => rfl
  | some o =>
    rw [e l o q] at h
    cases h
theorem Same.seq {K : PySem.W.Frag} {H H' : Hp} {a : Addr} {xs : List V} (e : Same H H') (h : SqL K H a xs) : SqL K H' a xs := by
  rcases h with (h | ⟨o, h⟩) | h
  · exact .inl (.inl (e _ _ h))
  · exact .inl (.inr ⟨o, e _ _ h⟩)
  · exact .inr h
end L2
set_option Elab.async false
set_option linter.all false
namespace My
def G (a b : Int) : Int := ((Int.gcd a b : Nat) : Int)
theorem G_end {a : Int} (ha : 0 ≤ a) : G a 0 = a := by
  show ((Int.gcd a 0 : Nat) : Int) = a
  rw [Int.gcd_zero_right]
  omega
theorem G_turn {a b : Int} (ha : 0 ≤ a) (hb : 0 < b) : G b (Int.fmod a b) = G a b := by
  unfold G
  rw [Int.fmod_eq_emod_of_nonneg a (Int.le_of_lt hb)]
  obtain ⟨m, rfl⟩ := Int.eq_ofNat_of_zero_le ha
  obtain ⟨n, rfl⟩ := Int.eq_ofNat_of_zero_le (Int.le_of_lt hb)
  show ((Nat.gcd (n : Int).natAbs ((m : Int) % (n : Int)).natAbs : Nat) : Int) = ((Nat.gcd (m : Int).natAbs (n : Int).natAbs : Nat) : Int)
  have e : ((m : Int) % (n : Int)).natAbs = m % n := by omega
  rw [e, Int.natAbs_natCast, Int.natAbs_natCast, Nat.gcd_comm m n, Nat.gcd_comm n (m % n), ← Nat.gcd_rec]
theorem G_pos {a b : Int} (hb : 0 < b) : 0 < G a b := by
  have : 0 < Int.gcd a b := Int.gcd_pos_of_ne_zero_right a (by omega)
  unfold G
  omega
theorem num_share {t b : Int} (hb : 0 < b) : Int.fdiv t (G t b) = (Rat.divInt t b).num := by
  rw [Int.fdiv_eq_ediv_of_nonneg _ (Int.le_of_lt (G_pos hb)), Rat.num_divInt, Int.sign_eq_one_of_pos hb, Int.one_mul]
  unfold G
  rw [Int.gcd_comm]
theorem den_share {t b : Int} (hb : 0 < b) : Int.fdiv b (G t b) = ((Rat.divInt t b).den : Int) := by
  rw [Int.fdiv_eq_ediv_of_nonneg _ (Int.le_of_lt (G_pos hb)), Rat.den_divInt, if_neg (show ¬ b = 0 by omega), Int.natCast_ediv, Int.natAbs_of_nonneg (Int.le_of_lt hb)]
  unfold G
  rw [Int.gcd_comm]
theorem den_ne (q : Rat) : (q.den : Int) ≠ 0 := by have := q.den_pos; omega
theorem den_pos' (q : Rat) : (0 : Int) < q.den := by have := q.den_pos; omega
theorem q_add (p q : Rat) : Rat.divInt (p.num * q.den + q.num * p.den) (p.den * q.den) = p + q := by
  rw [← Rat.divInt_add_divInt _ _ (den_ne p) (den_ne q), Rat.num_divInt_den, Rat.num_divInt_den]
theorem q_sub (p q : Rat) : Rat.divInt (p.num * q.den - q.num * p.den) (p.den * q.den) = p - q := by
  rw [← Rat.divInt_sub_divInt _ _ (den_ne p) (den_ne q), Rat.num_divInt_den, Rat.num_divInt_den]
theorem q_mul (p q : Rat) : Rat.divInt (p.num * q.num) (p.den * q.den) = p * q := by
  rw [← Rat.divInt_mul_divInt, Rat.num_divInt_den, Rat.num_divInt_den]
theorem q_div (p q : Rat) : Rat.divInt (p.num * q.den) (p.den * q.num) = p / q := by
  rw [← Rat.divInt_mul_divInt, Rat.num_divInt_den, Rat.div_def, Rat.inv_def]
theorem q_lt (p q : Rat) : p.num * q.den < q.num * p.den ↔ p < q := (Rat.lt_iff p q).symm
theorem q_num_pos {q : Rat} (h : 0 < q) : 0 < q.num := by
  have h2 := (Rat.lt_iff 0 q).mp h
  have e1 : (0 : Rat).num = 0 := rfl
  have e2 : (0 : Rat).den = 1 := rfl
  rw [e1, e2, Int.zero_mul] at h2
  omega
theorem q_num_nn {q : Rat} (h : 0 ≤ q) : 0 ≤ q.num := Rat.num_nonneg.mpr h
theorem q_inj {p q : Rat} (h1 : p.num = q.num) (h2 : (p.den : Int) = q.den) : p = q := Rat.ext h1 (by omega)
end My
set_option Elab.async false
set_option linter.all false
namespace My
theorem mul_num (p q : Rat) : (p * q).num = p.num / ((p.num.natAbs.gcd q.den : Nat) : Int) * (q.num / ((q.num.natAbs.gcd p.den : Nat) : Int)) := by
  show (Rat.mul p q).num = _
  unfold Rat.mul
  simp only [Int.divExact_eq_ediv]
theorem mul_den (p q : Rat) : (p * q).den = q.den / p.num.natAbs.gcd q.den * (p.den / q.num.natAbs.gcd p.den) := by
  show (Rat.mul p q).den = _
  unfold Rat.mul
  simp only [Nat.divExact_eq_div, Nat.mul_comm]
theorem gcd_sum {n1 d1 n2 d2 : Nat} (h1 : Nat.Coprime n1 d1) (h2 : Nat.Coprime n2 d2) (p1 : 0 < d1) (p2 : 0 < d2) :
    Nat.gcd (n1 * d2 + n2 * d1) (d1 * d2) = Nat.gcd d1 d2 * Nat.gcd (n1 * (d2 / Nat.gcd d1 d2) + n2 * (d1 / Nat.gcd d1 d2)) (Nat.gcd d1 d2) := by
  have g0 : 0 < Nat.gcd d1 d2 := Nat.gcd_pos_of_pos_left _ p1
  generalize hg : Nat.gcd d1 d2 = g at *
  obtain ⟨e1, rfl⟩ : g ∣ d1 := hg ▸ Nat.gcd_dvd_left _ _
  obtain ⟨e2, rfl⟩ : g ∣ d2 := hg ▸ Nat.gcd_dvd_right _ _
  have ce : Nat.Coprime e1 e2 := by
    rw [Nat.gcd_mul_left] at hg
    exact Nat.eq_of_mul_eq_mul_left g0 (by rw [hg, Nat.mul_one])
  rw [Nat.mul_div_cancel_left _ g0, Nat.mul_div_cancel_left _ g0]
  have a1 : Nat.Coprime e1 (n1 * e2 + n2 * e1) := by
    show Nat.gcd e1 (n1 * e2 + n2 * e1) = 1
    rw [Nat.mul_comm n2 e1, Nat.gcd_add_mul_left_right]
    exact Nat.Coprime.mul_right ((h1.coprime_dvd_right ⟨g, Nat.mul_comm _ _⟩).symm) ce
  have a2 : Nat.Coprime e2 (n1 * e2 + n2 * e1) := by
    show Nat.gcd e2 (n1 * e2 + n2 * e1) = 1
    rw [Nat.add_comm, Nat.mul_comm n1 e2, Nat.gcd_add_mul_left_right]
    exact Nat.Coprime.mul_right ((h2.coprime_dvd_right ⟨g, Nat.mul_comm _ _⟩).symm) ce.symm
  rw [show n1 * (g * e2) + n2 * (g * e1) = g * (n1 * e2 + n2 * e1) by grind, show g * e1 * (g * e2) = g * (e1 * (e2 * g)) by grind, Nat.gcd_mul_left, a1.gcd_mul_left_cancel_right, a2.gcd_mul_left_cancel_right]
theorem add_num {p q : Rat} (hp : 0 ≤ p.num) (hq : 0 ≤ q.num) : (p + q).num = (p.num * (q.den / G p.den q.den) + q.num * (p.den / G p.den q.den)) / G (p.num * (q.den / G p.den q.den) + q.num * (p.den / G p.den q.den)) (G p.den q.den) ∧
    ((p + q).den : Int) = p.den / G p.den q.den * (q.den / G (p.num * (q.den / G p.den q.den) + q.num * (p.den / G p.den q.den)) (G p.den q.den)) := by
  obtain ⟨n1, e1⟩ := Int.eq_ofNat_of_zero_le hp
  obtain ⟨n2, e2⟩ := Int.eq_ofNat_of_zero_le hq
  have c1 : Nat.Coprime n1 p.den := by have := p.reduced; rw [e1] at this; exact this
  have c2 : Nat.Coprime n2 q.den := by have := q.reduced; rw [e2] at this; exact this
  have d1 := p.den_pos
  have d2 := q.den_pos
  rw [Rat.num_add, Rat.den_add, e1, e2]
  generalize p.den = b1 at *
  generalize q.den = b2 at *
  have gg := gcd_sum c1 c2 d1 d2
  have g0 : 0 < Nat.gcd b1 b2 := Nat.gcd_pos_of_pos_left _ d1
  have hG : G (b1 : Int) b2 = ((Nat.gcd b1 b2 : Nat) : Int) := rfl
  have hN : ((n1 : Int) * b2 + n2 * b1) = ((n1 * b2 + n2 * b1 : Nat) : Int) := by push_cast; rfl
  have ht : (n1 : Int) * ((b2 : Int) / G b1 b2) + n2 * ((b1 : Int) / G b1 b2) = ((n1 * (b2 / Nat.gcd b1 b2) + n2 * (b1 / Nat.gcd b1 b2) : Nat) : Int) := by rw [hG]; push_cast; rfl
  rw [ht, hG]
  rw [hN, Int.natAbs_natCast, gg]
  generalize hgv : Nat.gcd b1 b2 = g at *
  obtain ⟨e1', rfl⟩ : g ∣ b1 := hgv ▸ Nat.gcd_dvd_left _ _
  obtain ⟨e2', rfl⟩ : g ∣ b2 := hgv ▸ Nat.gcd_dvd_right _ _
  rw [Nat.mul_div_cancel_left _ g0, Nat.mul_div_cancel_left _ g0]
  generalize hl : Nat.gcd (n1 * e2' + n2 * e1') g = l
  have l0 : 0 < l := hl ▸ Nat.gcd_pos_of_pos_right _ g0
  have hGl : G ((n1 * e2' + n2 * e1' : Nat) : Int) (g : Int) = (l : Int) := by rw [← hl]; rfl
  obtain ⟨m, hm⟩ : l ∣ g := hl ▸ Nat.gcd_dvd_right _ _
  rw [hGl]
  constructor
  · rw [show n1 * (g * e2') + n2 * (g * e1') = g * (n1 * e2' + n2 * e1') by grind, ← Int.natCast_ediv, ← Int.natCast_ediv, Nat.mul_div_mul_left _ _ g0]
  · subst hm
    rw [← Int.natCast_ediv, ← Int.natCast_ediv, ← Int.natCast_mul]
    congr 1
    rw [Nat.mul_div_cancel_left _ g0, show l * m * e1' * (l * m * e2') = (l * m * l) * (e1' * (m * e2')) by grind, Nat.mul_div_cancel_left _ (Nat.mul_pos g0 l0), show l * m * e2' = l * (m * e2') by grind, Nat.mul_div_cancel_left _ l0]
end My
set_option Elab.async false
set_option linter.all false
set_option maxRecDepth 100000
set_option maxHeartbeats 4000000
namespace L2
open PySem PySem.Spec PyProof.Rows
section
variable {P : Program} {w : World} {H : Hp} {h : Heap} {a : Addr} {o : HO}
theorem ObjOk.there (x : ObjOk P w H h a o) : ∃ ob, h.get? a = some ob := by
  cases o with
  | lst xs => obtain ⟨_, _, _, _, e⟩ := x; exact ⟨_, e⟩
  | tup xs => obtain ⟨_, _, _, ob, e, _⟩ := x; exact ⟨ob, e⟩
  | dK kvs => obtain ⟨_, _, _, _, o, _, _, e, _⟩ := x; exact ⟨o, e⟩
  | dT kvs => obtain ⟨_, _, _, _, o, _, _, e, _⟩ := x; exact ⟨o, e⟩
  | set S n => obtain ⟨o, _, _, _, e, _⟩ := x; exact ⟨o, e⟩
  | ins C dx fs => obtain ⟨_, _, _, e, _⟩ := x; exact ⟨_, e⟩
  | own y => obtain ⟨u, e⟩ := x; exact ⟨u, e⟩
  | xd fs => obtain ⟨_, ⟨u, _, _, e, _⟩, _⟩ := x; exact ⟨u, e⟩
  | rng lo hi => obtain ⟨_, _, _, e⟩ := x; exact ⟨_, e⟩
  | frz ob u => obtain ⟨e, _⟩ := x; exact ⟨_, e⟩
  | tbl ps =>
    have e : h.get? a = some _ := x
    exact ⟨_, e⟩
  | met f y =>
    have e : h.get? a = some _ := x
    exact ⟨_, e⟩
  | ext φ => obtain ⟨_, ⟨u, e⟩, _⟩ := x; exact ⟨u, e⟩
theorem HOk.sub {B : Heap} (x : HOk P w H h) (k : ∀ b u, H b ≠ none → h.get? b = some u → B.get? b = some u) : HOk P w H B := fun a o e =>
  (x a o e).stay (fun b u hb q => k b u (by
    rcases hb with z | z
    · rw [z, e]; simp
    · rw [z]; simp) q) (fun _ q => q) fun _ _ q => q
theorem HOk.not_at (x : HOk P w H h) (e : h.get? a = none) : H a = none := by
  cases q : H a with
  | none => rfl
  | some u =>
    obtain ⟨ob, z⟩ := (x a u q).there
    rw [e] at z; cases z
end
structure Fly (P : Program) (w : World) (outer : List Env) (H : Hp) (s : Shared) (ea : Addr) (cls : Value) (H' : Hp) (B : Heap) (s' : Shared) : Prop where
  os : s'.os = s.os
  bare : AllBare s'.gens
  fly : ∃ t, Heap.FlyingW B outer ea cls (.ref t) s'.heap
  hok : HOk P w H' B
  un : Un (frs outer) [] H H' s.heap s'.heap
  cov : ∀ b o, s.heap.get? b = some o → H b = none → b ∉ frs outer → B.get? b = some o
  cov2 : ∀ b o, s.heap.get? b = some o → b ∉ frs outer → ∃ o', B.get? b = some o'
def CXo (P : Program) (w : World) : CXT := fun outer H s E e s' => ∃ (ea : Addr) (cls : Value) (H' : Hp) (B : Heap), e = .ref ea ∧ Fly P w outer H s ea cls H' B s' ∧ E cls none H'
section
variable {P : Program} {w : World} {outer : List Env} {H H' : Hp} {s s' : Shared} {ea : Addr} {cls : Value} {B : Heap}
theorem Fly.turn (F : Fly P w outer H s ea cls H' B s') {h2 : Heap} {t : Addr} (f2 : Heap.FlyingW B outer ea cls (.ref t) h2) (k : s'.heap.UpToSlots h2) : Fly P w outer H s ea cls H' B { s' with heap := h2 } := by
  obtain ⟨t0, f⟩ := F.fly
  have frm : ∀ b ∈ frs outer, ∃ o, s'.heap.get? b = some o ∧ ∀ vs, o.data ≠ .fields vs := fun b hb => (f.2.2.1.mem hb).2
  refine ⟨F.os, F.bare, ⟨t, f2⟩, F.hok, ⟨fun b o q n hb hx => f2.1 b o (F.cov b o q n hb), fun b o q n hb hx => ?_, F.un.free, fun b o q hx => ?_, F.un.tups, F.un.frzs, F.un.tbls⟩, F.cov, F.cov2⟩
  · obtain ⟨sl, e1⟩ := F.un.slot b o q n hb hx
    obtain ⟨o', e2, nf⟩ := frm b hb
    rw [e1] at e2; cases e2
    obtain ⟨sl2, e3⟩ := k b _ e1 nf
    exact ⟨sl2, e3⟩
  · by_cases hb : b ∈ frs outer
    · obtain ⟨o', e2, nf⟩ := frm b hb
      obtain ⟨sl2, e3⟩ := k b _ e2 nf
      exact ⟨_, e3⟩
    · obtain ⟨o', e⟩ := F.cov2 b o q hb
      exact ⟨o', f2.1 b o' e⟩
theorem Fly.hok' (F : Fly P w outer H s ea cls H' B s') : HOk P w H' s'.heap := by
  obtain ⟨t0, f⟩ := F.fly
  exact F.hok.kept fun b u q => f.1 b u q
theorem Fly.new (F : Fly P w outer H s ea cls H' B s') : H' ea = none := by
  obtain ⟨t0, f⟩ := F.fly
  exact F.hok.not_at f.2.1
end
structure Own (X : Cx) : Prop where
  stk : X.stack = X.env :: X.outer
  fr : X.env.frame = some X.env.locals
  ex : X.ex = []
section
variable {X : Cx} {pins : List (Addr × Obj)} {σ : St} {H : Hp} {s : Shared}
theorem Inv.offFrame (O : Own X) (I : Inv X pins σ H s) {b : Addr} {o : Obj} (e : X.s₀.heap.get? b = some o) (hb : b ∉ frs X.outer) : b ∉ frs X.stack := fun z => by
  rcases List.mem_cons.mp (I.stkSub b z) with q | q
  · exact absurd (Nat.lt_of_lt_of_le (Heap.lt_size e) I.ok.above) (by rw [q]; exact Nat.lt_irrefl _)
  · exact hb q
theorem Inv.fly (O : Own X) (I : Inv X pins σ H s) {h2 B : Heap} {e t : Addr} {cls : Value} (hB : ∀ b o, s.heap.get? b = some o → b ∉ frs X.stack → B.get? b = some o) (hs : ∀ b o, s.heap.get? b = some o → (∀ vs, o.data ≠ .fields vs) → ∃ sl, h2.get? b = some { o with slots := sl })
    (f : Heap.FlyingW B X.outer e cls (.ref t) h2) : Fly X.prog X.w X.outer X.H₀ X.s₀ e cls H B { s with heap := h2 } := by
  have ox : ∀ b : Addr, b ∉ X.ex := fun b z => by rw [O.ex] at z; cases z
  have frm : ∀ b ∈ frs X.stack, ∃ o, s.heap.get? b = some o ∧ ∀ vs, o.data ≠ .fields vs := fun b hb => (I.stack.mem hb).2
  have sub : ∀ b ∈ frs X.outer, b ∈ frs X.stack := fun b hb => by
    rw [O.stk]
    unfold frs
    rw [List.filterMap_cons, O.fr]
    exact List.mem_cons_of_mem _ hb
  have cov : ∀ b o, X.s₀.heap.get? b = some o → X.H₀ b = none → b ∉ frs X.outer → B.get? b = some o := fun b o q n hb => hB b o (I.base.keep b o q n hb (ox b)) (I.offFrame O q hb)
  have cov2 : ∀ b o, X.s₀.heap.get? b = some o → b ∉ frs X.outer → ∃ o', B.get? b = some o' := fun b o q hb => by
    obtain ⟨o', e1⟩ := I.base.there b o q (ox b)
    exact ⟨o', hB b o' e1 (I.offFrame O q hb)⟩
  refine ⟨I.os, I.bare, ⟨t, f⟩, I.hok.sub fun b u hb q => hB b u q fun z => hb (I.stkFree b z), ⟨fun b o q n hb hx => f.1 b o (cov b o q n hb), fun b o q n hb hx => ?_, fun b o q n hx => I.base.free b o q n (ox b), fun b o q hx => ?_, I.base.tups, I.base.frzs, I.base.tbls⟩, cov, cov2⟩
  · obtain ⟨sl, e1⟩ := I.base.slot b o q n hb (ox b)
    obtain ⟨o', e2, nf⟩ := frm b (sub b hb)
    rw [e1] at e2; cases e2
    obtain ⟨sl2, e3⟩ := hs b _ e1 nf
    exact ⟨sl2, e3⟩
  · by_cases hb : b ∈ frs X.outer
    · obtain ⟨o', e2, nf⟩ := frm b (sub b hb)
      obtain ⟨sl2, e3⟩ := hs b _ e2 nf
      exact ⟨_, e3⟩
    · obtain ⟨o', e⟩ := cov2 b o q hb
      exact ⟨o', f.1 b o' e⟩
theorem Fly.on (O : Own X) (I : Inv X pins σ H s) {H' : Hp} {s' : Shared} {ea t : Addr} {cls : Value} {B h2 : Heap} (F : Fly X.prog X.w X.stack H s ea cls H' B s') (f : Heap.FlyingW B X.outer ea cls (.ref t) h2) (k : s'.heap.UpToSlots h2) :
    Fly X.prog X.w X.outer X.H₀ X.s₀ ea cls H' B { s' with heap := h2 } := by
  have ox : ∀ b : Addr, b ∉ X.ex := fun b z => by rw [O.ex] at z; cases z
  obtain ⟨t0, f0⟩ := F.fly
  have frm : ∀ b ∈ frs X.stack, ∃ o, s'.heap.get? b = some o ∧ ∀ vs, o.data ≠ .fields vs := fun b hb => (f0.2.2.1.mem hb).2
  have sub : ∀ b ∈ frs X.outer, b ∈ frs X.stack := fun b hb => by
    rw [O.stk]
    unfold frs
    rw [List.filterMap_cons, O.fr]
    exact List.mem_cons_of_mem _ hb
  have cov : ∀ b o, X.s₀.heap.get? b = some o → X.H₀ b = none → b ∉ frs X.outer → B.get? b = some o := fun b o q n hb =>
    F.cov b o (I.base.keep b o q n hb (ox b)) (I.base.free b o q n (ox b)) (I.offFrame O q hb)
  have cov2 : ∀ b o, X.s₀.heap.get? b = some o → b ∉ frs X.outer → ∃ o', B.get? b = some o' := fun b o q hb => by
    obtain ⟨o', e1⟩ := I.base.there b o q (ox b)
    exact F.cov2 b o' e1 (I.offFrame O q hb)
  refine ⟨F.os.trans I.os, F.bare, ⟨t, f⟩, F.hok, ⟨fun b o q n hb hx => f.1 b o (cov b o q n hb), fun b o q n hb hx => ?_, fun b o q n hx => ?_, fun b o q hx => ?_, fun b xs e => F.un.tups b xs (I.base.tups b xs e),
    fun b o xs e => F.un.frzs b o xs (I.base.frzs b o xs e), fun b ps e => ?_⟩, cov, cov2⟩
  · obtain ⟨sl, e1⟩ := I.base.slot b o q n hb (ox b)
    obtain ⟨sl1, e2⟩ := F.un.slot b _ e1 (I.stkFree b (sub b hb)) (sub b hb) (by simp)
    obtain ⟨o', e3, nf⟩ := frm b (sub b hb)
    rw [e2] at e3; cases e3
    obtain ⟨sl2, e4⟩ := k b _ e2 nf
    exact ⟨sl2, e4⟩
  · obtain ⟨o', e1⟩ := I.base.there b o q (ox b)
    exact F.un.free b o' e1 (I.base.free b o q n (ox b)) (by simp)
  · by_cases hb : b ∈ frs X.outer
    · obtain ⟨o', e2, nf⟩ := frm b (sub b hb)
      obtain ⟨sl2, e3⟩ := k b _ e2 nf
      exact ⟨_, e3⟩
    · obtain ⟨o', e⟩ := cov2 b o q hb
      exact ⟨o', f.1 b o' e⟩
  · obtain ⟨m1, e1⟩ := I.base.tbls b ps e
    obtain ⟨m2, e2⟩ := F.un.tbls b _ e1
    exact ⟨m1 ++ m2, by rw [e2, Array.append_assoc]⟩
end
def Flies (X : Cx) (E : XK) : Prop := ∀ (pins : List (Addr × Obj)) (σ : St) (H : Hp) (s : Shared) (h' : Heap) (e : Addr) (cls : Value) (vs : List Value), Inv X pins σ H s → Heap.MadeExcOf s.heap h' e cls vs → E cls none H → X.xe (.ref e) { s with heap := h' }
section
variable {P : Program} {w : World} {K : PySem.W.Frag} {mg : Str → Option Value} {base : Heap} {N : List Str} {qual : Str} {scope : Scope} {f : Addr} {cd : Value} {A : Around} {outer : List Env} {s : Shared} {H : Hp} {E : XK} {CX : CXT}
theorem own_cx : Own (cxOf CX P w K mg base N qual scope f cd A outer s H E) := ⟨rfl, rfl, rfl⟩
theorem flies_o : Flies (cxOf (CXo P w) P w K mg base N qual scope f cd A outer s H E) E := by
  intro pins σ H1 s1 h' e cls vs I hx hE
  have O : Own (cxOf (CXo P w) P w K mg base N qual scope f cd A outer s H E) := own_cx
  have hin : ∀ env ∈ (cxOf (CXo P w) P w K mg base N qual scope f cd A outer s H E).stack, ∀ b, env.frame = some b → b ∈ frs (cxOf (CXo P w) P w K mg base N qual scope f cd A outer s H E).stack := fun env he b hb => List.mem_filterMap.mpr ⟨env, he, hb⟩
  refine wpAny_leaves_madeW (base := PySem.W.hideAll s1.heap (frs (cxOf (CXo P w) P w K mg base N qual scope f cd A outer s H E).stack)) (h := s1.heap) I.ok.frames rfl (fun b o q => PySem.W.of_hideAll _ q) (PySem.W.funFrames_hide I.stack hin) hx fun h2 t x1 x2 x3 x4 => ?_
  refine ⟨e, cls, H1, _, rfl, I.fly O (fun b o q nm => PySem.W.hideAll_get _ q nm) (fun b o q nf => x4 b o (hx.keeps b o q) nf) x1, hE⟩
theorem pass_o {E' : XK} (hE : ∀ c d H', E' c d H' → E c d H') : Passes (CXo P w) (cxOf (CXo P w) P w K mg base N qual scope f cd A outer s H E) E' := by
  intro pins σ H1 s1 e s' I hc
  have O : Own (cxOf (CXo P w) P w K mg base N qual scope f cd A outer s H E) := own_cx
  obtain ⟨ea, cls, H', B, rfl, F, q⟩ := hc
  obtain ⟨t, fl⟩ := F.fly
  refine wpAny_leaves_onW I.ok.frames rfl fl fun h2 f2 k => ?_
  exact ⟨ea, cls, H', B, rfl, Fly.on O I F f2 k, hE _ _ _ q⟩
end
end L2
set_option Elab.async false
set_option linter.all false
set_option maxRecDepth 100000
set_option maxHeartbeats 4000000
namespace L2
open PySem PySem.Spec PyProof.Rows
structure ExCls (K : PySem.W.Frag) (C : Addr) : Prop where
  ok : PySem.W.excIn K C [.type "ValueError", .type "Exception", .type "BaseException", .type "object"] "ValueError.__new__" = true
theorem ExCls.obj {K : PySem.W.Frag} {C : Addr} (x : ExCls K C) {h : Heap} (X : K.In h) (mg : Str → Option Value) (hm : mg "C" = some (.ref C)) :
    OwnCls "C" C [.type "ValueError", .type "Exception", .type "BaseException", .type "object"] "ValueError.__new__" mg h := by
  refine ⟨hm, ?_⟩
  have q := x.ok
  unfold PySem.W.excIn at q
  split at q
  case h_2 => cases q
  case h_1 dd cd sl ho =>
    split at q
    case h_2 => cases q
    case h_1 C' bm k0 k1 k2 k3 n k5 hmr hs =>
      simp only [Bool.and_eq_true, beq_iff_eq, Bool.not_eq_true'] at q
      obtain ⟨⟨⟨⟨⟨q1, q2⟩, q3⟩, q4⟩, q5⟩, q6⟩ := q
      subst q1 q2
      obtain ⟨nm, bs, mro, ns, qn, hd, sn, sub, ab, col, del⟩ := cd
      dsimp only at hmr q3 q5 q6
      subst hmr q3
      have es : sl = #[k0, k1, k2, k3, some (.builtin "ValueError.__new__"), k5] := Array.toList_inj.mp (by rw [hs])
      subst es
      exact ⟨bm, ns, nm, qn, bs, hd, sn, sub, ab, col, dd, k0, k1, k2, k3, k5, _, X _ _ ho, .of_isNs (PySem.W.isNs_of_in X q5), PySem.W.nsMap_none_of_in X q5 q6, PySem.W.tail_of_in X q4⟩
def tRaise (C : Addr) (t : TA) (E : XK) : TS := fun _ σ H => t σ H fun vs H1 => vs.length ≤ sizeLine ∧ E (.ref C) none H1
section
variable {X : Cx}
theorem ps_raise {x : Str} {C : Addr} {np cpos pos : Pos} {e₀ : Expr} {rest : List Expr} {t : TA} {E : XK} (hc : X.calm = true) (c : ExCls X.K C) (hg : Gl X x) (hm : X.mg x = some (.ref C)) (ha : PA X (e₀ :: rest) t) (hE : Flies X E)
    (he : starEach (e₀ :: rest) X.env = (false, eval e₀ X.env) :: starEach rest X.env := by rfl) (hplain : (backTo cpos (starEach rest X.env)).any (·.1) = false := by rfl)
    (hd : (x == ("__debug__" : Str)) = false := by decide) :
    PS X (.Raise (some (.Call (.Name x np) (e₀ :: rest) [] cpos)) none pos) (tRaise C t E) := by
  intro pins s σ H D I h
  obtain ⟨tl, N, nm, q, bs, hdct, sn, sub, ab, col, dd, k0, k1, k2, k3, k5, mN, hC, hN, hni, T⟩ := (c.obj I.mod.kin (fun _ => some (.ref C)) rfl).obj
  refine wpAny_Raise_call_subT (C := C) (nm := nm) (q := q) (N := N) (bs := bs) (bm := tl) (hdct := hdct) (sn := sn) (sub := sub) (ab := ab) (col := col) (dd := dd) (k0 := k0) (k1 := k1) (k2 := k2) (k3 := k3) (k5 := k5)
    PySem.F.excBase_ValueError (mN := mN) (T.hasType PySem.F.excBase_ValueError.hasBase) (I.ok.hd hc) (by rw [he]; show (false || (backTo cpos (starEach rest X.env)).any (·.1)) = false; rw [hplain]; rfl) hni (ld_glob I hg hm ⟨rfl, ?_⟩ hd)
  have h' := ha cpos pins s σ H _ I h
  rw [he] at h' ⊢
  refine Calls.evalArgs_plain (wpAny_mono h' (fun vs s2 ⟨ws, H2, I2, r, q⟩ => ?_) fun _ _ y => y)
  refine ⟨rfl, by rw [← r.length]; exact q.1, I2.bk _ _ hC, hN.keeps I2.bk, T.keeps I2.bk, fun h' e hx => ?_⟩
  exact hE pins σ H2 s2 h' e _ vs I2 hx q.2
end
abbrev TX := St → Hp → VK → XK → Prop
def PX (X : Cx) (e : Expr) (t : TX) : Prop := ∀ (pins : List (Addr × Obj)) (s : Shared) (σ : St) (H : Hp) (Q : VK) (E : XK), Inv X pins σ H s → t σ H Q E →
  wpAny (model X.prog X.w) X.A (eval e X.env) (EP X pins σ Q) (fun ev s' => ∃ H1 s1, Inv X pins σ H1 s1 ∧ CXo X.prog X.w X.stack H1 s1 E ev s') s
section
variable {X : Cx}
end
def Cx.marked (X : Cx) (e : Addr) : Cx := { X with A := X.A.mark (some (.ref e)), calm := false, xe := fun _ _ => False }
def xobj (a : Addr) (cls : Value) : HO := .ext fun h => ∃ o vs, h.get? a = some o ∧ o.cls = cls ∧ o.data = .fields vs
theorem xobj_ok {P : Program} {w : World} {H : Hp} {h : Heap} {a : Addr} {cls : Value} (x : ∃ o vs, h.get? a = some o ∧ o.cls = cls ∧ o.data = .fields vs) : ObjOk P w H h a (xobj a cls) := by
  refine ⟨x, ?_, fun h1 h2 ⟨o, vs, e, c, d⟩ k => ⟨o, vs, k o e, c, d⟩⟩
  obtain ⟨o, _, e, _⟩ := x
  exact ⟨o, e⟩
section
variable {X : Cx} {pins : List (Addr × Obj)} {σ : St} {H : Hp} {s : Shared}
theorem Inv.mark (I : Inv X pins σ H s) (e : Addr) : Inv (X.marked e) pins σ H s :=
  ⟨⟨I.ok.mod, I.ok.kind, I.ok.glob, I.ok.blt, I.ok.above, I.ok.inj, I.ok.has, I.ok.cab, (fun z => by cases z), I.ok.frames, I.ok.stk, I.ok.exf, I.ok.bs, I.ok.bsz, I.ok.noex, I.ok.exfs, I.ok.funs, I.ok.frf⟩, I.os, I.bare, I.base, I.loc, I.cell, I.free, I.freeC, I.pin, I.hok, I.len⟩
theorem Inv.unmark {e : Addr} (I : Inv (X.marked e) pins σ H s) (hd : X.calm = true → X.A.handled = none) : Inv X pins σ H s :=
  ⟨⟨I.ok.mod, I.ok.kind, I.ok.glob, I.ok.blt, I.ok.above, I.ok.inj, I.ok.has, I.ok.cab, hd, I.ok.frames, I.ok.stk, I.ok.exf, I.ok.bs, I.ok.bsz, I.ok.noex, I.ok.exfs, I.ok.funs, I.ok.frf⟩, I.os, I.bare, I.base, I.loc, I.cell, I.free, I.freeC, I.pin, I.hok, I.len⟩
end
end L2
set_option Elab.async false
set_option linter.all false
set_option maxRecDepth 100000
set_option maxHeartbeats 4000000
namespace L2
open PySem PySem.Spec PyProof.Rows
section
variable {X : Cx} {pins : List (Addr × Obj)} {σ : St} {H : Hp} {s : Shared}
theorem Inv.landed (I : Inv X pins σ H s) {H' : Hp} {s' : Shared} {ea : Addr} {cls : Value} {B : Heap} (F : Fly X.prog X.w X.stack H s ea cls H' B s') : Inv X pins σ (upd H' ea (xobj ea cls)) s' := by
  obtain ⟨t, f⟩ := F.fly
  have hn := F.new
  have hob : ∃ o vs, s'.heap.get? ea = some o ∧ o.cls = cls ∧ o.data = .fields vs := by
    obtain ⟨oe, vs, e, c, d, _⟩ := f.first
    exact ⟨oe, vs, e, c, d⟩
  have eB : ∀ b o, B.get? b = some o → b ≠ ea := fun b o e z => by rw [z, f.2.1] at e; cases e
  refine I.call' (ch := []) F.os ⟨F.un.keep, F.un.slot, fun b o q n hx => ?_, F.un.there, fun b xs q => ?_, fun b o u q => ?_, fun b ps q => ?_⟩ ?_ F.bare (fun b z => absurd z (by simp))
  · have hb : b ≠ ea := by
      by_cases hf : b ∈ frs X.stack
      · intro z
        obtain ⟨o', e2, nf⟩ := (f.2.2.1.mem hf).2
        obtain ⟨ob, vs, e3, _, d⟩ := hob
        rw [z] at e2
        rw [e2] at e3
        cases e3
        exact nf vs d
      · exact eB b o (F.cov b o q n hf)
    rw [upd_ne hb]
    exact F.un.free b o q n hx
  · rw [upd_ne (ne_of_none (F.un.tups b xs q) hn)]
    exact F.un.tups b xs q
  · rw [upd_ne (ne_of_none (F.un.frzs b o u q) hn)]
    exact F.un.frzs b o u q
  · obtain ⟨m, e⟩ := F.un.tbls b ps q
    exact ⟨m, by rw [upd_ne (ne_of_none e hn)]; exact e⟩
  · intro b u e
    by_cases hb : b = ea
    · subst hb
      rw [upd_same] at e
      cases e
      exact xobj_ok hob
    · rw [upd_ne hb] at e
      refine (F.hok' b u e).stay (fun _ _ _ q => q) (fun c q => ?_) fun c xs q => ?_
      · rw [upd_ne (ne_of_none q hn)]; exact q
      · rw [upd_ne (ne_of_none q hn)]; exact q
end
def tTry0 (K : PySem.W.Frag) (C : Addr) (t : TX) (th : Addr → TS) : TS := fun D σ H => t σ H (fun _ H1 => D.nx σ H1) fun cls _ H1 =>
  PySem.W.exmOne K cls (.ref C) = some true ∧ ∀ ea, H1 ea = none → th ea { nx := fun _ _ => False, rt := D.rt } σ (upd H1 ea (xobj ea cls))
section
variable {X : Cx}
theorem ps_try0 {c : Str} {C : Addr} {e : Expr} {b₀ : Stmt} {suite : List Stmt} {t : TX} {th : Addr → TS} {np epos hpos pos : Pos} (O : Own X) (hc : X.calm = true) (he : PX X e t) (hg : Gl X c) (hm : X.mg c = some (.ref C))
    (hb : ∀ ea, PSs (X.marked ea) (b₀ :: suite) (th ea)) (hs : swapsWith e none epos.line X.env = pure false := by rfl) (hd : (c == ("__debug__" : Str)) = false := by decide) :
    PS X (.Try [.Expr e epos] [.ExceptHandler (some (.Name c np)) none (b₀ :: suite) hpos] [] [] pos) (tTry0 X.K C t th) := by
  intro pins s σ H D I h
  refine wpAny_Try_except (wpAny_execs_cons ?_)
  refine wpAny_Expr_any (wpAny_mono (he pins s σ H _ _ I h) (fun v s1 ⟨x, H1, I1, r1, q1⟩ => wpAny_execs_nil (wpAny_execs_nil ⟨σ, H1, I1, q1⟩)) fun ev s1 q => ?_) I.quiet hs
  obtain ⟨H1, s0, I0, ea, cls, H', B, rfl, F, hx, q⟩ := q
  obtain ⟨t1, f1⟩ := F.fly
  refine wpAny_looks_onW (I0.ok.frames.trans (congrArg some O.stk)) O.fr (by rw [← O.stk]; exact f1) fun h2 held2 k2 => ?_
  refine wpAny_landsW held2 fun h3 fl3 k3 => ?_
  rw [← O.stk] at fl3
  have F3 := F.turn fl3 (k2.trans k3)
  have I3 := I0.landed F3
  refine wpAny_handleBy_cons (codeAny_handlers_test (ld_glob (X := X.marked ea) (I3.mark ea) hg hm ?_ hd)) (by intro z; cases z)
  obtain ⟨ob, hob, hcl⟩ := fl3.there
  refine (PySem.W.exm_one (M := model X.prog X.w) I3.kIn (by subst hcl; exact (PySem.W.Looks.ld hob).andThen .now) hx).here ?_
  refine codeAny_handlers_suite ?_
  refine lands_againW fl3 fun h4 fl4 k4 => ?_
  have F4 := F3.turn fl4 k4
  have I4 := (I0.landed F4).mark ea
  refine wpAny_mono (hb ea pins _ _ _ _ I4 (q ea F4.new)) (fun fl s6 q6 => ?_) fun _ _ z => False.elim z
  cases fl with
  | next => obtain ⟨σ6, H6, I6, q6⟩ := q6; exact False.elim q6
  | ret u =>
    obtain ⟨v, σ6, H6, I6, r, q6⟩ := q6
    exact ⟨v, σ6, H6, I6.unmark I.ok.hd, r, q6⟩
  | brk => obtain ⟨σ6, H6, I6, q6⟩ := q6; exact False.elim q6
  | cont => obtain ⟨σ6, H6, I6, q6⟩ := q6; exact False.elim q6
end
end L2
set_option Elab.async false
set_option linter.all false
set_option maxRecDepth 100000
set_option maxHeartbeats 4000000
namespace L2
open PySem PySem.Spec PySem.Calls PyProof.Rows PySem.W PySem.Builtin PySem.Builtin.ObjectAttr PySem.Builtin.Getset_descriptor
section
variable {prog : Program} {w : World} {A : Around} {E : Value → Shared → Prop} {K : PySem.W.Frag} {x C : Addr} {h : Heap} {g : Array GenState} {d : Drawn} {t : Nat} {os : OsState}
end
end L2
set_option Elab.async false
set_option linter.all false
set_option maxRecDepth 100000
set_option maxHeartbeats 4000000
namespace L2
open PySem PySem.Spec PySem.Calls PyProof.Rows PySem.W
def cV : V → Value
  | .ref a => .ref a
  | .ty n => .type n
  | _ => .none
theorem rel_cV {c : V} {u : Value} (r : RelV c u) (h : cV c ≠ .none) : u = cV c := by
  cases c <;> first | exact r | exact absurd rfl h
section
variable {X : Cx}
theorem op_mulI : OpR X (binaryOp .Mult) (rI IntMulOk fun i j => .int (i * j)) := opI fun _ _ _ _ _ _ _ hc q => mul_int q hc
end
structure Pyl (X : Cx) : Prop where
  tree : X.prog.given.tree = none
  fr : ∃ env l, X.stack = env :: l ∧ env.scope.isGenerator = false ∧ env.scope.isCoroutine = false ∧ env.builtins = builtinsNs ∧ env.globals = mainGlobals
  dp : X.A.depth + Builtin.pylongFrames < recursionLimit
theorem Pyl.room {X : Cx} (p : Pyl X) {pins : List (Addr × Obj)} {σ : St} {H : Hp} {s : Shared} (I : Inv X pins σ H s) : PylongRoom (model X.prog X.w) X.A s := by
  obtain ⟨env, l, h1, h2, h3, h4, h5⟩ := p.fr
  exact PylongRoom.of I.nolimit p.dp (SeerAt.of (I.ok.mod.seer.keeps I.bk) p.tree (I.ok.frames.trans (congrArg some h1)) h2 h3 h4 h5)
section
variable {X : Cx}
theorem op_fdivP (p : Pyl X) : OpR X (binaryOp .FloorDiv) (rI (fun _ j => j ≠ 0) fun i j => .int (i.fdiv j)) := by
  intro pins s σ H x y v u Q I rx ry h
  obtain ⟨i, j, rfl, rfl, hc, q⟩ := h
  obtain ⟨t, rfl⟩ := rx
  obtain ⟨t', rfl⟩ := ry
  exact floordiv_int hc ⟨.int (i.fdiv j), H, I.tok _, ⟨_, rfl⟩, q⟩ (Or.inr (p.room I))
end
end L2
set_option Elab.async false
set_option linter.all false
set_option maxRecDepth 100000
set_option maxHeartbeats 4000000
namespace L2
open PySem PySem.Spec PySem.Calls PyProof.Rows
def DefK (K : PySem.W.Frag) (mg : Str → Option Value) (x : Str) (st : Stmt) (ps : List Str) : Prop := ∃ f fd, Fun K x x st f fd ∧ mg x = some (.ref f) ∧ Binds K fd ps []
def OkF (P : Program) (w : World) (K : PySem.W.Frag) (mg : Str → Option Value) (base : Heap) (CX : CXT) (k : Nat) (x : Str) (ps : List Str) (sp : Sp) : Prop :=
  ∃ f fd, FnOk P w K mg base CX k f fd ps sp ∧ mg x = some (.ref f) ∧ PySem.W.keepIn K (.ref f) = true ∧ Binds K fd ps []
theorem def_mk {K : PySem.W.Frag} {h : Heap} {mg : Str → Option Value} (X : K.In h) (G : h.Ns mainGlobals mg) {x : Str} {st : Stmt} (ps : List Str) {f : Addr} {oc : Value} {od an : Option Addr} {osl : Array (Option Value)} {kV doc pm cdv ct : Value}
    (a : PySem.W.nsIn K mainGlobals x = some (some (.ref f))) (l : K.lookup f = some ⟨oc, od, .func (PySem.W.fnOf x x (defArgs st) (defBody st) (defScope st) .none kV doc pm an cdv ct), osl⟩)
    (c : PySem.W.codeIn K cdv x = true) (k : PySem.W.keepIn K (.ref f) = true)
    (hb : ∀ (kV doc pm : Value) (an : Option Addr) (cdv ct : Value) (us : List Value), us.length = ps.length → bindArgs (PySem.W.fnOf x x (defArgs st) (defBody st) (defScope st) .none kV doc pm an cdv ct) ⟨us, []⟩ = pure (ps.zip us)) : DefK K mg x st ps :=
  have F := fun_mk (st := st) l c k
  ⟨f, _, F, PySem.W.mg_of X G a, F.binds hb⟩
section
variable {P : Program} {w : World} {K : PySem.W.Frag} {mg : Str → Option Value} {base : Heap}
theorem DefK.ok {x : Str} {st : Stmt} {N ps : List Str} {k : Nat} {sp : Sp} (d : DefK K mg x st ps) (S : FnScope N ps (defScope st)) (len : ∀ vs H Q E, sp vs H Q E → vs.length = ps.length)
    (hbody : ∀ (f : Addr) (cdv : Value) (A : Around) (outer : List Env) (s : Shared) (H : Hp) (vs : List V) (Q : VK) (E : XK), Room k (A.deeper (envOfC x (defScope st) s.heap.objs.size f cdv)) → sp vs H Q E →
      ∃ t, PSs (cxOf CX0 P w K mg base N x (defScope st) f cdv A outer s H E).nox (defBody st) t ∧ t { nx := fun _ H' => Q .non H', rt := Q } (start N vs) H) : OkF P w K mg base CX0 (k + 1) x ps sp := by
  obtain ⟨f, fd, F, m, b⟩ := d
  exact ⟨f, fd, F.ok S len fun cdv A outer s H vs Q E hr h => hbody f cdv A outer s H vs Q E hr h, m, F.kp, b⟩
theorem DefK.okX {x : Str} {st : Stmt} {N ps : List Str} {k : Nat} {sp : Sp} (d : DefK K mg x st ps) (S : FnScope N ps (defScope st)) (len : ∀ vs H Q E, sp vs H Q E → vs.length = ps.length)
    (hbody : ∀ (f : Addr) (cdv : Value) (A : Around) (outer : List Env) (s : Shared) (H : Hp) (vs : List V) (Q : VK) (E : XK), Room k (A.deeper (envOfC x (defScope st) s.heap.objs.size f cdv)) → sp vs H Q E →
      ∃ t, PSs (cxOf (CXo P w) P w K mg base N x (defScope st) f cdv A outer s H E) (defBody st) t ∧ t { nx := fun _ H' => Q .non H', rt := Q } (start N vs) H) : OkF P w K mg base (CXo P w) (k + 1) x ps sp := by
  obtain ⟨f, fd, F, m, b⟩ := d
  obtain ⟨oc, od, kV, doc, pm, an, cdv, ct, osl, rfl, lk, hcd⟩ := F.ex
  exact ⟨f, _, fn_of lk hcd S len fun A outer s H vs Q E hr hsp => hbody f cdv A outer s H vs Q E hr hsp, m, F.kp, b⟩
end
section
variable {X : Cx} {x : Str} {ps : List Str} {sp : Sp} {k : Nat} {p pos : Pos} {e : Expr} {es : List Expr} {t : TA}
theorem pe_fn (o : OkF X.prog X.w X.K X.mg X.base CX0 k x ps sp) (hr : Room k X.A) (hg : Gl X x) (ha : PA X (e :: es) t) (hdb : (x == ("__debug__" : Str)) = false := by decide)
    (he : starEach (e :: es) X.env = (false, eval e X.env) :: starEach es X.env := by rfl) (hpl : (backTo pos (starEach es X.env)).any (·.1) = false := by rfl) : PE X (.Call (.Name x p) (e :: es) [] pos) (tCall sp [] E0 t) := by
  obtain ⟨f, fd, F, m, kp, b⟩ := o
  exact pe_call F hr hg m kp b .nil pass0 ha hdb he hpl
theorem pe_fnX {E : XK} (o : OkF X.prog X.w X.K X.mg X.base (CXo X.prog X.w) k x ps sp) (hx : Passes (CXo X.prog X.w) X E) (hr : Room k X.A) (hg : Gl X x) (ha : PA X (e :: es) t) (hdb : (x == ("__debug__" : Str)) = false := by decide)
    (he : starEach (e :: es) X.env = (false, eval e X.env) :: starEach es X.env := by rfl) (hpl : (backTo pos (starEach es X.env)).any (·.1) = false := by rfl) : PE X (.Call (.Name x p) (e :: es) [] pos) (tCall sp [] E t) := by
  obtain ⟨f, fd, F, m, kp, b⟩ := o
  exact pe_call F hr hg m kp b .nil hx ha hdb he hpl
end
theorem pyl_cx {CX : CXT} {P : Program} {w : World} {K : PySem.W.Frag} {mg : Str → Option Value} {base : Heap} {N : List Str} {qual : Str} {scope : Scope} {f : Addr} {cd : Value} {A : Around} {outer : List Env} {s : Shared} {H : Hp} {E : XK} {k : Nat}
    (ht : P.given.tree = none) (hg : scope.isGenerator = false) (hc : scope.isCoroutine = false) (hr : Room k (A.deeper (envOfC qual scope s.heap.objs.size f cd))) (hk : 32 ≤ k) :
    Pyl (cxOf CX P w K mg base N qual scope f cd A outer s H E) :=
  ⟨ht, ⟨_, _, rfl, hg, hc, rfl, rfl⟩, by have := hr.dp; show (A.deeper _).depth + 100 < _; omega⟩
theorem Pyl.nox {X : Cx} (p : Pyl X) : Pyl X.nox := ⟨p.tree, p.fr, p.dp⟩
end L2
set_option Elab.async false
set_option linter.all false
set_option maxRecDepth 100000
set_option maxHeartbeats 4000000
namespace L2
open PySem PySem.Spec PySem.Calls PyProof.Rows
end L2
set_option Elab.async false
set_option linter.all false
set_option maxRecDepth 100000
set_option maxHeartbeats 4000000
namespace L2
open PySem PySem.Spec PySem.Calls PyProof.Rows
section
variable {X : Cx} {pins : List (Addr × Obj)} {σ : St} {H : Hp} {s : Shared} {sc : Scope} {N XN : List Str} {nt : Nat} {caps : List Nat} {SX : Scope}
end
section
variable {X : Cx} {tg iter elt : Expr} {ifs : List Expr} {sc SX : Scope} {N XN : List Str} {nt : Nat} {caps : List Nat} {wi : TI} {g : CArg → TG} {tc : CArg → TT} {te : CArg → TE} {pos : Pos}
end
end L2
set_option Elab.async false
set_option linter.all false
set_option maxRecDepth 100000
set_option maxHeartbeats 4000000
namespace L2
open PySem PySem.Spec PySem.Calls PyProof.Rows
section
variable {X : Cx} {pins : List (Addr × Obj)} {σ : St} {H : Hp} {s : Shared}
end
section
variable {X : Cx} {es : List Expr} {x1 : Nat} {tpos : Pos}
end
end L2
set_option Elab.async false
set_option linter.all false
set_option maxRecDepth 100000
set_option maxHeartbeats 4000000
namespace L3
open PySem PySem.Spec PySem.Calls PyProof.Rows L2
inductive D where
  | non | bl (b : Bool) | int (i : Int) | str (x : Str) | raw (v : V)
  | tup (ds : List D) | lst (ds : List D)
  /-- dicts by keys that are ints and texts; by tuples of these; objects -/
  | dk (ks : List Key) (ds : List D) | dt (ks : List (List Key)) (ds : List D)
  | obj (C : Addr) (fs : List Str) (ds : List D)
  /-- an exception of the class at C -/
  | exc (C : Addr)
  /-- the script: a list of ints that is only read -/
  | scr (ns : List Int)
mutual
/-- v is d in the heap H -/
def Is (K : PySem.W.Frag) (H : Hp) : D → V → Prop
  | .non, v => v = .non
  | .bl b, v => v = .bl b
  | .int i, v => v = .int i
  | .str x, v => v = .str x
  | .raw u, v => v = u
  | .tup ds, v => ∃ a xs, v = .ref a ∧ SqT K H a xs ∧ IsL K H ds xs
  | .lst ds, v => ∃ a xs, v = .ref a ∧ Rd H a (.lst xs) ∧ IsL K H ds xs
  | .dk ks ds, v => ∃ a xs, v = .ref a ∧ H a = some (.dK (ks.zip xs)) ∧ ks.length = xs.length ∧ IsL K H ds xs
  | .dt ks ds, v => ∃ a xs, v = .ref a ∧ H a = some (.dT (ks.zip xs)) ∧ ks.length = xs.length ∧ IsL K H ds xs
  | .obj C fs ds, v => ∃ a dx xs, v = .ref a ∧ H a = some (.ins C dx (fs.zip xs)) ∧ fs.length = xs.length ∧ IsL K H ds xs
  | .exc C, v => ∃ a, v = .ref a ∧ H a = some (xobj a (.ref C))
  | .scr ns, v => ∃ a, v = .ref a ∧ SqL K H a (ns.map V.int)
def IsL (K : PySem.W.Frag) (H : Hp) : List D → List V → Prop
  | [], xs => xs = []
  | d :: ds, xs => ∃ x r, xs = x :: r ∧ Is K H d x ∧ IsL K H ds r
end
section
variable {K : PySem.W.Frag} {H H' : Hp}
theorem same_rd {a : Addr} {u : HO} (e : Same H H') (h : Rd H a u) : Rd H' a u := by
  rcases h with h | ⟨o, h⟩
  · exact .inl (e _ _ h)
  · exact .inr ⟨o, e _ _ h⟩
theorem same_tup {a : Addr} {xs : List V} (e : Same H H') (h : SqT K H a xs) : SqT K H' a xs := by
  rcases h with (h | ⟨o, h⟩) | h
  · exact .inl (.inl (e _ _ h))
  · exact .inl (.inr ⟨o, e _ _ h⟩)
  · exact .inr h
mutual
theorem Is.mono (e : Same H H') : ∀ {d : D} {v : V}, Is K H d v → Is K H' d v
  | .non, _, h => by simp only [Is] at h ⊢; exact h
  | .bl _, _, h => by simp only [Is] at h ⊢; exact h
  | .int _, _, h => by simp only [Is] at h ⊢; exact h
  | .str _, _, h => by simp only [Is] at h ⊢; exact h
  | .raw _, _, h => by simp only [Is] at h ⊢; exact h
  | .tup ds, _, h => by simp only [Is] at h ⊢; obtain ⟨a, xs, e1, e2, e3⟩ := h; exact ⟨a, xs, e1, same_tup e e2, IsL.mono e e3⟩
  | .lst ds, _, h => by simp only [Is] at h ⊢; obtain ⟨a, xs, e1, e2, e3⟩ := h; exact ⟨a, xs, e1, same_rd e e2, IsL.mono e e3⟩
  | .dk ks ds, _, h => by simp only [Is] at h ⊢; obtain ⟨a, xs, e1, e2, e4, e3⟩ := h; exact ⟨a, xs, e1, e _ _ e2, e4, IsL.mono e e3⟩
  | .dt ks ds, _, h => by simp only [Is] at h ⊢; obtain ⟨a, xs, e1, e2, e4, e3⟩ := h; exact ⟨a, xs, e1, e _ _ e2, e4, IsL.mono e e3⟩
  | .obj C fs ds, _, h => by simp only [Is] at h ⊢; obtain ⟨a, dx, xs, e1, e2, e4, e3⟩ := h; exact ⟨a, dx, xs, e1, e _ _ e2, e4, IsL.mono e e3⟩
  | .exc C, _, h => by simp only [Is] at h ⊢; obtain ⟨a, e1, e2⟩ := h; exact ⟨a, e1, e _ _ e2⟩
  | .scr ns, _, h => by simp only [Is] at h ⊢; obtain ⟨a, e1, e2⟩ := h; exact ⟨a, e1, e.seq e2⟩
theorem IsL.mono (e : Same H H') : ∀ {ds : List D} {xs : List V}, IsL K H ds xs → IsL K H' ds xs
  | [], _, h => by simp only [IsL] at h ⊢; exact h
  | d :: ds, _, h => by
    simp only [IsL] at h ⊢
    obtain ⟨x, r, e1, e2, e3⟩ := h
    exact ⟨x, r, e1, Is.mono e e2, IsL.mono e e3⟩
end
theorem IsL.nil : IsL K H [] [] := by simp only [IsL]
theorem IsL.cons {d : D} {ds : List D} {x : V} {xs : List V} (h : Is K H d x) (t : IsL K H ds xs) : IsL K H (d :: ds) (x :: xs) := by
  simp only [IsL]; exact ⟨x, xs, rfl, h, t⟩
theorem IsL.len : ∀ {ds : List D} {xs : List V}, IsL K H ds xs → xs.length = ds.length
  | [], _, h => by simp only [IsL] at h; subst h; rfl
  | d :: ds, _, h => by
    simp only [IsL] at h
    obtain ⟨x, r, rfl, _, t⟩ := h
    simp [IsL.len t]
theorem IsL.get : ∀ {ds : List D} {xs : List V} {i : Nat} {d : D}, IsL K H ds xs → ds[i]? = some d → ∃ x, xs[i]? = some x ∧ Is K H d x
  | [], _, _, _, _, e => by simp at e
  | d :: ds, _, 0, d', h, e => by
    simp only [IsL] at h
    obtain ⟨x, r, rfl, h1, _⟩ := h
    simp at e
    subst e
    exact ⟨x, rfl, h1⟩
  | d :: ds, _, i + 1, d', h, e => by
    simp only [IsL] at h
    obtain ⟨x, r, rfl, _, t⟩ := h
    exact IsL.get (i := i) t (by simpa using e)
theorem IsL.get_none {ds : List D} {xs : List V} {i : Nat} (h : IsL K H ds xs) (e : ds[i]? = none) : xs[i]? = none := by
  have := h.len
  rw [List.getElem?_eq_none_iff] at e ⊢
  omega
theorem IsL.get' {ds : List D} {xs : List V} {i : Nat} {x : V} (h : IsL K H ds xs) (e : xs[i]? = some x) : ∃ d, ds[i]? = some d ∧ Is K H d x := by
  cases q : ds[i]? with
  | none => rw [h.get_none q] at e; cases e
  | some d =>
    obtain ⟨y, e1, e2⟩ := h.get q
    rw [e] at e1
    cases e1
    exact ⟨d, rfl, e2⟩
end
structure Pur (F H F' H' : Hp) : Prop where
  ff : Same F F'
  fh : Same F' H'
  hh : Same H H'
  new : ∀ b, F' b ≠ none → F b ≠ none ∨ H b = none
theorem Pur.refl {F H : Hp} (h : Same F H) : Pur F H F H := ⟨Same.refl _, h, Same.refl _, fun _ q => .inl q⟩
theorem Pur.trans {F H F1 H1 F2 H2 : Hp} (a : Pur F H F1 H1) (b : Pur F1 H1 F2 H2) : Pur F H F2 H2 :=
  ⟨a.ff.trans b.ff, b.fh, a.hh.trans b.hh, fun c q => (b.new c q).elim (fun z => a.new c z) fun z => .inr (a.hh.free z)⟩
theorem Pur.lay {F H : Hp} (h : Same F H) {p : Addr} {o : HO} (hp : H p = none) : Pur F H (upd F p o) (upd H p o) := by
  have fp : F p = none := h.free hp
  refine ⟨fun b u e => ?_, fun b u e => ?_, fun b u e => ?_, fun b q => ?_⟩
  · rw [upd_ne (ne_of_none e fp)]; exact e
  · by_cases hb : b = p
    · subst hb; rw [upd_same] at e ⊢; exact e
    · rw [upd_ne hb] at e ⊢; exact h _ _ e
  · rw [upd_ne (ne_of_none e hp)]; exact e
  · by_cases hb : b = p
    · subst hb; exact .inr hp
    · rw [upd_ne hb] at q; exact .inl q
def Sl (K : PySem.W.Frag) (F : Hp) (Γ : List (Option D)) (σ : L2.St) : Prop := ∀ (i : Nat) (d : D), Γ[i]? = some (some d) → ∃ v, σ[i]? = some (some v) ∧ Is K F d v
theorem Sl.mono {K : PySem.W.Frag} {F F' : Hp} {Γ : List (Option D)} {σ : L2.St} (h : Sl K F Γ σ) (e : Same F F') : Sl K F' Γ σ := fun i d q => by
  obtain ⟨v, h1, h2⟩ := h i d q
  exact ⟨v, h1, h2.mono e⟩
def tP (K : PySem.W.Frag) (Γ : List (Option D)) (d : D) : TE := fun σ H Q => ∃ F, Same F H ∧ Sl K F Γ σ ∧ ∀ v H' F', Pur F H F' H' → Is K F' d v → Q v H'
def tPT (K : PySem.W.Frag) (Γ : List (Option D)) (b : Bool) : TT := fun σ H Q => ∃ F, Same F H ∧ Sl K F Γ σ ∧ ∀ H' F', Pur F H F' H' → Q b H'
def tPL (K : PySem.W.Frag) (Γ : List (Option D)) (ds : List D) : TA := fun σ H Q => ∃ F, Same F H ∧ Sl K F Γ σ ∧ ∀ vs H' F', Pur F H F' H' → IsL K F' ds vs → Q vs H'
def P3 (X : Cx) (Γ : List (Option D)) (e : Expr) (d : D) : Prop := PE X e (tP X.K Γ d)
def PT3 (X : Cx) (Γ : List (Option D)) (e : Expr) (b : Bool) : Prop := PT X e (tPT X.K Γ b)
def PL3 (X : Cx) (Γ : List (Option D)) (es : List Expr) (ds : List D) : Prop := PA X es (tPL X.K Γ ds)
theorem PE.of {X : Cx} {e : Expr} {t u : TE} (h : PE X e t) (i : ∀ σ H Q, u σ H Q → t σ H Q) : PE X e u := fun pins s σ H Q I hq => h pins s σ H Q I (i _ _ _ hq)
theorem PT.of {X : Cx} {e : Expr} {t u : TT} (h : PT X e t) (i : ∀ σ H Q, u σ H Q → t σ H Q) : PT X e u := fun pins s σ H Q I hq => h pins s σ H Q I (i _ _ _ hq)
theorem PA.of {X : Cx} {e : List Expr} {t u : TA} (h : PA X e t) (i : ∀ σ H Q, u σ H Q → t σ H Q) : PA X e u := fun p pins s σ H Q I hq => h p pins s σ H Q I (i _ _ _ hq)
section
variable {X : Cx} {Γ : List (Option D)} {a b c : Expr} {d d' : D} {pos : Pos}
theorem p_var {i : Nat} {x : Str} (hN : X.N[i]? = some x) (hv : Vis X.env.scope x) (hΓ : Γ[i]? = some (some d)) (hd : (x == ("__debug__" : Str)) = false := by decide) (hcd : (x == ("__classdict__" : Str)) = false := by decide) : P3 X Γ (.Name x pos) d :=
  PE.of (pe_var hN hv hd hcd) fun σ H Q ⟨F, fh, sl, k⟩ => by
    obtain ⟨v, e, h⟩ := sl i d hΓ
    exact ⟨v, e, k v H F (Pur.refl fh) h⟩
theorem p_int {i j} : P3 X Γ (.Constant (.int i) j pos) (.int i) := PE.of pe_int fun σ H Q ⟨F, fh, sl, k⟩ => k _ H F (Pur.refl fh) (by simp only [Is])
theorem p_bl {i j} : P3 X Γ (.Constant (.bool i) j pos) (.bl i) := PE.of pe_bl fun σ H Q ⟨F, fh, sl, k⟩ => k _ H F (Pur.refl fh) (by simp only [Is])
theorem p_str {i j} : P3 X Γ (.Constant (.str i) j pos) (.str i) := PE.of pe_str fun σ H Q ⟨F, fh, sl, k⟩ => k _ H F (Pur.refl fh) (by simp only [Is])
theorem p_glob {x : Str} {v : V} {u : Value} (hg : Gl X x) (hm : X.mg x = some u) (r : RelV v u) (hi : ∀ F, Is X.K F d v) (hd : (x == ("__debug__" : Str)) = false := by decide) : P3 X Γ (.Name x pos) d :=
  PE.of (pe_glob hg hm r hd) fun σ H Q ⟨F, fh, sl, k⟩ => k _ H F (Pur.refl fh) (hi F)
theorem p_bltn {x : Str} {v : V} {u : Value} (hg : Gl X x) (hm : X.mg x = none) (hv : bootBuiltins x = some u) (r : RelV v u) (hn : x ≠ "__name__" := by decide) (hd : (x == ("__debug__" : Str)) = false := by decide) : P3 X Γ (.Name x pos) (.raw v) :=
  PE.of (pe_bltn hg hm hv r hn hd) fun σ H Q ⟨F, fh, sl, k⟩ => k _ H F (Pur.refl fh) (by simp only [Is])
theorem tP2 {K : PySem.W.Frag} {σ : L2.St} {H : Hp} {R : V → V → Hp → Prop} (h : ∃ F, Same F H ∧ Sl K F Γ σ ∧ ∀ x y H2 F2, Pur F H F2 H2 → Is K F2 d x → Is K F2 d' y → R x y H2) :
    tP K Γ d σ H fun x H1 => tP K Γ d' σ H1 fun y H2 => R x y H2 := by
  obtain ⟨F, fh, sl, k⟩ := h
  exact ⟨F, fh, sl, fun x H1 F1 p1 i1 => ⟨F1, p1.fh, sl.mono p1.ff, fun y H2 F2 p2 i2 => k x y H2 F2 (p1.trans p2) (i1.mono p2.ff) i2⟩⟩
theorem p_opR {op : Operator} {r : R2} {d3 : D} (ho : OpR X (binaryOp op) r) (ha : P3 X Γ a d) (hb : P3 X Γ b d') (hr : ∀ x y H F Q, Same F H → Is X.K F d x → Is X.K F d' y → (∀ v H' F', Pur F H F' H' → Is X.K F' d3 v → Q v H') → r x y H Q) : P3 X Γ (.BinOp a op b pos) d3 :=
  PE.of (pe_op ho ha hb) fun σ H Q ⟨F, fh, sl, k⟩ => tP2 ⟨F, fh, sl, fun x y H2 F2 p i1 i2 => hr x y H2 F2 Q p.fh i1 i2 fun v H' F' p' i => k v H' F' (p.trans p') i⟩
theorem isI {K : PySem.W.Frag} {F : Hp} {i : Int} {v : V} (h : Is K F (.int i) v) : v = .int i := by simp only [Is] at h; exact h
theorem isB {K : PySem.W.Frag} {F : Hp} {i : Bool} {v : V} (h : Is K F (.bl i) v) : v = .bl i := by simp only [Is] at h; exact h
theorem isR {K : PySem.W.Frag} {F : Hp} {i v : V} (h : Is K F (.raw i) v) : v = i := by simp only [Is] at h; exact h
theorem p_opI {op : Operator} {C : Int → Int → Prop} {g : Int → Int → V} {i j : Int} {d3 : D} (ho : OpR X (binaryOp op) (rI C g)) (ha : P3 X Γ a (.int i)) (hb : P3 X Γ b (.int j)) (hc : C i j) (h3 : ∀ F, Is X.K F d3 (g i j)) : P3 X Γ (.BinOp a op b pos) d3 :=
  p_opR ho ha hb fun x y H F Q fh i1 i2 k => ⟨i, j, isI i1, isI i2, hc, k _ H F (Pur.refl fh) (h3 F)⟩
theorem p_opI0 {op : Operator} {g : Int → Int → V} {i j : Int} {d3 : D} (ho : OpR X (binaryOp op) (rI0 g)) (ha : P3 X Γ a (.int i)) (hb : P3 X Γ b (.int j)) (h3 : ∀ F, Is X.K F d3 (g i j)) : P3 X Γ (.BinOp a op b pos) d3 :=
  p_opR ho ha hb fun x y H F Q fh i1 i2 k => ⟨i, j, isI i1, isI i2, k _ H F (Pur.refl fh) (h3 F)⟩
theorem i_int {K : PySem.W.Frag} {i : Int} : ∀ F, Is K F (.int i) (.int i) := fun _ => by simp only [Is]
theorem i_bl {K : PySem.W.Frag} {i : Bool} : ∀ F, Is K F (.bl i) (.bl i) := fun _ => by simp only [Is]
theorem i_raw {K : PySem.W.Frag} {i : V} : ∀ F, Is K F (.raw i) i := fun _ => by simp only [Is]
theorem i_non {K : PySem.W.Frag} : ∀ F, Is K F .non .non := fun _ => by simp only [Is]
variable {i j : Int}
theorem p_add (ha : P3 X Γ a (.int i)) (hb : P3 X Γ b (.int j)) : P3 X Γ (.BinOp a .Add b pos) (.int (i + j)) := p_opI0 op_add ha hb i_int
theorem p_sub (ha : P3 X Γ a (.int i)) (hb : P3 X Γ b (.int j)) : P3 X Γ (.BinOp a .Sub b pos) (.int (i - j)) := p_opI0 op_sub ha hb i_int
theorem p_mul (ha : P3 X Γ a (.int i)) (hb : P3 X Γ b (.int j)) (h : IntMulOk i j) : P3 X Γ (.BinOp a .Mult b pos) (.int (i * j)) := p_opI op_mulI ha hb h i_int
theorem p_mod (ha : P3 X Γ a (.int i)) (hb : P3 X Γ b (.int j)) (h : 0 < j) : P3 X Γ (.BinOp a .Mod b pos) (.int (i % j)) := p_opI op_mod ha hb h i_int
theorem p_fdivP (py : Pyl X) (ha : P3 X Γ a (.int i)) (hb : P3 X Γ b (.int j)) (h : 0 < j) : P3 X Γ (.BinOp a .FloorDiv b pos) (.int (i / j)) :=
  p_opI (op_fdivP py) ha hb (by omega) (fun F => by rw [Int.fdiv_eq_ediv_of_nonneg _ (Int.le_of_lt h)]; exact i_int F)
theorem p_pow (ha : P3 X Γ a (.int i)) (hb : P3 X Γ b (.int j)) (h : CPow i j) : P3 X Γ (.BinOp a .Pow b pos) (.int (i ^ j.toNat)) := p_opI op_pow ha hb h i_int
end
theorem atI_is {K : PySem.W.Frag} {F : Hp} {ds : List D} {xs : List V} {i : Int} {d : D} (h : IsL K F ds xs) (e : atI ds i = some d) : ∃ x, atI xs i = some x ∧ Is K F d x := by
  unfold atI at e ⊢
  rw [h.len]
  cases q : ixN ds.length i with
  | none => rw [q] at e; cases e
  | some j =>
    rw [q] at e
    exact h.get (i := j) e
section
variable {X : Cx} {Γ : List (Option D)} {a b c : Expr} {d d' : D} {pos : Pos} {i : Int} {ds : List D}
theorem p_ixR {r : R2} {d3 : D} (ho : IxR X r) (ha : P3 X Γ a d) (hb : P3 X Γ b d') (hr : ∀ x y H F Q, Same F H → Is X.K F d x → Is X.K F d' y → (∀ v H' F', Pur F H F' H' → Is X.K F' d3 v → Q v H') → r x y H Q) (hs : PlainIx b) : P3 X Γ (.Subscript a b pos) d3 :=
  PE.of (pe_ix ho ha hb hs) fun σ H Q ⟨F, fh, sl, k⟩ => tP2 ⟨F, fh, sl, fun x y H2 F2 p i1 i2 => hr x y H2 F2 Q p.fh i1 i2 fun v H' F' p' i => k v H' F' (p.trans p') i⟩
theorem p_ixT (ha : P3 X Γ a (.tup ds)) (hb : P3 X Γ b (.int i)) (he : atI ds i = some d) (hs : PlainIx b := by exact fun _ _ => rfl) : P3 X Γ (.Subscript a b pos) d :=
  p_ixR ix_tup ha hb (fun x y H F Q fh i1 i2 k => by
    simp only [Is] at i1 i2
    obtain ⟨p, xs, rfl, h1, h2⟩ := i1
    obtain ⟨v, e1, e2⟩ := atI_is h2 he
    exact ⟨p, xs, i, v, rfl, i2, same_tup fh h1, e1, k v H F (Pur.refl fh) e2⟩) hs
variable {e : Expr} {es : List Expr}
theorem pl_nil : PL3 X Γ [] [] := PA.of pa_nil fun σ H Q ⟨F, fh, sl, k⟩ => k [] H F (Pur.refl fh) IsL.nil
theorem pl_cons (ha : P3 X Γ e d) (hr : PL3 X Γ es ds) (hs : starEach (e :: es) X.env = (false, eval e X.env) :: starEach es X.env := by rfl) : PL3 X Γ (e :: es) (d :: ds) :=
  PA.of (pa_cons ha hr hs) fun σ H Q ⟨F, fh, sl, k⟩ => ⟨F, fh, sl, fun x H1 F1 p1 i1 => ⟨F1, p1.fh, sl.mono p1.ff, fun xs H2 F2 p2 i2 => k (x :: xs) H2 F2 (p1.trans p2) (IsL.cons (i1.mono p2.ff) i2)⟩⟩
theorem p_tup {x1} (h : PL3 X Γ es ds) (hz : ds.length ≤ sizeLine := by (simp only [List.length_cons, List.length_nil]; decide)) : P3 X Γ (.Tuple es x1 pos) (.tup ds) :=
  PE.of (pe_tup h) fun σ H Q ⟨F, fh, sl, k⟩ => ⟨F, fh, sl, fun xs H1 F1 p1 i1 => ⟨by rw [i1.len]; exact hz, fun p hp => k _ _ _ (p1.trans (Pur.lay p1.fh hp)) (by
    simp only [Is]
    exact ⟨p, xs, rfl, .inl (.inl upd_same), i1.mono (Pur.lay p1.fh hp).ff⟩)⟩⟩
end
end L3
set_option Elab.async false
set_option linter.all false
set_option maxRecDepth 100000
set_option maxHeartbeats 4000000
namespace L3
open PySem PySem.Spec PySem.Calls PyProof.Rows L2
mutual
def beqD : D → D → Bool
  | .non, .non => true
  | .bl a, .bl b => a == b
  | .int a, .int b => a == b
  | .str a, .str b => a == b
  | .tup a, .tup b => beqL a b
  | .lst a, .lst b => beqL a b
  | _, _ => false
def beqL : List D → List D → Bool
  | [], [] => true
  | a :: as, b :: bs => beqD a b && beqL as bs
  | _, _ => false
end
mutual
/-- plain values: no dicts, no objects -/
def pln : D → Bool
  | .non => true
  | .bl _ => true
  | .int _ => true
  | .str _ => true
  | .tup a => plnL a
  | .lst a => plnL a
  | _ => false
def plnL : List D → Bool
  | [] => true
  | a :: as => pln a && plnL as
end
mutual
/-- of one kind wherever they are compared -/
def kin : D → D → Bool
  | .non, .non => true
  | .bl _, .bl _ => true
  | .int _, .int _ => true
  | .str _, .str _ => true
  | .tup a, .tup b => kins a b
  | .lst a, .lst b => kins a b
  | _, _ => false
def kins : List D → List D → Bool
  | a :: as, b :: bs => kin a b && kins as bs
  | _, _ => true
end
mutual
def dep : D → Nat
  | .tup a => depL a + 1
  | .lst a => depL a + 1
  | _ => 0
def depL : List D → Nat
  | [] => 0
  | a :: as => max (dep a) (depL as)
end
theorem kin_inv {d e : D} (h : kin d e = true) : (d = .non ∧ e = .non) ∨ (∃ a b, d = .bl a ∧ e = .bl b) ∨ (∃ a b, d = .int a ∧ e = .int b) ∨ (∃ a b, d = .str a ∧ e = .str b) ∨ (∃ a b, d = .tup a ∧ e = .tup b ∧ kins a b = true) ∨ (∃ a b, d = .lst a ∧ e = .lst b ∧ kins a b = true) := by
  rw [kin.eq_def] at h
  split at h
  · exact .inl ⟨rfl, rfl⟩
  · exact .inr (.inl ⟨_, _, rfl, rfl⟩)
  · exact .inr (.inr (.inl ⟨_, _, rfl, rfl⟩))
  · exact .inr (.inr (.inr (.inl ⟨_, _, rfl, rfl⟩)))
  · exact .inr (.inr (.inr (.inr (.inl ⟨_, _, rfl, rfl, h⟩))))
  · exact .inr (.inr (.inr (.inr (.inr ⟨_, _, rfl, rfl, h⟩))))
  · exact absurd h (by decide)
mutual
theorem beqD_refl : ∀ {d : D}, pln d = true → beqD d d = true
  | .non, _ => by simp [beqD]
  | .bl _, _ => by simp [beqD]
  | .int _, _ => by simp [beqD]
  | .str _, _ => by simp [beqD]
  | .tup a, h => by rw [beqD]; rw [pln] at h; exact beqL_refl h
  | .lst a, h => by rw [beqD]; rw [pln] at h; exact beqL_refl h
  | .raw _, h => by simp [pln] at h
  | .dk _ _, h => by simp [pln] at h
  | .dt _ _, h => by simp [pln] at h
  | .obj _ _ _, h => by simp [pln] at h
  | .exc _, h => by simp [pln] at h
  | .scr _, h => by simp [pln] at h
theorem beqL_refl : ∀ {d : List D}, plnL d = true → beqL d d = true
  | [], _ => by simp [beqL]
  | a :: as, h => by
    rw [plnL, Bool.and_eq_true] at h
    rw [beqL, beqD_refl h.1, beqL_refl h.2]; rfl
end
mutual
theorem beqD_eq : ∀ {d e : D}, beqD d e = true → d = e
  | .non, e, h => by cases e <;> simp [beqD] at h ⊢
  | .bl _, e, h => by cases e <;> simp [beqD] at h ⊢; exact h
  | .int _, e, h => by cases e <;> simp [beqD] at h ⊢; exact h
  | .str _, e, h => by cases e <;> simp [beqD] at h ⊢; exact h
  | .tup a, e, h => by cases e <;> simp only [beqD, Bool.false_eq_true] at h; rw [beqL_eq h]
  | .lst a, e, h => by cases e <;> simp only [beqD, Bool.false_eq_true] at h; rw [beqL_eq h]
  | .raw _, e, h => by cases e <;> simp [beqD] at h
  | .dk _ _, e, h => by cases e <;> simp [beqD] at h
  | .dt _ _, e, h => by cases e <;> simp [beqD] at h
  | .obj _ _ _, e, h => by cases e <;> simp [beqD] at h
  | .exc _, e, h => by cases e <;> simp [beqD] at h
  | .scr _, e, h => by cases e <;> simp [beqD] at h
theorem beqL_eq : ∀ {d e : List D}, beqL d e = true → d = e
  | [], e, h => by cases e <;> simp [beqL] at h ⊢
  | a :: as, e, h => by
    cases e with
    | nil => simp [beqL] at h
    | cons b bs =>
      rw [beqL, Bool.and_eq_true] at h
      rw [beqD_eq h.1, beqL_eq h.2]
end
theorem beqD_ne {d e : D} (h : d ≠ e) : beqD d e = false := by
  cases q : beqD d e with
  | false => rfl
  | true => exact absurd (beqD_eq q) h
theorem beqL_all : ∀ (ds es : List D), ds.length = es.length → ((List.range ds.length).all fun j => beqD (ds.getD j .non) (es.getD j .non)) = beqL ds es
  | [], [], _ => by simp [beqL]
  | [], _ :: _, h => by simp at h
  | _ :: _, [], h => by simp at h
  | a :: as, b :: bs, h => by
    have ih := beqL_all as bs (by simpa using h)
    rw [beqL, ← ih, List.length_cons, List.range_succ_eq_map, List.all_cons, List.all_map]
    rfl
theorem beqL_len : ∀ {ds es : List D}, ds.length ≠ es.length → beqL ds es = false
  | [], [], h => absurd rfl h
  | [], _ :: _, _ => by simp [beqL]
  | _ :: _, [], _ => by simp [beqL]
  | a :: as, b :: bs, h => by
    rw [beqL, beqL_len (ds := as) (es := bs) (fun z => h (by simp [z])), Bool.and_false]
theorem kins_get : ∀ {ds es : List D} {i : Nat} {d e : D}, kins ds es = true → ds[i]? = some d → es[i]? = some e → kin d e = true
  | [], _, _, _, _, _, h, _ => by simp at h
  | _ :: _, [], _, _, _, _, _, h => by simp at h
  | a :: as, b :: bs, 0, d, e, h, h1, h2 => by
    simp at h1 h2
    subst h1 h2
    rw [kins, Bool.and_eq_true] at h
    exact h.1
  | a :: as, b :: bs, i + 1, d, e, h, h1, h2 => by
    rw [kins, Bool.and_eq_true] at h
    exact kins_get (i := i) h.2 (by simpa using h1) (by simpa using h2)
theorem dep_get : ∀ {ds : List D} {i : Nat} {d : D}, ds[i]? = some d → dep d ≤ depL ds
  | [], _, _, h => by simp at h
  | a :: as, 0, d, h => by simp at h; subst h; rw [depL]; exact Nat.le_max_left _ _
  | a :: as, i + 1, d, h => by
    rw [depL]
    exact Nat.le_trans (dep_get (i := i) (by simpa using h)) (Nat.le_max_right _ _)
section
variable {X : Cx} {pins : List (Addr × Obj)} {σ : L2.St} {H : Hp} {s : Shared}
theorem Is.same (I : Inv X pins σ H s) : ∀ (n : Nat) {v : V} {d e : D}, dep d ≤ n → kin d e = true → Is X.K H d v → Is X.K H e v → d = e := by
  intro n
  induction n with
  | zero =>
    intro v d e hn hk h h'
    rcases kin_inv hk with ⟨rfl, rfl⟩ | ⟨_, _, rfl, rfl⟩ | ⟨_, _, rfl, rfl⟩ | ⟨_, _, rfl, rfl⟩ | ⟨_, _, rfl, rfl, hk⟩ | ⟨_, _, rfl, rfl, hk⟩ <;> simp only [Is] at h h' <;> first
      | rfl
      | (rw [h] at h'; injection h' with z; rw [z]; done)
      | (rw [dep] at hn; omega)
  | succ n ih =>
    intro v d e hn hk h h'
    have go : ∀ {ds es : List D} {xs : List V}, depL ds ≤ n → kins ds es = true → IsL X.K H ds xs → IsL X.K H es xs → ds = es := by
      intro ds es xs hd hks h1 h2
      have l1 := h1.len
      have l2 := h2.len
      refine List.ext_getElem? fun i => ?_
      cases q : xs[i]? with
      | none =>
        have z : xs.length ≤ i := List.getElem?_eq_none_iff.mp q
        rw [List.getElem?_eq_none_iff.mpr (by omega), List.getElem?_eq_none_iff.mpr (by omega)]
      | some v =>
        obtain ⟨d, e1, i1⟩ := h1.get' q
        obtain ⟨e, e2, i2⟩ := h2.get' q
        rw [e1, e2, ih (Nat.le_trans (dep_get e1) hd) (kins_get hks e1 e2) i1 i2]
    rcases kin_inv hk with ⟨rfl, rfl⟩ | ⟨_, _, rfl, rfl⟩ | ⟨_, _, rfl, rfl⟩ | ⟨_, _, rfl, rfl⟩ | ⟨_, _, rfl, rfl, hk⟩ | ⟨_, _, rfl, rfl, hk⟩ <;> simp only [Is] at h h' <;> first
      | rfl
      | (rw [h] at h'; injection h' with z; rw [z]; done)
      | (rw [dep] at hn
         obtain ⟨a, xs, rfl, s1, i1⟩ := h
         obtain ⟨a', ys, e', s2, i2⟩ := h'
         cases e'
         first
         | (cases I.tuple_inj s1 s2; rw [go (by omega) hk i1 i2]; done)
         | (cases I.list_inj (.inl s1) (.inl s2); rw [go (by omega) hk i1 i2]; done))
def placeEq (ds es : List D) (j : Nat) : Bool := beqD (ds.getD j .non) (es.getD j .non)
theorem items_eq {xs ys : List V} {ds es : List D} {us vs : List Value} {A : Around} (r1 : Vals xs us) (r2 : Vals ys vs) (h1 : IsL X.K H ds xs) (h2 : IsL X.K H es ys)
    (hk : kins ds es = true) {n : Nat} (hn : depL ds ≤ n)
    (ih : ∀ (x y : V) (d e : D) (u v : Value), dep d ≤ n → Is X.K H d x → Is X.K H e y → kin d e = true → RelV x u → RelV y v → SeqAt.EqAt A s u v (beqD d e)) :
    ∀ j (q1 : j < us.toArray.size) (q2 : j < vs.toArray.size), SeqAt.EqAt A s us.toArray[j] vs.toArray[j] (placeEq ds es j) := by
  intro j q1 q2
  have e1 := r1.length
  have e2 := r2.length
  have l1 := h1.len
  have l2 := h2.len
  have p1 : j < us.length := by simpa using q1
  have p2 : j < vs.length := by simpa using q2
  have x1 : xs[j]? = some (xs[j]'(by omega)) := List.getElem?_eq_getElem _
  have y1 : ys[j]? = some (ys[j]'(by omega)) := List.getElem?_eq_getElem _
  obtain ⟨d, d1, i1⟩ := h1.get' x1
  obtain ⟨e, c1, i2⟩ := h2.get' y1
  obtain ⟨u, hu, ru⟩ := r1.get x1
  obtain ⟨v, hv, rv⟩ := r2.get y1
  have z1 : us.toArray[j] = u := by
    have : us[j]? = some (us[j]'p1) := List.getElem?_eq_getElem _
    rw [hu] at this
    simpa using (Option.some.inj this).symm
  have z2 : vs.toArray[j] = v := by
    have : vs[j]? = some (vs[j]'p2) := List.getElem?_eq_getElem _
    rw [hv] at this
    simpa using (Option.some.inj this).symm
  rw [z1, z2]
  unfold placeEq
  rw [List.getD_eq_getElem?_getD, List.getD_eq_getElem?_getD, d1, c1]
  exact ih _ _ _ _ u v (Nat.le_trans (dep_get d1) hn) i1 i2 (kins_get hk d1 c1) ru rv
theorem all_is {xs ys : List V} {ds es : List D} {us vs : List Value} (r1 : Vals xs us) (r2 : Vals ys vs) (h1 : IsL X.K H ds xs) (h2 : IsL X.K H es ys) :
    ((List.range (min us.toArray.size vs.toArray.size)).all (placeEq ds es) && us.toArray.size == vs.toArray.size) = beqL ds es := by
  have e1 := r1.length
  have e2 := r2.length
  have l1 := h1.len
  have l2 := h2.len
  simp only [List.size_toArray]
  by_cases hl : us.length = vs.length
  · rw [← hl, Nat.min_self, beq_self_eq_true, Bool.and_true, ← e1, l1]
    exact beqL_all ds es (by omega)
  · rw [beqL_len (by omega), show (us.length == vs.length) = false by simpa using hl, Bool.and_false]
theorem rc_tup3 {a b : Addr} {xs ys : List V} {ds es : List D} {A : Around} (I : Inv X pins σ H s) (hx : SqT X.K H a xs) (hy : SqT X.K H b ys) (h1 : IsL X.K H ds xs) (h2 : IsL X.K H es ys) (hu : A.units < cLine)
    (hk : kins ds es = true) {n : Nat} (hn : depL ds ≤ n)
    (ih : ∀ (x y : V) (d e : D) (u v : Value), dep d ≤ n → Is X.K H d x → Is X.K H e y → kin d e = true → RelV x u → RelV y v → SeqAt.EqAt A.in1 s u v (beqD d e)) : SeqAt.RcAt A s (.ref a) (.ref b) (beqL ds es) := by
  obtain ⟨us, r1, t1, _⟩ := I.tuple hx
  obtain ⟨vs, r2, t2, _⟩ := I.tuple hy
  have z := SeqAt.RcAt.tuples (show s.heap.IsTuple a us.toArray from t1) (show s.heap.IsTuple b vs.toArray from t2) hu (items_eq r1 r2 h1 h2 hk hn ih)
  rw [all_is r1 r2 h1 h2] at z
  exact z
theorem rc_lst3 {a b : Addr} {xs ys : List V} {ds es : List D} {A : Around} (I : Inv X pins σ H s) (hx : SqL X.K H a xs) (hy : SqL X.K H b ys) (h1 : IsL X.K H ds xs) (h2 : IsL X.K H es ys) (hu : A.units < cLine)
    (hk : kins ds es = true) {n : Nat} (hn : depL ds ≤ n)
    (ih : ∀ (x y : V) (d e : D) (u v : Value), dep d ≤ n → Is X.K H d x → Is X.K H e y → kin d e = true → RelV x u → RelV y v → SeqAt.EqAt A.in1 s u v (beqD d e)) : SeqAt.RcAt A s (.ref a) (.ref b) (beqL ds es) := by
  obtain ⟨us, r1, t1, _⟩ := I.list hx
  obtain ⟨vs, r2, t2, _⟩ := I.list hy
  have e1 := r1.length
  have e2 := r2.length
  have l1 := h1.len
  have l2 := h2.len
  by_cases hl : us.length = vs.length
  · have z := SeqAt.RcAt.lists t1.isList t2.isList (by simpa using hl) hu (items_eq r1 r2 h1 h2 hk hn ih)
    have q : (List.range us.toArray.size).all (placeEq ds es) = beqL ds es := by
      simp only [List.size_toArray]
      rw [← e1, l1]
      exact beqL_all ds es (by omega)
    rw [q] at z
    exact z
  · rw [beqL_len (by omega)]
    exact SeqAt.RcAt.lists_lengths t1.isList t2.isList (by simpa using hl) hu
theorem pln_of_kin : ∀ (n : Nat) {d e : D}, dep d ≤ n → kin d e = true → d = e → pln d = true := by
  intro n
  induction n with
  | zero => intro d e hn hk he; subst he; cases d <;> simp [kin] at hk <;> first | (simp [pln]; done) | (rw [dep] at hn; omega)
  | succ n ih =>
    intro d e hn hk he
    subst he
    have go : ∀ {ds : List D}, depL ds ≤ n → kins ds ds = true → plnL ds = true := by
      intro ds
      induction ds with
      | nil => intro _ _; simp [plnL]
      | cons a as ih2 =>
        intro hd hks
        rw [depL] at hd
        rw [kins, Bool.and_eq_true] at hks
        rw [plnL, ih (by omega) hks.1 rfl, ih2 (by omega) hks.2]; rfl
    cases d <;> simp [kin] at hk <;> first
      | (simp [pln]; done)
      | (rw [dep] at hn; rw [pln]; exact go (by omega) hk)
theorem eq_is3 (I : Inv X pins σ H s) : ∀ (n : Nat) (A : Around), A.units + n < cLine → ∀ (x y : V) (d e : D) (u v : Value), dep d ≤ n → Is X.K H d x → Is X.K H e y → kin d e = true → RelV x u → RelV y v → SeqAt.EqAt A s u v (beqD d e) := by
  intro n
  induction n with
  | zero =>
    intro A hA x y d e u v hn hx hy hk rx ry
    rcases kin_inv hk with ⟨rfl, rfl⟩ | ⟨_, _, rfl, rfl⟩ | ⟨_, _, rfl, rfl⟩ | ⟨_, _, rfl, rfl⟩ | ⟨_, _, rfl, rfl, hk⟩ | ⟨_, _, rfl, rfl, hk⟩ <;> simp only [Is] at hx hy <;> first
      | (subst hx hy; cases rx; cases ry; rw [beqD]; exact SeqAt.EqAt.same _)
      | (subst hx hy; cases rx; cases ry; rw [beqD]; exact SeqAt.EqAt.bool_bool _ _)
      | (subst hx hy; obtain ⟨t, rfl⟩ := rx; obtain ⟨t', rfl⟩ := ry; rw [beqD]; exact SeqAt.EqAt.int_int _ _ _ _)
      | (subst hx hy; obtain ⟨t, rfl⟩ := rx; obtain ⟨t', rfl⟩ := ry; rw [beqD]; exact SeqAt.EqAt.str_str _ _ _ _)
      | (rw [dep] at hn; omega)
  | succ n ih =>
    intro A hA x y d e u v hn hx hy hk rx ry
    have hu : A.units < cLine := by omega
    have hA' : A.in1.units + n < cLine := by
      show A.units + 1 + n < cLine
      omega
    by_cases hxy : d = e ∧ x = y
    · obtain ⟨rfl, rfl⟩ := hxy
      have hp := pln_of_kin (n + 1) hn hk rfl
      rw [beqD_refl hp]
      cases d <;> simp [kin] at hk <;> simp only [Is] at hx <;> first
        | (subst hx; cases rx; cases ry; exact SeqAt.EqAt.same _)
        | (subst hx; obtain ⟨t, rfl⟩ := rx; obtain ⟨t', rfl⟩ := ry; have z := SeqAt.EqAt.int_int (A := A) (s := s) (by assumption) t (by assumption) t'; simpa using z)
        | (subst hx; rename_i i; obtain ⟨t, rfl⟩ := rx; obtain ⟨t', rfl⟩ := ry; have z := SeqAt.EqAt.int_int (A := A) (s := s) i t i t'; simpa using z)
        | (subst hx; rename_i i; obtain ⟨t, rfl⟩ := rx; obtain ⟨t', rfl⟩ := ry; have z := SeqAt.EqAt.str_str (A := A) (s := s) i t i t'; simpa using z)
        | (obtain ⟨a, xs, rfl, _, _⟩ := hx; cases rx; cases ry; exact SeqAt.EqAt.same _)
    · have key := fun (x y : V) (d e : D) (u v : Value) p q r s' t w => ih A.in1 hA' x y d e u v p q r s' t w
      have sm := fun (h : x = y) => Is.same I (n + 1) hn hk hx (h ▸ hy)
      rcases kin_inv hk with ⟨rfl, rfl⟩ | ⟨_, _, rfl, rfl⟩ | ⟨_, _, rfl, rfl⟩ | ⟨_, _, rfl, rfl⟩ | ⟨_, _, rfl, rfl, hk⟩ | ⟨_, _, rfl, rfl, hk⟩ <;> simp only [Is] at hx hy <;> first
        | (subst hx hy; cases rx; cases ry; rw [beqD]; exact SeqAt.EqAt.same _)
        | (subst hx hy; cases rx; cases ry; rw [beqD]; exact SeqAt.EqAt.bool_bool _ _)
        | (subst hx hy; obtain ⟨t, rfl⟩ := rx; obtain ⟨t', rfl⟩ := ry; rw [beqD]; exact SeqAt.EqAt.int_int _ _ _ _)
        | (subst hx hy; obtain ⟨t, rfl⟩ := rx; obtain ⟨t', rfl⟩ := ry; rw [beqD]; exact SeqAt.EqAt.str_str _ _ _ _)
        | (rw [dep] at hn
           obtain ⟨a, xs, rfl, s1, i1⟩ := hx
           obtain ⟨b, ys, rfl, s2, i2⟩ := hy
           cases rx; cases ry
           have hab : a ≠ b := fun z => hxy ⟨sm (by rw [z]), by rw [z]⟩
           rw [beqD]
           first
           | exact SeqAt.EqAt.of_refs hab (rc_tup3 I s1 s2 i1 i2 hu hk (by omega) key)
           | exact SeqAt.EqAt.of_refs hab (rc_lst3 I (.inl s1) (.inl s2) i1 i2 hu hk (by omega) key))
end
def rEq3 (K : PySem.W.Frag) (neg : Bool) : R2 := fun x y H Q => ∃ d e, Is K H d x ∧ Is K H e y ∧ kin d e = true ∧ dep d ≤ 60 ∧ Q (.bl (if neg then !beqD d e else beqD d e)) H
section
variable {X : Cx}
theorem op_eq3 (hu : X.A.units + 64 < cLine) : OpR X (compareOp .Eq) (rEq3 X.K false) := by
  intro pins s σ H x y v u Q I rx ry h
  obtain ⟨d, e, h1, h2, hk, hn, q⟩ := h
  have hu0 : X.A.units < cLine := by omega
  have key := fun (x y : V) (d e : D) (u v : Value) p q r s' t w => eq_is3 (s := s) I 60 X.A.in1 (by show X.A.units + 1 + 60 < cLine; omega) x y d e u v p q r s' t w
  have sc : scal x y = true → (decide (x = y)) = beqD d e → wpAny (model X.prog X.w) X.A (compareOp .Eq v u) (EP X pins σ Q) X.xe s := fun hs hb =>
    op_eq pins s σ H x y v u Q I rx ry ⟨hs, by rw [hb]; exact q⟩
  rcases kin_inv hk with ⟨rfl, rfl⟩ | ⟨_, _, rfl, rfl⟩ | ⟨_, _, rfl, rfl⟩ | ⟨_, _, rfl, rfl⟩ | ⟨_, _, rfl, rfl, hk⟩ | ⟨_, _, rfl, rfl, hk⟩ <;> simp only [Is] at h1 h2 <;> first
    | (subst h1 h2; exact sc rfl (by first | (simp [beqD]; done) | (rw [beqD, Bool.eq_iff_iff]; simp)))
    | (rw [dep] at hn
       obtain ⟨a, xs, rfl, s1, i1⟩ := h1
       obtain ⟨b, ys, rfl, s2, i2⟩ := h2
       cases rx; cases ry
       simp only [beqD, Bool.false_eq_true, if_false] at q
       first
       | exact rc_tup3 (A := X.A) I s1 s2 i1 i2 hu0 hk (by omega) key X.prog X.w X.xe _ ⟨.bl _, H, I, rfl, q⟩
       | exact rc_lst3 (A := X.A) I (.inl s1) (.inl s2) i1 i2 hu0 hk (by omega) key X.prog X.w X.xe _ ⟨.bl _, H, I, rfl, q⟩)
end
end L3
set_option Elab.async false
set_option linter.all false
set_option maxRecDepth 100000
set_option maxHeartbeats 4000000
namespace L3
open PySem PySem.Spec PySem.Calls PyProof.Rows L2
def C3 (X : Cx) (Γ : List (Option D)) (a : Expr) (op : CmpOp) (b : Expr) (k : Bool) : Prop := ∃ (r : R2) (ta tb : TE), OpR X (compareOp op) r ∧ PE X a ta ∧ PE X b tb ∧
  ∀ (σ : L2.St) (H : Hp) (Q : VK), (∃ F, Same F H ∧ Sl X.K F Γ σ ∧ ∀ H' F', Pur F H F' H' → Q (.bl k) H') → tOp r ta tb σ H Q
section
variable {X : Cx} {Γ : List (Option D)} {a b c : Expr} {d d' : D} {pos : Pos} {op : CmpOp} {k : Bool}
theorem p_cmp (h : C3 X Γ a op b k) (hm : behindInMarks op b = false := by first | exact nomark _ | with_unfolding_all rfl) : P3 X Γ (.Compare a [op] [b] pos) (.bl k) := by
  obtain ⟨r, ta, tb, ho, ha, hb, q⟩ := h
  exact PE.of (pe_cmpR ho ha hb hm) fun σ H Q ⟨F, fh, sl, kk⟩ => q σ H Q ⟨F, fh, sl, fun H' F' p => kk _ H' F' p (i_bl _)⟩
theorem t_cmp (h : C3 X Γ a op b k) (hm : behindInMarks op b = false := by first | exact nomark _ | with_unfolding_all rfl) : PT3 X Γ (.Compare a [op] [b] pos) k := by
  obtain ⟨r, ta, tb, ho, ha, hb, q⟩ := h
  exact PT.of (pt_cmpR ho ha hb hm) fun σ H Q ⟨F, fh, sl, kk⟩ => q σ H _ ⟨F, fh, sl, fun H' F' p => ⟨k, rfl, kk H' F' p⟩⟩
theorem c_R {r : R2} (ho : OpR X (compareOp op) r) (ha : P3 X Γ a d) (hb : P3 X Γ b d') (hr : ∀ x y H F Q, Same F H → Is X.K F d x → Is X.K F d' y → Q (.bl k) H → r x y H Q) : C3 X Γ a op b k :=
  ⟨r, _, _, ho, ha, hb, fun σ H Q ⟨F, fh, sl, q⟩ => tP2 ⟨F, fh, sl, fun x y H2 F2 p i1 i2 => hr x y H2 F2 Q p.fh i1 i2 (q H2 F2 p)⟩⟩
variable {i j : Int}
theorem c_I {g : Int → Int → Bool} (ho : OpR X (compareOp op) (rI0 fun i j => .bl (g i j))) (ha : P3 X Γ a (.int i)) (hb : P3 X Γ b (.int j)) : C3 X Γ a op b (g i j) :=
  c_R ho ha hb fun x y H F Q fh i1 i2 q => ⟨i, j, isI i1, isI i2, q⟩
theorem c_lt (ha : P3 X Γ a (.int i)) (hb : P3 X Γ b (.int j)) : C3 X Γ a .Lt b (decide (i < j)) := c_I op_lt ha hb
theorem c_gt (ha : P3 X Γ a (.int i)) (hb : P3 X Γ b (.int j)) : C3 X Γ a .Gt b (decide (j < i)) := c_I op_gt ha hb
theorem c_ge (ha : P3 X Γ a (.int i)) (hb : P3 X Γ b (.int j)) : C3 X Γ a .GtE b (decide (j ≤ i)) := c_I op_ge ha hb
theorem c_eqI (ha : P3 X Γ a (.int i)) (hb : P3 X Γ b (.int j)) : C3 X Γ a .Eq b (decide (i = j)) :=
  c_R op_eq ha hb fun x y H F Q fh i1 i2 q => by
    cases isI i1; cases isI i2
    exact ⟨rfl, by simpa only [V.int.injEq] using q⟩
theorem c_neI (ha : P3 X Γ a (.int i)) (hb : P3 X Γ b (.int j)) : C3 X Γ a .NotEq b (!decide (i = j)) :=
  c_R op_ne ha hb fun x y H F Q fh i1 i2 q => by
    cases isI i1; cases isI i2
    exact ⟨rfl, by simpa only [V.int.injEq] using q⟩
theorem c_neB {i j : Bool} (ha : P3 X Γ a (.bl i)) (hb : P3 X Γ b (.bl j)) : C3 X Γ a .NotEq b (!decide (i = j)) :=
  c_R op_ne ha hb fun x y H F Q fh i1 i2 q => by
    cases isB i1; cases isB i2
    exact ⟨rfl, by simpa only [V.bl.injEq] using q⟩
theorem c_eq (hu : X.A.units + 64 < cLine) (ha : P3 X Γ a d) (hb : P3 X Γ b d') (hk : kin d d' = true) (hd : dep d ≤ 60) : C3 X Γ a .Eq b (beqD d d') :=
  c_R (op_eq3 hu) ha hb fun x y H F Q fh i1 i2 q => ⟨d, d', i1.mono fh, i2.mono fh, hk, hd, q⟩
theorem t_val {e : Expr} (h : P3 X Γ e (.bl k)) (he : ∀ whole, isTrue e X.env whole = (do let v ← whole; standAt e.pos; holding [v] (truthy v)) := by intro _; rfl) : PT3 X Γ e k :=
  PT.of (pt_val h he) fun σ H Q ⟨F, fh, sl, q⟩ => ⟨F, fh, sl, fun v H' F' p i => ⟨k, isB i, q H' F' p⟩⟩
theorem t_not (h : PT3 X Γ a k) : PT3 X Γ (.UnaryOp .Not a pos) (!k) := PT.of (pt_not h) fun σ H Q ⟨F, fh, sl, q⟩ => ⟨F, fh, sl, q⟩
def PW3 (X : Cx) (Γ : List (Option D)) (e : Expr) (k : Bool) : Prop := PW X e (tPT X.K Γ k)
theorem PW.of {X : Cx} {e : Expr} {t u : TT} (h : PW X e t) (i : ∀ σ H Q, u σ H Q → t σ H Q) : PW X e u := fun w pins s σ H Q I hq => h w pins s σ H Q I (i _ _ _ hq)
theorem PW3.t {e : Expr} (h : PW3 X Γ e k) : PT3 X Γ e k := PW.pt h
theorem tw_or1 (h : PT3 X Γ a k) : PW3 X Γ (.BoolOp .Or [a] pos) k := pw_or1 h
theorem pw_no {e : Expr} : PW X e fun _ _ _ => False := fun _ _ _ _ _ _ _ h => h.elim
theorem pe_no {e : Expr} : PE X e fun _ _ _ => False := fun _ _ _ _ _ _ h => h.elim
variable {k' : Bool} {rest : List Expr}
theorem tw_or (ha : PT3 X Γ a k) (hb : k = false → PW3 X Γ (.BoolOp .Or (b :: rest) pos) k') : PW3 X Γ (.BoolOp .Or (a :: b :: rest) pos) (k || k') := by
  cases k with
  | false => exact PW.of (pw_or ha (hb rfl)) fun σ H Q ⟨F, fh, sl, q⟩ => ⟨F, fh, sl, fun H' F' p => by dsimp only; rw [if_neg Bool.false_ne_true]; exact ⟨F', p.fh, sl.mono p.ff, fun H2 F2 p2 => q H2 F2 (p.trans p2)⟩⟩
  | true => exact PW.of (pw_or ha pw_no) fun σ H Q ⟨F, fh, sl, q⟩ => ⟨F, fh, sl, fun H' F' p => by dsimp only; rw [if_pos rfl]; exact q H' F' p⟩
theorem p_one {op : BoolOp} (h : P3 X Γ a d) : P3 X Γ (.BoolOp op [a] pos) d := pe_one h
theorem p_and (ha : P3 X Γ a (.bl k)) (hb : k = true → P3 X Γ (.BoolOp .And (b :: rest) pos) (.bl k')) : P3 X Γ (.BoolOp .And (a :: b :: rest) pos) (.bl (k && k')) := by
  cases k with
  | true => exact PE.of (pe_and ha (hb rfl)) fun σ H Q ⟨F, fh, sl, q⟩ => ⟨F, fh, sl, fun v H' F' p i => ⟨true, isB i, by rw [if_pos rfl]; exact ⟨F', p.fh, sl.mono p.ff, fun v2 H2 F2 p2 i2 => q v2 H2 F2 (p.trans p2) i2⟩⟩⟩
  | false => exact PE.of (pe_and ha pe_no) fun σ H Q ⟨F, fh, sl, q⟩ => ⟨F, fh, sl, fun v H' F' p i => ⟨false, isB i, by dsimp only; rw [if_neg Bool.false_ne_true]; exact q _ H' F' p (i_bl F')⟩⟩
theorem p_not (ha : P3 X Γ a (.bl k)) : P3 X Γ (.UnaryOp .Not a pos) (.bl (!k)) := PE.of (pe_not ha) fun σ H Q ⟨F, fh, sl, q⟩ => ⟨F, fh, sl, fun v H' F' p i => ⟨k, isB i, q _ H' F' p (i_bl F')⟩⟩
end
def spP (K : PySem.W.Frag) (n : Nat) (C : List D → D → Prop) : Sp := fun vs H Q _ => ∃ ds d F, C ds d ∧ ds.length = n ∧ Same F H ∧ IsL K F ds vs ∧ ∀ v H' F', Pur F H F' H' → Is K F' d v → Q v H'
def spX (K : PySem.W.Frag) (n : Nat) (C : List D → Addr → Prop) : Sp := fun vs H _ E => ∃ ds c F, C ds c ∧ ds.length = n ∧ Same F H ∧ IsL K F ds vs ∧ ∀ H' F', Pur F H F' H' → E (.ref c) none H'
theorem spP.len {K : PySem.W.Frag} {n : Nat} {C : List D → D → Prop} {vs : List V} {H : Hp} {Q : VK} {E : XK} (h : spP K n C vs H Q E) : vs.length = n := by
  obtain ⟨ds, d, F, _, l, _, i, _⟩ := h
  rw [i.len, l]
theorem spX.len {K : PySem.W.Frag} {n : Nat} {C : List D → Addr → Prop} {vs : List V} {H : Hp} {Q : VK} {E : XK} (h : spX K n C vs H Q E) : vs.length = n := by
  obtain ⟨ds, d, F, _, l, _, i, _⟩ := h
  rw [i.len, l]
section
variable {X : Cx} {Γ : List (Option D)} {d : D} {ds : List D} {n k : Nat} {C : List D → D → Prop} {x : Str} {ps : List Str} {e : Expr} {es : List Expr} {p pos : Pos}
theorem p_call (o : OkF X.prog X.w X.K X.mg X.base CX0 k x ps (spP X.K n C)) (hr : Room k X.A) (hg : Gl X x) (ha : PL3 X Γ (e :: es) ds) (hC : C ds d) (hn : ds.length = n := by rfl) (hdb : (x == ("__debug__" : Str)) = false := by decide)
    (he : starEach (e :: es) X.env = (false, eval e X.env) :: starEach es X.env := by rfl) (hpl : (backTo pos (starEach es X.env)).any (·.1) = false := by rfl) : P3 X Γ (.Call (.Name x p) (e :: es) [] pos) d :=
  PE.of (pe_fn o hr hg ha hdb he hpl) fun σ H Q ⟨F, fh, sl, q⟩ => ⟨F, fh, sl, fun vs H' F' pu i => by
    dsimp only
    rw [List.append_nil]
    exact ⟨ds, d, F', hC, hn, pu.fh, i, fun v H2 F2 p2 i2 => q v H2 F2 (pu.trans p2) i2⟩⟩
theorem p_callB {id : String} {r : List V → Hp → VK → Prop} (hc : CallR X (.builtin id) r) (hg : Gl X x) (hm : X.mg x = none) (hv : bootBuiltins x = some (.builtin id)) (ha : PL3 X Γ (e :: es) ds)
    (hr : ∀ vs H F Q, Same F H → IsL X.K F ds vs → (∀ v H' F', Pur F H F' H' → Is X.K F' d v → Q v H') → r vs H Q) (hn : x ≠ "__name__" := by decide) (hdb : (x == ("__debug__" : Str)) = false := by decide)
    (he : starEach (e :: es) X.env = (false, eval e X.env) :: starEach es X.env := by rfl) (hpl : (backTo pos (starEach es X.env)).any (·.1) = false := by rfl) : P3 X Γ (.Call (.Name x p) (e :: es) [] pos) d :=
  PE.of (pe_callB hc hg hm hv ha hn hdb he hpl) fun σ H Q ⟨F, fh, sl, q⟩ => ⟨F, fh, sl, fun vs H' F' pu i => hr vs H' F' Q pu.fh i fun v H2 F2 p2 i2 => q v H2 F2 (pu.trans p2) i2⟩
end
end L3
set_option Elab.async false
set_option linter.all false
set_option maxRecDepth 100000
set_option maxHeartbeats 4000000
namespace L3
open PySem PySem.Spec PySem.Calls PyProof.Rows L2
theorem isL1 {K : PySem.W.Frag} {F : Hp} {d : D} {vs : List V} (h : IsL K F [d] vs) : ∃ x, vs = [x] ∧ Is K F d x := by
  simp only [IsL] at h
  obtain ⟨x, r, rfl, i, rfl⟩ := h
  exact ⟨x, rfl, i⟩
theorem isL2 {K : PySem.W.Frag} {F : Hp} {d e : D} {vs : List V} (h : IsL K F [d, e] vs) : ∃ x y, vs = [x, y] ∧ Is K F d x ∧ Is K F e y := by
  simp only [IsL] at h
  obtain ⟨x, r, rfl, i, y, r2, rfl, i2, rfl⟩ := h
  exact ⟨x, y, rfl, i, i2⟩
section
variable {X : Cx}
def dTy : D → Option Value
  | .non => some (.type "NoneType")
  | .bl _ => some (.type "bool")
  | .int _ => some (.type "int")
  | .str _ => some (.type "str")
  | .tup _ => some (.type "tuple")
  | .lst _ => some (.type "list")
  | .dk _ _ => some (.type "dict")
  | .dt _ _ => some (.type "dict")
  | _ => none
theorem call_isin3 : CallR X (.builtin "isinstance") (fun xs H Q => ∃ x c d t b, xs = [x, c] ∧ Is X.K H d x ∧ dTy d = some t ∧ PySem.W.kitOne X.K t (cV c) = some b ∧ cV c ≠ .none ∧ Q (.bl b) H) := by
  intro pins s σ H xs us Q I r h
  obtain ⟨x, c, d, t, b, rfl, hi, ht, hk, hc, q⟩ := h
  obtain ⟨u, v, rfl, r1, r2⟩ := vals2 r
  rw [rel_cV r2 hc]
  have fin : ∀ tk, EP X pins σ Q (.bool b) { s with toks := tk } := fun tk => ⟨.bl b, H, I.tok _, rfl, q⟩
  cases d with
  | non => simp only [Is] at hi; subst hi; cases ht; exact isinst_ok I r1 .non hk fin
  | bl y => simp only [Is] at hi; subst hi; cases ht; exact isinst_ok I r1 (.bl y) hk fin
  | int y => simp only [Is] at hi; subst hi; cases ht; exact isinst_ok I r1 (.int y) hk fin
  | str y => simp only [Is] at hi; subst hi; cases ht; exact isinst_ok I r1 (.str y) hk fin
  | raw y => cases ht
  | obj C fs ds => cases ht
  | exc C => cases ht
  | scr ns => cases ht
  | tup ds =>
    simp only [Is] at hi
    obtain ⟨a, xs, rfl, h1, _⟩ := hi
    cases ht
    cases r1
    obtain ⟨its, _, ⟨o, e, c', _⟩, _⟩ := I.tuple h1
    exact PySem.W.kia_one PySem.W.kitx_tuple I.kIn ⟨o, e, c'⟩ hk (fun z => nomatch z) fin
  | lst ds =>
    simp only [Is] at hi
    obtain ⟨a, xs, rfl, h1, _⟩ := hi
    cases ht
    cases r1
    obtain ⟨its, _, p, _⟩ := I.list (.inl h1)
    obtain ⟨o, e, c', _⟩ := p.isList
    exact PySem.W.kia_one PySem.W.kitx_list I.kIn ⟨o, e, c'⟩ hk (fun z => nomatch z) fin
  | dk ks ds =>
    simp only [Is] at hi
    obtain ⟨a, xs, rfl, h1, _⟩ := hi
    cases ht
    exact isinst_ok I r1 (.dK h1) hk fin
  | dt ks ds =>
    simp only [Is] at hi
    obtain ⟨a, xs, rfl, h1, _⟩ := hi
    cases ht
    exact isinst_ok I r1 (.dT h1) hk fin
end
section
variable {X : Cx} {Γ : List (Option D)} {a b c : Expr} {d d' : D} {pos p : Pos} {ds es : List D}
theorem isT {K : PySem.W.Frag} {F : Hp} {v : V} (h : Is K F (.tup ds) v) : ∃ a xs, v = .ref a ∧ SqT K F a xs ∧ IsL K F ds xs := by simpa only [Is] using h
theorem Is.tupI {K : PySem.W.Frag} {F : Hp} {a : Addr} {xs : List V} (h : SqT K F a xs) (i : IsL K F ds xs) : Is K F (.tup ds) (.ref a) := by simp only [Is]; exact ⟨a, xs, rfl, h, i⟩
theorem p_lenT (hm : X.mg "len" = none) (hg : Gl X "len") (ha : P3 X Γ a (.tup ds)) (he : starEach [a] X.env = (false, eval a X.env) :: starEach [] X.env := by rfl) : P3 X Γ (.Call (.Name "len" p) [a] [] pos) (.int ds.length) :=
  p_callB call_len_seq hg hm PySem.boot_len (pl_cons ha pl_nil he) (fun vs H F Q fh i k => by
    obtain ⟨x, rfl, j0⟩ := isL1 i
    obtain ⟨l, xs, rfl, s1, j1⟩ := isT j0
    exact ⟨l, xs, rfl, .inr (same_tup fh s1), k _ _ _ (Pur.refl fh) (by rw [j1.len]; exact i_int F)⟩) (by decide) (by decide) he
theorem p_lenI {ns : List Int} (hm : X.mg "len" = none) (hg : Gl X "len") (ha : P3 X Γ a (.scr ns)) (he : starEach [a] X.env = (false, eval a X.env) :: starEach [] X.env := by rfl) : P3 X Γ (.Call (.Name "len" p) [a] [] pos) (.int ns.length) :=
  p_callB call_len_seq hg hm PySem.boot_len (pl_cons ha pl_nil he) (fun vs H F Q fh i k => by
    obtain ⟨x, rfl, j0⟩ := isL1 i
    simp only [Is] at j0
    obtain ⟨l, rfl, s1⟩ := j0
    exact ⟨l, _, rfl, .inl (fh.seq s1), k _ _ _ (Pur.refl fh) (by rw [List.length_map]; exact i_int F)⟩) (by decide) (by decide) he
theorem p_ixI {ns : List Int} {i n : Int} (ha : P3 X Γ a (.scr ns)) (hb : P3 X Γ b (.int i)) (he : atI ns i = some n) (hs : PlainIx b := by exact fun _ _ => rfl) : P3 X Γ (.Subscript a b pos) (.int n) :=
  p_ixR ix_list ha hb (fun x y H F Q fh i1 i2 k => by
    simp only [Is] at i1 i2
    obtain ⟨l, rfl, h1⟩ := i1
    refine ⟨l, _, i, .int n, rfl, i2, fh.seq h1, ?_, k _ H F (Pur.refl fh) (i_int F)⟩
    unfold atI at he ⊢
    rw [List.length_map]
    cases q : ixN ns.length i with
    | none => rw [q] at he; cases he
    | some j =>
      rw [q] at he
      have he' : ns[j]? = some n := he
      show (ns.map V.int)[j]? = _
      rw [List.getElem?_map, he']
      rfl) hs
theorem bt_int : bootBuiltins "int" = some (.type "int") := by decide +kernel
theorem bt_bool : bootBuiltins "bool" = some (.type "bool") := by decide +kernel
theorem bt_tuple : bootBuiltins "tuple" = some (.type "tuple") := by decide +kernel
theorem bt_isinstance : bootBuiltins "isinstance" = some (.builtin "isinstance") := by decide +kernel
theorem p_isin {t : Value} {cv : V} {k : Bool} (hm : X.mg "isinstance" = none) (hg : Gl X "isinstance") (ha : P3 X Γ a d) (hb : P3 X Γ b (.raw cv)) (ht : dTy d = some t) (hk : PySem.W.kitOne X.K t (cV cv) = some k) (hc : cV cv ≠ .none)
    (he : starEach [a, b] X.env = (false, eval a X.env) :: starEach [b] X.env := by rfl) (he2 : starEach [b] X.env = (false, eval b X.env) :: starEach [] X.env := by rfl) (hpl : (backTo pos (starEach [b] X.env)).any (·.1) = false := by rfl) : P3 X Γ (.Call (.Name "isinstance" p) [a, b] [] pos) (.bl k) :=
  p_callB call_isin3 hg hm bt_isinstance (pl_cons ha (pl_cons hb pl_nil he2) he) (fun vs H F Q fh i q => by
    obtain ⟨x, y, rfl, i1, i2⟩ := isL2 i
    cases isR i2
    exact ⟨x, _, d, t, k, rfl, i1.mono fh, ht, hk, hc, q _ _ _ (Pur.refl fh) (i_bl F)⟩) (by decide) (by decide) he hpl
end
end L3
set_option Elab.async false
set_option linter.all false
set_option maxRecDepth 100000
set_option maxHeartbeats 4000000
namespace L3
open PySem PySem.Spec PySem.Calls PyProof.Rows L2
structure Bs where
  M : List Addr
  F : Hp
  H : Hp
abbrev Ow := Hp → HO → Prop
abbrev Om := List (Addr × Ow)
abbrev Ga := List (Option D)
structure Sat (K : PySem.W.Frag) (B : Bs) (Γ : Ga) (Ω : Om) (F : Hp) (σ : L2.St) (H : Hp) : Prop where
  f0 : Same B.F F
  fh : Same F H
  fr : ∀ b, F b ≠ none → B.F b ≠ none ∨ B.H b = none ∨ b ∈ B.M
  kp : ∀ b o, b ∉ B.M → B.H b = some o → H b = some o
  nd : (Ω.map (·.1)).Nodup
  od : ∀ p ∈ Ω, p.1 ∈ B.M ∨ B.H p.1 = none
  own : ∀ p ∈ Ω, F p.1 = none ∧ ∃ o, H p.1 = some o ∧ ∀ F', Same F F' → p.2 F' o
  sl : Sl K F Γ σ
section
variable {K : PySem.W.Frag} {B : Bs} {Γ Γ' : Ga} {Ω : Om} {F F' : Hp} {σ σ' : L2.St} {H H' : Hp}
theorem Sat.freeB (S : Sat K B Γ Ω F σ H) {b : Addr} (h : H b = none) : B.H b = none ∨ b ∈ B.M := by
  by_cases hb : b ∈ B.M
  · exact .inr hb
  · refine .inl ?_
    cases q : B.H b with
    | none => rfl
    | some o => rw [S.kp b o hb q] at h; cases h
theorem Sat.pur (S : Sat K B Γ Ω F σ H) (p : Pur F H F' H') : Sat K B Γ Ω F' σ H' where
  f0 := S.f0.trans p.ff
  fh := p.fh
  fr := fun b q => (p.new b q).elim (fun z => S.fr b z) fun z => (S.freeB z).elim (fun w => .inr (.inl w)) fun w => .inr (.inr w)
  kp := fun b o hb e => p.hh _ _ (S.kp b o hb e)
  nd := S.nd
  od := S.od
  own := fun q hq => by
    obtain ⟨h1, o, h2, h3⟩ := S.own q hq
    refine ⟨?_, o, p.hh _ _ h2, fun F2 e => h3 F2 (p.ff.trans e)⟩
    cases z : F' q.1 with
    | none => rfl
    | some u =>
      rcases p.new q.1 (by rw [z]; simp) with w | w
      · exact absurd h1 w
      · rw [h2] at w; cases w
  sl := S.sl.mono p.ff
theorem Sat.slots (S : Sat K B Γ Ω F σ H) (h : Sl K F Γ' σ') : Sat K B Γ' Ω F σ' H := ⟨S.f0, S.fh, S.fr, S.kp, S.nd, S.od, S.own, h⟩
theorem Sl.set {i : Nat} {d : D} {v : V} (h : Sl K F Γ σ) (hi : i < σ.length) (hv : Is K F d v) : Sl K F (Γ.set i (some d)) (σ.set i (some v)) := fun j e q => by
  by_cases hj : i = j
  · subst hj
    rw [List.getElem?_set] at q
    split at q
    · split at q
      · cases q
        exact ⟨v, by rw [List.getElem?_set]; simp [hi], hv⟩
      · cases q
    · contradiction
  · rw [List.getElem?_set_ne hj] at q
    obtain ⟨u, h1, h2⟩ := h j e q
    exact ⟨u, by rw [List.getElem?_set_ne hj]; exact h1, h2⟩
theorem Sl.nil : Sl K F [] σ := fun j e q => by simp at q
theorem Sat.toPur (S : Sat K B Γ Ω F σ H) (hM : B.M = []) : Pur B.F B.H F H := ⟨S.f0, S.fh, fun b o e => S.kp b o (by rw [hM]; simp) e, fun b q => (S.fr b q).elim .inl fun z => z.elim .inr fun w => by rw [hM] at w; cases w⟩
end
structure E3 where
  nx : Ga → Om → Prop
  rt : D → Om → Prop
  bk : Ga → Om → Prop := fun _ _ => False
  ct : Ga → Om → Prop := fun _ _ => False
def nX (K : PySem.W.Frag) (B : Bs) (F0 : Hp) (N : Ga → Om → Prop) : L2.St → Hp → Prop := fun σ H => ∃ Γ Ω F, Sat K B Γ Ω F σ H ∧ Same F0 F ∧ N Γ Ω
def E3.to (K : PySem.W.Frag) (B : Bs) (F0 : Hp) (E : E3) : Ends := ⟨nX K B F0 E.nx, fun v H => ∃ d Ω F, (∃ σ, Sat K B [] Ω F σ H) ∧ Same F0 F ∧ Is K F d v ∧ E.rt d Ω, nX K B F0 E.bk, nX K B F0 E.ct⟩
theorem nX.mono {K : PySem.W.Frag} {B : Bs} {F0 F1 : Hp} {N : Ga → Om → Prop} {σ : L2.St} {H : Hp} (e : Same F0 F1) (h : nX K B F1 N σ H) : nX K B F0 N σ H := by
  obtain ⟨Γ, Ω, F, S, f, n⟩ := h
  exact ⟨Γ, Ω, F, S, e.trans f, n⟩
def WS (X : Cx) (sts : List Stmt) : TS := fun D σ H => ∀ (pins : List (Addr × Obj)) (s : Shared), Inv X pins σ H s → wpAny (model X.prog X.w) X.A (execs sts X.env) (SP X pins D) X.xe s
def WE (X : Cx) (e : Expr) : TE := fun σ H Q => ∀ (pins : List (Addr × Obj)) (s : Shared), Inv X pins σ H s → wpAny (model X.prog X.w) X.A (eval e X.env) (EP X pins σ Q) X.xe s
def WT (X : Cx) (e : Expr) : TT := fun σ H Q => ∀ (pins : List (Addr × Obj)) (s : Shared), Inv X pins σ H s → wpAny (model X.prog X.w) X.A (isTrue e X.env (eval e X.env)) (TP X pins σ Q) X.xe s
theorem pss_w {X : Cx} {sts : List Stmt} : PSs X sts (WS X sts) := fun pins s σ H D I h => h pins s I
theorem pe_w {X : Cx} {e : Expr} : PE X e (WE X e) := fun pins s σ H Q I h => h pins s I
theorem pt_w {X : Cx} {e : Expr} : PT X e (WT X e) := fun pins s σ H Q I h => h pins s I
theorem PT3.wt {X : Cx} {Γ : Ga} {e : Expr} {k : Bool} (h : PT3 X Γ e k) {σ : L2.St} {H : Hp} {Q : Bool → Hp → Prop} (q : tPT X.K Γ k σ H Q) : WT X e σ H Q := fun pins s I => h pins s σ H Q I q
def W3 (X : Cx) (B : Bs) (sts : List Stmt) (Γ : Ga) (Ω : Om) (E : E3) : Prop := ∀ F σ H, Sat X.K B Γ Ω F σ H → WS X sts (E.to X.K B F) σ H
section
variable {X : Cx} {B : Bs} {Γ : Ga} {Ω : Om} {E : E3} {rest body : List Stmt} {e c : Expr} {d : D} {pos pos' : Pos} {k : Bool}
theorem ends_mono {D D' : Ends} (hn : ∀ σ H, D.nx σ H → D'.nx σ H) (hr : ∀ v H, D.rt v H → D'.rt v H) (hb : ∀ σ H, D.bk σ H → D'.bk σ H) (hc : ∀ σ H, D.ct σ H → D'.ct σ H) {σ : L2.St} {H : Hp} (h : WS X body D σ H) : WS X body D' σ H := fun pins s I =>
  thn (h pins s I) fun f s' q => by
    cases f with
    | next => obtain ⟨σ', H', I', q⟩ := q; exact ⟨σ', H', I', hn _ _ q⟩
    | brk => obtain ⟨σ', H', I', q⟩ := q; exact ⟨σ', H', I', hb _ _ q⟩
    | cont => obtain ⟨σ', H', I', q⟩ := q; exact ⟨σ', H', I', hc _ _ q⟩
    | ret u => obtain ⟨v, σ', H', I', r, q⟩ := q; exact ⟨v, σ', H', I', r, hr _ _ q⟩
theorem to_mono {F0 F1 : Hp} (e : Same F0 F1) {σ : L2.St} {H : Hp} (h : WS X body (E.to X.K B F1) σ H) : WS X body (E.to X.K B F0) σ H :=
  ends_mono (D := E.to X.K B F1) (D' := E.to X.K B F0) (fun _ _ q => q.mono e) (fun v H ⟨d, Ω, F, S, f, i, r⟩ => ⟨d, Ω, F, S, e.trans f, i, r⟩) (fun _ _ q => q.mono e) (fun _ _ q => q.mono e) h
theorem w_nil (h : E.nx Γ Ω) : W3 X B [] Γ Ω E := fun F σ H S pins s I => pss_nil pins s σ H _ I ⟨Γ, Ω, F, S, Same.refl _, h⟩
theorem w_set {i : Nat} {x : Str} (hN : X.N.Nodup) (hi : X.N[i]? = some x) (hx : Loc X.env.scope x) (he : P3 X Γ e d) (h : W3 X B rest (Γ.set i (some d)) Ω E) (hs : swapsWith e (some (.Name x pos')) pos.line X.env = pure false := by rfl)
    (hf : X.fn x = true ∨ X.env.scope.names.lookup x = some .local := by first | exact .inl rfl | exact .inr rfl | assumption) : W3 X B (.Assign [.Name x pos'] e pos :: rest) Γ Ω E := fun F σ H S pins s I =>
  pss_cons (ps_set hN hi hx he hs hf) pss_w pins s σ H _ I ⟨F, S.fh, S.sl, fun v H' F' p i' => to_mono p.ff (h F' _ H' ((S.pur p).slots (Sl.set (S.sl.mono p.ff) (by rw [I.len]; exact (List.getElem?_eq_some_iff.mp hi).1) i')))⟩
theorem w_ret (he : P3 X Γ e d) (h : E.rt d Ω) : W3 X B (.Return (some e) pos :: rest) Γ Ω E := fun F σ H S pins s I =>
  pss_cons (ps_ret he) pss_never pins s σ H _ I ⟨F, S.fh, S.sl, fun v H' F' p i' => ⟨d, Ω, F', ⟨σ, (S.pur p).slots Sl.nil⟩, p.ff, i', h⟩⟩
abbrev E3.then (E : E3) (X : Cx) (B : Bs) (rest : List Stmt) : E3 := { E with nx := fun Γ' Ω' => W3 X B rest Γ' Ω' E }
theorem nx_rest {F : Hp} {σ : L2.St} {H : Hp} (h : nX X.K B F (fun Γ' Ω' => W3 X B rest Γ' Ω' E) σ H) : WS X rest (E.to X.K B F) σ H := by
  obtain ⟨Γ', Ω', F', S, f, w⟩ := h
  exact to_mono f (w F' σ H S)
theorem seq_rest {F : Hp} {σ : L2.St} {H : Hp} (h : WS X body ((E.then X B rest).to X.K B F) σ H) : WS X body { (E.to X.K B F) with nx := WS X rest (E.to X.K B F) } σ H :=
  ends_mono (D := (E.then X B rest).to X.K B F) (D' := { (E.to X.K B F) with nx := WS X rest (E.to X.K B F) }) (fun _ _ q => nx_rest q) (fun _ _ q => q) (fun _ _ q => q) (fun _ _ q => q) h
theorem w_if {a b : List Stmt} (hc : PT3 X Γ c k) (ht : k = true → W3 X B a Γ Ω (E.then X B rest)) (hf : k = false → W3 X B b Γ Ω (E.then X B rest)) : W3 X B (.If c a b pos :: rest) Γ Ω E := fun F σ H S pins s I => by
  cases k with
  | true => exact pss_cons (ps_if hc pss_w pss_never) pss_w pins s σ H _ I ⟨F, S.fh, S.sl, fun H' F' p => iteT (seq_rest (to_mono p.ff (ht rfl F' σ H' (S.pur p))))⟩
  | false => exact pss_cons (ps_if hc pss_never pss_w) pss_w pins s σ H _ I ⟨F, S.fh, S.sl, fun H' F' p => iteF (seq_rest (to_mono p.ff (hf rfl F' σ H' (S.pur p))))⟩
theorem w_while (hp : PassesOwn (model X.prog X.w) X.A X.env X.xe) (J : Ga → Om → Prop) (μ : Ga → Om → Nat) (h0 : J Γ Ω)
    (step : ∀ Γ Ω, J Γ Ω → ∃ k, PT3 X Γ c k ∧ (k = true → W3 X B body Γ Ω { E with nx := fun Γ' Ω' => J Γ' Ω' ∧ μ Γ' Ω' < μ Γ Ω, ct := fun Γ' Ω' => J Γ' Ω' ∧ μ Γ' Ω' < μ Γ Ω, bk := fun Γ' Ω' => W3 X B rest Γ' Ω' E }) ∧ (k = false → W3 X B rest Γ Ω E)) :
    W3 X B (.While c body [] pos :: rest) Γ Ω E := fun F σ H S pins s I => by
  refine pss_cons (ps_while hp pt_w pss_w) pss_w pins s σ H _ I ⟨fun m σ H => ∃ Γ Ω F1, Sat X.K B Γ Ω F1 σ H ∧ Same F F1 ∧ J Γ Ω ∧ μ Γ Ω = m, ⟨_, Γ, Ω, F, S, Same.refl _, h0, rfl⟩, ?_⟩
  rintro m σ H ⟨Γ, Ω, F1, S, f1, j, rfl⟩
  obtain ⟨k, hc, ht, hf⟩ := step Γ Ω j
  refine hc.wt ⟨F1, S.fh, S.sl, fun H' F' p => ?_⟩
  cases k with
  | true =>
    refine iteT ⟨nX X.K B F fun Γ' Ω' => J Γ' Ω' ∧ μ Γ' Ω' < μ Γ Ω, ?_, ends_mono (D := E3.to X.K B F { E with nx := fun Γ' Ω' => J Γ' Ω' ∧ μ Γ' Ω' < μ Γ Ω, ct := fun Γ' Ω' => J Γ' Ω' ∧ μ Γ' Ω' < μ Γ Ω, bk := fun Γ' Ω' => W3 X B rest Γ' Ω' E })
      (D' := { nx := nX X.K B F fun Γ' Ω' => J Γ' Ω' ∧ μ Γ' Ω' < μ Γ Ω, rt := (E.to X.K B F).rt, bk := WS X rest (E.to X.K B F), ct := nX X.K B F fun Γ' Ω' => J Γ' Ω' ∧ μ Γ' Ω' < μ Γ Ω }) (fun _ _ q => q) (fun _ _ q => q) (fun _ _ q => nx_rest q) (fun _ _ q => q) (to_mono (f1.trans p.ff) (ht rfl F' σ H' (S.pur p)))⟩
    rintro σ' H' ⟨Γ', Ω', F', S', f', j', l⟩
    exact ⟨_, l, Γ', Ω', F', S', f', j', rfl⟩
  | false => exact iteF (to_mono (f1.trans p.ff) (hf rfl F' σ H' (S.pur p)))
end
section
variable {X : Cx} {Γ Γ1 Γ2 : Ga} {d : D} {ds : List D} {pos : Pos} {tg : Expr} {tgs : List Expr}
end
section
variable {X : Cx} {Γ Γ1 : Ga} {d : D} {ds es : List D} {pos p : Pos} {tg a b : Expr}
end
end L3
set_option Elab.async false
set_option linter.all false
set_option maxRecDepth 100000
set_option maxHeartbeats 4000000
namespace L3
open PySem PySem.Spec PySem.Calls PyProof.Rows L2
section
variable {X : Cx} {Γ : Ga} {tg iter elt : Expr} {ifs : List Expr} {sc SX : Scope} {N XN : List Str} {nt : Nat} {caps : List Nat} {pos : Pos} {ds : List D} {pre : Nat → List D}
end
section
variable {X : Cx} {Γ : Ga} {a e : Expr} {lo hi : Option Expr} {i j : Option Int} {d : D} {ds : List D} {pos p2 : Pos}
end
end L3
set_option Elab.async false
set_option linter.all false
set_option maxRecDepth 100000
set_option maxHeartbeats 4000000
namespace L3
open PySem PySem.Spec PySem.Calls PyProof.Rows L2
def startG (N : List Str) (ds : List D) : Ga := ds.map some ++ List.replicate (N.length - ds.length) none
theorem Sl.start {K : PySem.W.Frag} {F : Hp} {N : List Str} {ds : List D} {vs : List V} (h : IsL K F ds vs) : Sl K F (startG N ds) (L2.start N vs) := fun i d q => by
  unfold startG at q
  unfold L2.start
  have hl := h.len
  by_cases hi : i < ds.length
  · rw [List.getElem?_append_left (by simpa using hi), List.getElem?_map] at q
    rw [List.getElem?_append_left (by rw [List.length_map, hl]; exact hi), List.getElem?_map]
    cases e : ds[i]? with
    | none => rw [e] at q; cases q
    | some d' =>
      rw [e] at q
      cases q
      obtain ⟨v, h1, h2⟩ := h.get e
      exact ⟨v, by rw [h1]; rfl, h2⟩
  · rw [List.getElem?_append_right (by simpa using hi), List.getElem?_replicate] at q
    split at q <;> cases q
theorem Sat.entry {K : PySem.W.Frag} {F H : Hp} {N : List Str} {ds : List D} {vs : List V} (fh : Same F H) (h : IsL K F ds vs) : Sat K ⟨[], F, H⟩ (startG N ds) [] F (L2.start N vs) H :=
  ⟨Same.refl _, fh, fun _ q => .inl q, fun _ _ _ e => e, List.nodup_nil, (fun _ q => absurd q (by simp)), (fun _ q => absurd q (by simp)), Sl.start h⟩
abbrev cx0 (P : Program) (w : World) (K : PySem.W.Frag) (mg : Str → Option Value) (base : Heap) (N : List Str) (x : Str) (st : Stmt) (f : Addr) (cdv : Value) (A : Around) (outer : List Env) (s : Shared) (H : Hp) (E : XK) : Cx := (cxOf CX0 P w K mg base N x (defScope st) f cdv A outer s H E).nox
abbrev cxX (P : Program) (w : World) (K : PySem.W.Frag) (mg : Str → Option Value) (base : Heap) (N : List Str) (x : Str) (st : Stmt) (f : Addr) (cdv : Value) (A : Around) (outer : List Env) (s : Shared) (H : Hp) (E : XK) : Cx := cxOf (CXo P w) P w K mg base N x (defScope st) f cdv A outer s H E
section
variable {P : Program} {w : World} {K : PySem.W.Frag} {mg : Str → Option Value} {base : Heap} {x : Str} {st : Stmt} {N ps : List Str} {k n : Nat}
theorem ok_pure {C : List D → D → Prop} (d : DefK K mg x st ps) (S : FnScope N ps (defScope st)) (hn : ps.length = n)
    (body : ∀ (f : Addr) (cdv : Value) (A : Around) (outer : List Env) (s : Shared) (H : Hp) (E : XK), Room k (A.deeper (envOfC x (defScope st) s.heap.objs.size f cdv)) → ∀ (ds : List D) (r : D), C ds r → ∀ B : Bs, B.M = [] →
      W3 (cx0 P w K mg base N x st f cdv A outer s H E) B (defBody st) (startG N ds) [] ⟨fun _ _ => r = .non, fun r' _ => r' = r, fun _ _ => False, fun _ _ => False⟩) : OkF P w K mg base CX0 (k + 1) x ps (spP K n C) := by
  refine d.ok S (fun vs H Q E h => h.len.trans hn.symm) fun f cdv A outer s H vs Q E hr h => ⟨_, pss_w, ?_⟩
  obtain ⟨ds, r, F, hC, hl, fh, il, q⟩ := h
  refine ends_mono (D := E3.to K ⟨[], F, H⟩ F ⟨fun _ _ => r = .non, fun r' _ => r' = r, fun _ _ => False, fun _ _ => False⟩) (D' := { nx := fun _ H' => Q .non H', rt := Q }) ?_ ?_ ?_ ?_ (body f cdv A outer s H E hr ds r hC ⟨[], F, H⟩ rfl F (L2.start N vs) H (Sat.entry fh il))
  · rintro σ' H' ⟨Γ', Ω', F', S', f', e⟩
    subst e
    exact q _ _ _ (S'.toPur rfl) (i_non F')
  · rintro v H' ⟨d', Ω', F', ⟨σ', S'⟩, f', i', e⟩
    subst e
    exact q _ _ _ (S'.toPur rfl) i'
  · rintro σ' H' ⟨_, _, _, _, _, z⟩
    exact z.elim
  · rintro σ' H' ⟨_, _, _, _, _, z⟩
    exact z.elim
theorem ok_raises {C : List D → Addr → Prop} (d : DefK K mg x st ps) (S : FnScope N ps (defScope st)) (hn : ps.length = n)
    (body : ∀ (f : Addr) (cdv : Value) (A : Around) (outer : List Env) (s : Shared) (H : Hp) (E : XK), Room k (A.deeper (envOfC x (defScope st) s.heap.objs.size f cdv)) → ∀ (ds : List D) (c : Addr), C ds c → ∀ B : Bs, B.M = [] → (∀ Γ Ω F' σ H', Sat K B Γ Ω F' σ H' → E (.ref c) none H') →
      W3 (cxX P w K mg base N x st f cdv A outer s H E) B (defBody st) (startG N ds) [] ⟨fun _ _ => False, fun _ _ => False, fun _ _ => False, fun _ _ => False⟩) : OkF P w K mg base (CXo P w) (k + 1) x ps (spX K n C) := by
  refine d.okX S (fun vs H Q E h => h.len.trans hn.symm) fun f cdv A outer s H vs Q E hr h => ⟨_, pss_w, ?_⟩
  obtain ⟨ds, c, F, hC, hl, fh, il, q⟩ := h
  refine ends_mono (D := E3.to K ⟨[], F, H⟩ F ⟨fun _ _ => False, fun _ _ => False, fun _ _ => False, fun _ _ => False⟩) (D' := { nx := fun _ H' => Q .non H', rt := Q }) ?_ ?_ ?_ ?_ (body f cdv A outer s H E hr ds c hC ⟨[], F, H⟩ rfl (fun Γ Ω F' σ H' S' => q H' F' (S'.toPur rfl)) F (L2.start N vs) H (Sat.entry fh il))
  · rintro σ' H' ⟨_, _, _, _, _, z⟩
    exact z.elim
  · rintro v H' ⟨_, _, _, _, _, _, z⟩
    exact z.elim
  · rintro σ' H' ⟨_, _, _, _, _, z⟩
    exact z.elim
  · rintro σ' H' ⟨_, _, _, _, _, z⟩
    exact z.elim
end
section
variable {X : Cx} {B : Bs} {Γ : Ga} {Ω : Om} {E : E3} {rest : List Stmt} {e : Expr} {es : List Expr} {ds : List D} {pos np cpos p : Pos} {Ex : XK} {C : Addr} {x : Str}
theorem w_raise (hc : X.calm = true) (c : ExCls X.K C) (hg : Gl X x) (hm : X.mg x = some (.ref C)) (ha : PL3 X Γ (e :: es) ds) (hE : Flies X Ex) (h : ∀ F σ H, Sat X.K B Γ Ω F σ H → Ex (.ref C) none H) (hz : ds.length ≤ sizeLine := by (simp only [List.length_cons, List.length_nil]; decide))
    (he : starEach (e :: es) X.env = (false, eval e X.env) :: starEach es X.env := by rfl) (hplain : (backTo cpos (starEach es X.env)).any (·.1) = false := by rfl) (hd : (x == ("__debug__" : Str)) = false := by decide) :
    W3 X B (.Raise (some (.Call (.Name x np) (e :: es) [] cpos)) none pos :: rest) Γ Ω E := fun F σ H S pins s I =>
  pss_cons (ps_raise hc c hg hm ha hE he hplain hd) pss_never pins s σ H _ I ⟨F, S.fh, S.sl, fun vs H' F' pu il => ⟨by rw [il.len]; exact hz, h F' σ H' (S.pur pu)⟩⟩
def R3 (X : Cx) (B : Bs) (Γ : Ga) (Ω : Om) (e : Expr) : Prop := ∀ F σ H, Sat X.K B Γ Ω F σ H → ∀ Q, WE X e σ H Q
theorem r_call {k n : Nat} {ps : List Str} {Cx' : List D → Addr → Prop} (o : OkF X.prog X.w X.K X.mg X.base (CXo X.prog X.w) k x ps (spX X.K n Cx')) (hx : Passes (CXo X.prog X.w) X Ex) (hr : Room k X.A) (hg : Gl X x) (ha : PL3 X Γ (e :: es) ds) (hC : Cx' ds C) (h : ∀ F σ H, Sat X.K B Γ Ω F σ H → Ex (.ref C) none H)
    (hn : ds.length = n := by rfl) (hdb : (x == ("__debug__" : Str)) = false := by decide) (he : starEach (e :: es) X.env = (false, eval e X.env) :: starEach es X.env := by rfl) (hpl : (backTo pos (starEach es X.env)).any (·.1) = false := by rfl) : R3 X B Γ Ω (.Call (.Name x p) (e :: es) [] pos) := fun F σ H S Q pins s I =>
  pe_fnX o hx hr hg ha hdb he hpl pins s σ H Q I ⟨F, S.fh, S.sl, fun vs H' F' pu il => by
    dsimp only
    rw [List.append_nil]
    exact ⟨ds, C, F', hC, hn, pu.fh, il, fun H2 F2 p2 => h F2 σ H2 (S.pur (pu.trans p2))⟩⟩
end
section
variable {X : Cx} {B : Bs} {Γ : Ga} {Ω : Om} {E : E3} {rest : List Stmt} {e : Expr} {ds : List D} {pos pos' : Pos} {x : Str}
end
end L3
set_option Elab.async false
set_option linter.all false
set_option maxRecDepth 100000
set_option maxHeartbeats 4000000
namespace L3
open PySem PySem.Spec PySem.Calls PyProof.Rows L2
def V3 (X : Cx) (B : Bs) (e : Expr) (Γ : Ga) (Ω : Om) (R : D → Om → Prop) : Prop := ∀ F σ H, Sat X.K B Γ Ω F σ H → WE X e σ H fun v H' => ∃ d Ω' F', Sat X.K B Γ Ω' F' σ H' ∧ Same F F' ∧ Is X.K F' d v ∧ R d Ω'
def VT3 (X : Cx) (B : Bs) (e : Expr) (Γ : Ga) (Ω : Om) (R : Bool → Om → Prop) : Prop := ∀ F σ H, Sat X.K B Γ Ω F σ H → WT X e σ H fun k H' => ∃ Ω' F', Sat X.K B Γ Ω' F' σ H' ∧ Same F F' ∧ R k Ω'
theorem WE.mono {X : Cx} {e : Expr} {σ : L2.St} {H : Hp} {Q Q' : VK} (h : WE X e σ H Q) (i : ∀ v H, Q v H → Q' v H) : WE X e σ H Q' := fun pins s I => thn (h pins s I) fun u s' ⟨v, H', I', r, q⟩ => ⟨v, H', I', r, i _ _ q⟩
theorem WT.mono {X : Cx} {e : Expr} {σ : L2.St} {H : Hp} {Q Q' : Bool → Hp → Prop} (h : WT X e σ H Q) (i : ∀ v H, Q v H → Q' v H) : WT X e σ H Q' := fun pins s I => thn (h pins s I) fun u s' ⟨H', I', q⟩ => ⟨H', I', i _ _ q⟩
section
variable {X : Cx} {B : Bs} {Γ : Ga} {Ω : Om} {E : E3} {rest body : List Stmt} {a b c e : Expr} {es : List Expr} {d : D} {ds : List D} {pos pos' p : Pos} {R : D → Om → Prop} {RL : List D → Om → Prop} {RT : Bool → Om → Prop} {k : Bool}
theorem vt_pure (h : PT3 X Γ e k) (r : RT k Ω) : VT3 X B e Γ Ω RT := fun F σ H S => h.wt ⟨F, S.fh, S.sl, fun H' F' p => ⟨Ω, F', S.pur p, p.ff, r⟩⟩
theorem w_retV (h : V3 X B e Γ Ω E.rt) : W3 X B (.Return (some e) pos :: rest) Γ Ω E := fun F σ H S pins s I =>
  pss_cons (ps_ret pe_w) pss_never pins s σ H _ I ((h F σ H S).mono fun v H1 ⟨d, Ω1, F1, S1, f1, i1, h1⟩ => ⟨d, Ω1, F1, ⟨σ, S1.slots Sl.nil⟩, f1, i1, h1⟩)
theorem w_ifV {a b : List Stmt} (h : VT3 X B c Γ Ω fun k Ω1 => (k = true → W3 X B a Γ Ω1 (E.then X B rest)) ∧ (k = false → W3 X B b Γ Ω1 (E.then X B rest))) : W3 X B (.If c a b pos :: rest) Γ Ω E := fun F σ H S pins s I =>
  pss_cons (ps_if pt_w pss_w pss_w) pss_w pins s σ H _ I ((h F σ H S).mono fun k H1 ⟨Ω1, F1, S1, f1, h1, h2⟩ => by
    cases k with
    | true => exact iteT (seq_rest (to_mono f1 (h1 rfl F1 σ H1 S1)))
    | false => exact iteF (seq_rest (to_mono f1 (h2 rfl F1 σ H1 S1))))
end
end L3
set_option Elab.async false
set_option linter.all false
set_option maxRecDepth 100000
set_option maxHeartbeats 4000000
namespace L3
open PySem PySem.Spec PySem.Calls PyProof.Rows L2
section
variable {X : Cx} {B : Bs} {Γ : Ga} {Ω : Om} {E : E3} {rest body : List Stmt} {tg iter a b e : Expr} {es : List Expr} {d : D} {ds : List D} {pos pos' p : Pos} {R : D → Om → Prop} {RL : List D → Om → Prop}
end
end L3
set_option Elab.async false
set_option linter.all false
set_option maxRecDepth 100000
set_option maxHeartbeats 4000000
namespace L3
open PySem PySem.Spec PySem.Calls PyProof.Rows L2
def sh (q : Rat) : D := .tup [.int q.num, .int (q.den : Int)]
def Sz (n : Nat) (q : Rat) : Prop := q.num.natAbs < 2 ^ n ∧ q.den < 2 ^ n
theorem bits_abs {x : Int} {n : Nat} (h : x.natAbs < 2 ^ n) : Builtin.Int.intBits x ≤ n := PySem.intBits_le_iff.mpr h
theorem mul_fit {a b : Int} {m n : Nat} (ha : a.natAbs < 2 ^ m) (hb : b.natAbs < 2 ^ n) (h : m + n ≤ 134217728) : IntMulOk a b := PySem.IntMulOk.of_le (bits_abs ha) (bits_abs hb) h
theorem sz_divInt {t b : Int} {n : Nat} (hb : 0 < b) (h1 : t.natAbs < 2 ^ n) (h2 : b.natAbs < 2 ^ n) : Sz n (Rat.divInt t b) := by
  constructor
  · rw [Rat.num_divInt, Int.sign_eq_one_of_pos hb, Int.one_mul]
    refine Nat.lt_of_le_of_lt ?_ h1
    rw [Int.natAbs_ediv_of_dvd (Int.gcd_dvd_right _ _)]
    exact Nat.div_le_self _ _
  · rw [Rat.den_divInt, if_neg (by omega)]
    exact Nat.lt_of_le_of_lt (Nat.div_le_self _ _) h2
theorem q_nn_add {p q : Rat} (a : 0 ≤ p) (b : 0 ≤ q) : 0 ≤ p + q := by grind
theorem q_nn_div {p q : Rat} (a : 0 ≤ p) (b : 0 < q) : 0 ≤ p / q := by
  rw [Rat.div_def]
  exact Rat.mul_nonneg a (Rat.le_of_lt (Rat.inv_pos.mpr b))
abbrev big : Nat := 67108864
def C_gcd : List D → D → Prop := fun ds d => ∃ a b : Int, ds = [.int a, .int b] ∧ d = .int (My.G a b) ∧ 0 ≤ a ∧ 0 ≤ b
def C_share : List D → D → Prop := fun ds d => ∃ t b : Int, ds = [.int t, .int b] ∧ d = sh (Rat.divInt t b) ∧ 0 ≤ t ∧ 0 < b
def C_op (f : Rat → Rat → Rat) (C : Rat → Rat → Prop) : List D → D → Prop := fun ds d => ∃ (p q : Rat) (m n : Nat), ds = [sh p, sh q] ∧ d = sh (f p q) ∧ 0 ≤ p ∧ 0 ≤ q ∧ Sz m p ∧ Sz n q ∧ m ≤ big ∧ n ≤ big ∧ C p q
abbrev C_added := C_op (fun p q => p + q) fun _ _ => True
abbrev C_timed := C_op (fun p q => p * q) fun _ _ => True
abbrev C_lessened := C_op (fun p q => p - q) fun p q => q ≤ p
abbrev C_parted := C_op (fun p q => p / q) fun _ q => 0 < q
def C_less : List D → D → Prop := fun ds d => ∃ (p q : Rat) (m n : Nat), ds = [sh p, sh q] ∧ d = .bl (decide (p < q)) ∧ Sz m p ∧ Sz n q ∧ m ≤ big ∧ n ≤ big
theorem den_abs {q : Rat} {n : Nat} (h : Sz n q) : ((q.den : Int)).natAbs < 2 ^ n := h.2
theorem fit_nd {p q : Rat} {m n : Nat} (hp : Sz m p) (hq : Sz n q) (h1 : m ≤ big) (h2 : n ≤ big) : IntMulOk p.num q.den := mul_fit hp.1 (den_abs hq) (by have : big = 67108864 := rfl; omega)
theorem fit_nn {p q : Rat} {m n : Nat} (hp : Sz m p) (hq : Sz n q) (h1 : m ≤ big) (h2 : n ≤ big) : IntMulOk p.num q.num := mul_fit hp.1 hq.1 (by have : big = 67108864 := rfl; omega)
theorem fit_dd {p q : Rat} {m n : Nat} (hp : Sz m p) (hq : Sz n q) (h1 : m ≤ big) (h2 : n ≤ big) : IntMulOk p.den q.den := mul_fit (den_abs hp) (den_abs hq) (by have : big = 67108864 := rfl; omega)
theorem sh_inj {p q : Rat} (h : sh p = sh q) : p = q := by
  unfold sh at h
  simp only [D.tup.injEq, List.cons.injEq, D.int.injEq, and_true] at h
  exact My.q_inj h.1 h.2
theorem beq_sh {p q : Rat} : beqD (sh p) (sh q) = decide (p = q) := by
  by_cases h : p = q
  · subst h
    rw [beqD_refl (by rfl)]
    simp
  · rw [beqD_ne (fun z => h (sh_inj z)), decide_eq_false h]
theorem kin_sh {p q : Rat} : kin (sh p) (sh q) = true := by rfl
theorem dep_sh {p : Rat} : dep (sh p) ≤ 60 := by
  show max 0 (max 0 0) + 1 ≤ 60
  decide
def GlobD (K : PySem.W.Frag) (mg : Str → Option Value) (x : Str) (d : D) : Prop := ∃ (v : V) (u : Value), mg x = some u ∧ RelV v u ∧ ∀ F, Is K F d v
theorem p_globD {X : Cx} {Γ : Ga} {x : Str} {d : D} {pos : Pos} (h : GlobD X.K X.mg x d) (hg : Gl X x) (hd : (x == ("__debug__" : Str)) = false := by decide) : P3 X Γ (.Name x pos) d := by
  obtain ⟨v, u, hm, r, i⟩ := h
  exact p_glob hg hm r i hd
structure Zs (mg : Str → Option Value) : Prop where
  len : mg "len" = none
  range : mg "range" = none
  list : mg "list" = none
  tuple : mg "tuple" = none
  int : mg "int" = none
  bool : mg "bool" = none
  str : mg "str" = none
  dict : mg "dict" = none
  isinstance : mg "isinstance" = none
  sum : mg "sum" = none
  enumerate : mg "enumerate" = none
  zip : mg "zip" = none
  ValueError : mg "ValueError" = none
  all : mg "all" = none
  any : mg "any" = none
  reversed : mg "reversed" = none
theorem emod_in {a b : Int} (p : 0 < b) : 0 ≤ a % b ∧ a % b < b := ⟨Int.emod_nonneg a (by omega), Int.emod_lt_of_pos a p⟩
theorem G_turnE {a b : Int} (ha : 0 ≤ a) (hb : 0 < b) : My.G b (a % b) = My.G a b := by
  rw [← Int.fmod_eq_emod_of_nonneg a (Int.le_of_lt hb)]
  exact My.G_turn ha hb
theorem dd_pos {p q : Rat} : (0 : Int) < p.den * q.den := Int.mul_pos (My.den_pos' p) (My.den_pos' q)
theorem sum_nn {p q : Rat} (hp : 0 ≤ p) (hq : 0 ≤ q) : 0 ≤ p.num * q.den + q.num * p.den :=
  Int.add_nonneg (Int.mul_nonneg (My.q_num_nn hp) (Int.le_of_lt (My.den_pos' q))) (Int.mul_nonneg (My.q_num_nn hq) (Int.le_of_lt (My.den_pos' p)))
theorem sub_nn {p q : Rat} (h : q ≤ p) : 0 ≤ p.num * q.den - q.num * p.den := by
  have := (Rat.le_iff q p).mp h
  omega
def C_cell : List D → D → Prop := fun ds d => ∃ (ns : List Int) (k : Nat), ds = [.scr ns, .int (k : Int)] ∧ d = .int (ns.getD k 0)
def C_whole : List D → D → Prop := fun ds d => ∃ i : Int, ds = [.int i] ∧ d = .bl true
def C_isShare : List D → D → Prop := fun ds d => ∃ q : Rat, ds = [sh q] ∧ d = .bl true ∧ 0 ≤ q
end L3
set_option Elab.async false
set_option linter.all false
set_option maxRecDepth 100000
set_option maxHeartbeats 4000000
namespace L3
open PySem PySem.Spec PySem.Calls PyProof.Rows L2
end L3
namespace L3
open PySem PySem.Spec PySem.Calls PyProof.Rows L2
end L3
namespace L3
open PySem PySem.Spec PySem.Calls PyProof.Rows L2
end L3
set_option Elab.async false
set_option linter.all false
set_option maxRecDepth 100000
set_option maxHeartbeats 4000000
namespace L3
open PySem PySem.Spec PySem.Calls PyProof.Rows L2
section
variable {X : Cx} {B : Bs} {Γ : Ga} {Ω : Om} {E : E3} {rest body : List Stmt} {tg iter a b e : Expr} {es : List Expr} {d : D} {ds : List D} {pos pos' p : Pos} {RL : List D → Om → Prop} {RT : Bool → Om → Prop}
end
section
variable {P : Program} {w : World} {K : PySem.W.Frag} {mg : Str → Option Value} {base : Heap} {x : Str} {st : Stmt} {N ps : List Str} {k n : Nat}
end
end L3
set_option Elab.async false
set_option linter.all false
set_option maxRecDepth 100000
set_option maxHeartbeats 4000000
namespace L3
open PySem PySem.Spec PySem.Calls PyProof.Rows L2
end L3
set_option Elab.async false
set_option linter.all false
set_option maxRecDepth 100000
set_option maxHeartbeats 4000000
namespace L3
open PySem PySem.Spec PySem.Calls PyProof.Rows L2
end L3
set_option Elab.async false
set_option linter.all false
set_option maxRecDepth 100000
set_option maxHeartbeats 4000000
namespace L3
open PySem PySem.Spec PySem.Calls PyProof.Rows L2
end L3
namespace L3
open PySem PySem.Spec PySem.Calls PyProof.Rows L2
theorem globPair {K : PySem.W.Frag} {h : Heap} {mg : Str → Option Value} (X : K.In h) (G : h.Ns mainGlobals mg) {x : Str} {l : Addr} {od : Option Addr} {i j : Int} {t u : Tok} {n : Nat} {sl : Array (Option Value)} (a : PySem.W.nsIn K mainGlobals x = some (some (.ref l)))
    (lk : K.lookup l = some ⟨.type "tuple", od, .seq #[.int i t, .int j u] n, sl⟩) : GlobD K mg x (.tup [.int i, .int j]) :=
  ⟨.ref l, .ref l, PySem.W.mg_of X G a, rfl, fun F => Is.tupI (xs := [.int i, .int j]) (.inr ⟨_, _, _, lk, rfl, rfl, by show 2 ≤ sizeLine; decide, .cons ⟨_, rfl⟩ (.cons ⟨_, rfl⟩ .nil)⟩) (IsL.cons (i_int F) (IsL.cons (i_int F) IsL.nil))⟩
end L3
set_option Elab.async false
set_option linter.all false
set_option maxRecDepth 100000
set_option maxHeartbeats 4000000
namespace L3
open PySem PySem.Spec PySem.Calls PyProof.Rows L2
theorem dv_le {a g : Int} (h : 0 ≤ a) (hg : 0 < g) : 0 ≤ a / g ∧ a / g ≤ a := ⟨Int.ediv_nonneg h (Int.le_of_lt hg), Int.ediv_le_self _ h⟩
theorem dv_fit {a b : Int} {n : Nat} (h : 0 ≤ b ∧ b ≤ a) (ha : a.natAbs < 2 ^ n) : b.natAbs < 2 ^ n := by omega
theorem pow_mono {m n : Nat} (h : m ≤ n) : 2 ^ m ≤ 2 ^ n := Nat.pow_le_pow_right (by decide) h
theorem sh_mul (p q : Rat) : sh (p * q) = D.tup [D.int ((Rat.divInt p.num q.den).num * (Rat.divInt q.num p.den).num), D.int (((Rat.divInt p.num q.den).den : Int) * ((Rat.divInt q.num p.den).den : Int))] := by
  unfold sh
  rw [My.mul_num, My.mul_den, ← My.num_share (My.den_pos' q), ← My.num_share (My.den_pos' p), ← My.den_share (My.den_pos' q), ← My.den_share (My.den_pos' p), Int.natCast_mul, Int.natCast_ediv, Int.natCast_ediv,
    Int.fdiv_eq_ediv_of_nonneg _ (Int.le_of_lt (My.G_pos (My.den_pos' q))), Int.fdiv_eq_ediv_of_nonneg _ (Int.le_of_lt (My.G_pos (My.den_pos' p))), Int.fdiv_eq_ediv_of_nonneg _ (Int.le_of_lt (My.G_pos (My.den_pos' q))), Int.fdiv_eq_ediv_of_nonneg _ (Int.le_of_lt (My.G_pos (My.den_pos' p)))]
  rfl
theorem inv_parts {q : Rat} (h : 0 < q) : q⁻¹.num = (q.den : Int) ∧ (q⁻¹.den : Int) = q.num := by
  have hp := My.q_num_pos h
  rw [Rat.num_inv, Rat.den_inv]
  constructor
  · rw [Int.sign_eq_one_of_pos hp, Int.one_mul]
  · rw [if_neg (by omega)]
    omega
theorem sh_inv {q : Rat} (h : 0 < q) : sh q⁻¹ = D.tup [D.int (q.den : Int), D.int q.num] := by
  unfold sh
  rw [(inv_parts h).1, (inv_parts h).2]
theorem sz_inv {q : Rat} {n : Nat} (h : 0 < q) (s : Sz n q) : Sz n q⁻¹ := by
  have e := inv_parts h
  have hp := My.q_num_pos h
  obtain ⟨s1, s2⟩ := s
  refine ⟨?_, ?_⟩
  · rw [e.1]; exact s2
  · have := e.2
    omega
end L3
set_option Elab.async false
set_option linter.all false
set_option maxRecDepth 100000
set_option maxHeartbeats 4000000
namespace L3
open PySem PySem.Spec PySem.Calls PyProof.Rows L2
end L3
set_option Elab.async false
set_option linter.all false
set_option maxRecDepth 100000
set_option maxHeartbeats 4000000
namespace L2
open PySem PySem.Spec PySem.Calls PyProof.Rows
section
variable {X : Cx}
end
end L2
namespace L3
open PySem PySem.Spec PySem.Calls PyProof.Rows L2
section
variable {X : Cx} {Γ : Ga} {tg a b c : Expr} {pos p : Pos} {x y z : Str} {bs : List Bool}
end
section
variable {L : Bool} {K : PySem.W.Frag} {B : Bs} {Γ Γ' : Ga} {Ω : Om} {F F1 : Hp} {σ : L2.St} {H H1 : Hp}
end
section
variable {X : Cx} {B : Bs} {Γ Γ' : Ga} {Ω : Om} {E : E3} {rest : List Stmt} {e : Expr} {d : D} {ds : List D} {k : Bool} {R : D → Om → Prop} {RT : Bool → Om → Prop} {L : Bool}
end
end L3
set_option Elab.async false
set_option linter.all false
set_option maxRecDepth 100000
set_option maxHeartbeats 4000000
namespace L2
open PySem PySem.Spec PySem.Calls PyProof.Rows
section
variable {P : Program} {w : World} {K : PySem.W.Frag} {mg : Str → Option Value} {base : Heap} {C : Addr} {m q x : Str} {st : Stmt} {N ps : List Str} {k : Nat} {sp : Sp}
end
end L2
namespace L3
open PySem PySem.Spec PySem.Calls PyProof.Rows L2
section
variable {X : Cx} {B : Bs} {Γ : Ga} {Ω : Om} {E : E3} {rest : List Stmt} {e o : Expr} {es : List Expr} {d : D} {ds : List D} {C : Addr} {fs : List Str} {f : Str} {pos pos' p apos : Pos} {R : D → Om → Prop}
end
section
variable {X : Cx} {sts : List Stmt} {N : List Str} {n : Nat} {vs : List V} {H : Hp} {Q : VK} {E : XK}
end
section
variable {P : Program} {w : World} {K : PySem.W.Frag} {mg : Str → Option Value} {base : Heap} {x m q : Str} {st : Stmt} {N ps : List Str} {k n : Nat} {Cc : Addr}
end
section
variable {X : Cx} {Γ : Ga} {d : D} {ds gs : List D} {n k : Nat} {Cc : Addr} {fs : List Str} {x m : Str} {ps : List Str} {e o : Expr} {es : List Expr} {p pos apos : Pos}
end
end L3
set_option Elab.async false
set_option linter.all false
set_option maxRecDepth 100000
set_option maxHeartbeats 4000000
namespace L2
open PySem PySem.Spec PySem.Calls PyProof.Rows
section
variable {P : Program} {w : World} {A : Around} {E : Value → Shared → Prop} {s : Shared}
end
end L2
set_option Elab.async false
set_option linter.all false
set_option maxRecDepth 100000
set_option maxHeartbeats 4000000
namespace L3
open PySem PySem.Spec PySem.Calls PyProof.Rows L2
section
variable {X : Cx} {pins : List (Addr × Obj)} {σ : L2.St} {H : Hp} {s : Shared}
end
section
variable {X : Cx} {pins : List (Addr × Obj)} {σ : L2.St} {H : Hp} {s : Shared} {l : Addr} {xs : List (List K2 × Addr × Value)} {kvs : List (List K2 × D)}
end
section
variable {X : Cx}
end
section
variable {X : Cx} {B : Bs} {Γ : Ga} {Ω : Om} {E : E3} {rest : List Stmt} {a b e o i : Expr} {pos pos' spos tpos : Pos} {R : D → Om → Prop} {RT : Bool → Om → Prop} {x : Str}
end
end L3
set_option Elab.async false
set_option linter.all false
set_option maxRecDepth 100000
set_option maxHeartbeats 4000000
namespace L3
open PySem PySem.Spec PySem.Calls PyProof.Rows L2
section
variable {X : Cx} {Γ : Ga} {a b c : Expr} {pos : Pos} {x y z : Str}
end
section
variable {P : Program} {w : World} {K : PySem.W.Frag} {mg : Str → Option Value} {base : Heap} {x q : Str} {st : Stmt} {N ps : List Str} {k n : Nat} {Cc : Addr}
end
end L3
set_option Elab.async false
set_option linter.all false
set_option maxRecDepth 100000
set_option maxHeartbeats 4000000
namespace L2
open PySem PySem.Spec PySem.Calls PyProof.Rows
end L2
namespace L3
open PySem PySem.Spec PySem.Calls PyProof.Rows L2
section
variable {X : Cx} {B : Bs} {Γ : Ga} {Ω : Om} {E : E3} {rest : List Stmt} {a b e : Expr} {es : List Expr} {pos p : Pos} {ds gs : List D} {x : Str} {k n : Nat} {R : D → Om → Prop}
end
end L3
set_option Elab.async false
set_option linter.all false
set_option maxRecDepth 100000
set_option maxHeartbeats 4000000
namespace L3
open PySem PySem.Spec PySem.Calls PyProof.Rows L2
end L3
set_option Elab.async false
set_option linter.all false
set_option maxRecDepth 100000
set_option maxHeartbeats 4000000
namespace L3
open PySem
end L3
set_option Elab.async false
set_option linter.all false
set_option maxRecDepth 100000
set_option maxHeartbeats 4000000
namespace L3
open PySem PySem.Spec PySem.Calls PyProof.Rows L2
section
variable {X : Cx} {B : Bs} {Γ : Ga} {Ω : Om} {a l e : Expr} {pos p2 : Pos} {R : D → Om → Prop}
end
section
variable {X : Cx} {B : Bs} {Γ : Ga} {Ω : Om} {E : E3} {rest body : List Stmt} {e c : Expr} {pos : Pos}
theorem W3.nx {J N : Ga → Om → Prop} {sts : List Stmt} (h : W3 X B sts Γ Ω { E with nx := J }) (i : ∀ Γ Ω, J Γ Ω → N Γ Ω) : W3 X B sts Γ Ω { E with nx := N } := fun F σ H S =>
  ends_mono (D := E3.to X.K B F { E with nx := J }) (D' := E3.to X.K B F { E with nx := N }) (fun _ _ ⟨Γ', Ω', F', S', f', n⟩ => ⟨Γ', Ω', F', S', f', i _ _ n⟩) (fun _ _ q => q) (fun _ _ q => q) (fun _ _ q => q) (h F σ H S)
theorem w_ifV2 {a b : List Stmt} (J : Ga → Om → Prop) (h : VT3 X B c Γ Ω fun k Ω1 => (k = true → W3 X B a Γ Ω1 { E with nx := J }) ∧ (k = false → W3 X B b Γ Ω1 { E with nx := J })) (hr : ∀ Γ Ω, J Γ Ω → W3 X B rest Γ Ω E) : W3 X B (.If c a b pos :: rest) Γ Ω E :=
  w_ifV fun F σ H S => (h F σ H S).mono fun k H' ⟨Ω', F', S', f', h1, h2⟩ => ⟨Ω', F', S', f', fun q => (h1 q).nx hr, fun q => (h2 q).nx hr⟩
end
end L3
namespace L3
open PySem PySem.Spec PySem.Calls PyProof.Rows L2
end L3
set_option Elab.async false
set_option linter.all false
set_option maxRecDepth 100000
set_option maxHeartbeats 4000000
namespace L3
open PySem PySem.Spec PySem.Calls PyProof.Rows L2
end L3
namespace L3
open PySem PySem.Spec PySem.Calls PyProof.Rows L2
end L3
namespace L3
open PySem PySem.Spec PySem.Calls PyProof.Rows L2
end L3
namespace L3
end L3
namespace L3
open PySem
end L3
namespace L3
open PySem
end L3
namespace L3
open PySem
end L3
set_option Elab.async false
set_option linter.all false
set_option maxRecDepth 100000
set_option maxHeartbeats 4000000
namespace L3
open PySem PySem.Spec PySem.Calls PyProof.Rows L2
end L3
set_option Elab.async false
set_option linter.all false
set_option maxRecDepth 100000
set_option maxHeartbeats 4000000
namespace L3
open PySem PySem.Spec PySem.Calls PyProof.Rows L2
section
variable {hs ws : List Str} {rs : List Rule} {st : Str}
end
end L3
namespace L3
open PySem PySem.Spec PySem.Calls PyProof.Rows L2
end L3
namespace L3
open PySem PySem.Spec PySem.Calls PyProof.Rows L2
end L3
set_option Elab.async false
set_option linter.all false
set_option maxRecDepth 100000
set_option maxHeartbeats 4000000
namespace L3
open PySem PySem.Spec PySem.Calls PyProof.Rows L2
structure Lam where
  qual : Str
  params : Arguments
  body : Expr
  scope : Scope
def lamO (L : Lam) (f c : Addr) : HO := .ext fun h => ∃ pm ctv, h.get? f = some (PySem.W.kla_obj "<lambda>" L.qual L.params L.body L.scope [] pm c ctv)
def codeO (L : Lam) (c : Addr) : HO := .ext fun h => ∃ oc vs t, h.get? c = some oc ∧ oc.data = .fields vs ∧ vs[1]? = some (.str L.qual t)
theorem lam_run {CX : CXT} {P : Program} {w : World} {K : PySem.W.Frag} {mg : Str → Option Value} {base : Heap} {L : Lam} {f c : Addr} {N ps : List Str} {k : Nat} {A : Around} {outer : List Env} {s : Shared} {H : Hp} {us : List Value} {vs : List V} {Q : VK} {E : XK}
    (hr : Room (k + 1) A) (e0 : Env0 P w K mg base A outer s H) (hf : H f = some (lamO L f c)) (hc : H c = some (codeO L c)) (S : FnScope N ps L.scope)
    (hb : ∀ (pm ctv : Value) (us : List Value), us.length = ps.length → bindArgs (PySem.W.kla_fn "<lambda>" L.qual L.params L.body L.scope [] pm (.ref c) ctv) ⟨us, []⟩ = pure (ps.zip us)) (hl : vs.length = ps.length) (r : Vals vs us)
    (hbody : Room k (A.deeper (envOfC L.qual L.scope s.heap.objs.size f (.ref c))) → ∃ t, PE (cxOf CX P w K mg base N L.qual L.scope f (.ref c) A outer s H E) L.body t ∧ t (L2.start N vs) H Q) :
    codeAny (model P w) A (.call (.ref f) ⟨us, []⟩) (CR CX outer P w H s Q E) s := by
  obtain ⟨⟨pm, ctv, ho⟩, _, _⟩ := e0.hok f _ hf
  obtain ⟨⟨oc, cvs, tk, h1, h2, h3⟩, _, _⟩ := e0.hok c _ hc
  have lim : s.heap.NoLimit := e0.mod.nolimit.keeps fun b o e => (e0.bs b o e).1
  have hkind : ∀ y ∈ ps.zip us, L.scope.names.lookup y.1 = some .local ∨ (L.scope.names.lookup y.1 = some .cell ∧ ((cellsFrom (s.heap.objs.size + 1) L.scope.names []).lookup y.1).isSome = true) := fun ⟨n, v⟩ hy => by
    rcases S.par n (List.of_mem_zip hy).1 with q | q
    · exact .inl q
    · exact .inr ⟨q, PySem.W.cellsFrom_some _ _ _ (.inl q)⟩
  refine PySem.W.kla_callFunE hr.depth ho rfl S.co S.gen rfl ⟨c, oc, cvs, tk, rfl, h1, h2, h3⟩ ?_
  rw [hb pm ctv us (by rw [← r.length]; exact hl)]
  refine wpAny_pure ?_
  refine wpAny_newFunctionEnv_cells S.kind hkind fun env he s1 x => ?_
  subst he
  refine ⟨lim.keeps x.toInCall.keep, PySem.W.kla_codeExpr ?_⟩
  obtain ⟨t, ht, hq⟩ := hbody (hr.deeper _)
  have I : Inv (cxOf CX P w K mg base N L.qual L.scope f (.ref c) A outer s H E) [] (L2.start N vs) H s1 := inv_start S hr.hd e0 hl r x
  refine wpAny_mono (ht [] s1 (L2.start N vs) H Q I hq) (fun v s' hs => ?_) fun e s' hs => hs
  obtain ⟨v', H', J, rv, q⟩ := hs
  exact ⟨v', H', J.os, J.bare, J.base, J.hok, rv, q⟩
theorem px_callV {X : Cx} {L : Lam} {f c : Addr} {N ps : List Str} {k : Nat} {sp : Sp} {x : Str} {p pos : Pos} {e : Expr} {es : List Expr} {tn : TE} {t : TA} (hr : Room (k + 1) X.A) (hv : PE X.nox (.Name x p) tn) (ha : PA X.nox (e :: es) t) (S : FnScope N ps L.scope)
    (hb : ∀ (pm ctv : Value) (us : List Value), us.length = ps.length → bindArgs (PySem.W.kla_fn "<lambda>" L.qual L.params L.body L.scope [] pm (.ref c) ctv) ⟨us, []⟩ = pure (ps.zip us))
    (hbody : ∀ (s : Shared) (H : Hp) (vs : List V) (Q : VK) (E : XK), Room k (X.A.deeper (envOfC L.qual L.scope s.heap.objs.size f (.ref c))) → sp vs H Q E → ∃ t, PE (cxOf (CXo X.prog X.w) X.prog X.w X.K X.mg X.base N L.qual L.scope f (.ref c) X.A X.stack s H E) L.body t ∧ t (L2.start N vs) H Q)
    (he : starEach (e :: es) X.env = (false, eval e X.env) :: starEach es X.env := by rfl) (hpl : (backTo pos (starEach es X.env)).any (·.1) = false := by rfl) :
    PX X (.Call (.Name x p) (e :: es) [] pos) (fun σ H Q E => tn σ H fun v H0 => v = .ref f ∧ H0 f = some (lamO L f c) ∧ t σ H0 fun vs H1 => H1 f = some (lamO L f c) ∧ H1 c = some (codeO L c) ∧ vs.length = ps.length ∧ sp vs H1 Q E) := by
  intro pins s σ H Q E I h
  have at_ : ∀ {H : Hp} {s : Shared}, Inv X pins σ H s → H f = some (lamO L f c) → PySem.W.FnAt f s.heap := fun {H s} I h => by
    obtain ⟨⟨pm, ctv, ho⟩, _, _⟩ := I.hok f _ h
    exact ⟨_, _, _, _, ho⟩
  refine wpAny_Call_Name_kw (wpAny_mono (hv pins s σ H _ (I.wish _) h) (fun u s0 ⟨v, H0, I0', rv, e0, hf0, h0⟩ => ?_) fun _ _ z => False.elim z)
  subst e0
  obtain rfl : u = Value.ref f := rv
  have I0 := I0'.unwish
  refine PySem.W.callWith_F (at_ I0 hf0) (wpAny_mono (ha pos pins s0 σ H0 _ (I0.wish _) h0) (fun us s1 ⟨vs, H1, I1', r, hf1, hc1, hl, q⟩ => ?_) fun _ _ z => False.elim z) he hpl
  have I1 := I1'.unwish
  refine ⟨at_ I1 hf1, ?_⟩
  refine wpAny_call (codeAny_mono (lam_run (Q := Q) (E := E) hr I1.env0 hf1 hc1 S hb hl r fun rm => hbody s1 H1 vs Q E rm q) fun r s' hq => ?_)
  cases r with
  | error ev => exact ⟨H1, s1, I1, hq⟩
  | ok fl =>
    cases fl with
    | next => exact False.elim hq
    | brk => exact False.elim hq
    | cont => exact False.elim hq
    | ret u =>
      exact I1.after hq
theorem w_tryLam {X : Cx} {B : Bs} {Γ : Ga} {Ω : Om} {E : E3} {rest : List Stmt} {L : Lam} {f c : Addr} {N ps : List Str} {k : Nat} {x cn : Str} {e : Expr} {es : List Expr} {ds : List D} {pos np cpos p epos hpos : Pos} {cls Cc : Addr} {b₀ : Stmt} {suite : List Stmt}
    (O : Own X) (hc : X.calm = true) (hr : Room (k + 1) X.A) (hBf : B.F f = some (lamO L f c)) (hBc : B.F c = some (codeO L c)) (hv : P3 X.nox Γ (.Name x p) (.raw (.ref f))) (ha : PL3 X.nox Γ (e :: es) ds) (S : FnScope N ps L.scope) (hn : ds.length = ps.length)
    (hb : ∀ (pm ctv : Value) (us : List Value), us.length = ps.length → bindArgs (PySem.W.kla_fn "<lambda>" L.qual L.params L.body L.scope [] pm (.ref c) ctv) ⟨us, []⟩ = pure (ps.zip us))
    (hbody : ∀ (s : Shared) (H : Hp) (Ex : XK), Room k (X.A.deeper (envOfC L.qual L.scope s.heap.objs.size f (.ref c))) → ∀ B' : Bs, (∀ Γ Ω F σ H, Sat X.K B' Γ Ω F σ H → Ex (.ref cls) none H) →
      R3 (cxOf (CXo X.prog X.w) X.prog X.w X.K X.mg X.base N L.qual L.scope f (.ref c) X.A X.stack s H Ex) B' (startG N ds) [] L.body)
    (hg : Gl X cn) (hm : X.mg cn = some (.ref Cc)) (hx : PySem.W.exmOne X.K (.ref cls) (.ref Cc) = some true)
    (hs : ∀ ea, W3 (X.marked ea) B (b₀ :: suite) Γ Ω ⟨fun _ _ => False, E.rt, fun _ _ => False, fun _ _ => False⟩)
    (he : starEach (e :: es) X.env = (false, eval e X.env) :: starEach es X.env := by rfl) (hpl : (backTo cpos (starEach es X.env)).any (·.1) = false := by rfl)
    (hw : swapsWith (.Call (.Name x p) (e :: es) [] cpos) none epos.line X.env = pure false := by rfl) (hd : (cn == ("__debug__" : Str)) = false := by decide) :
    W3 X B (.Try [.Expr (.Call (.Name x p) (e :: es) [] cpos) epos] [.ExceptHandler (some (.Name cn np)) none (b₀ :: suite) hpos] [] [] pos :: rest) Γ Ω E := fun F σ H S0 pins s I => by
  refine pss_cons (ps_try0 O hc (px_callV (L := L) (f := f) (c := c) (N := N) (ps := ps) (k := k) (sp := fun vs H Q Ex => ∃ F, Same F H ∧ IsL X.K F ds vs ∧ ∀ H2 F2, Pur F H F2 H2 → Ex (.ref cls) none H2) hr hv ha S hb (fun s H vs Q Ex rm ⟨F, fh, il, q⟩ => ⟨_, pe_w, hbody s H Ex rm ⟨[], F, H⟩ (fun _ _ F2 _ H2 S2 => q H2 F2 (S2.toPur rfl)) F _ H (Sat.entry fh il) Q⟩) he hpl) hg hm (fun ea => pss_w) hw hd) pss_never pins s σ H _ I ?_
  refine ⟨F, S0.fh, S0.sl, fun v H0 F0 p0 i0 => ⟨isR i0, p0.fh _ _ (p0.ff _ _ (S0.f0 _ _ hBf)), F0, p0.fh, S0.sl.mono p0.ff, fun vs H1 F1 p1 il => ⟨p1.fh _ _ (p1.ff _ _ (p0.ff _ _ (S0.f0 _ _ hBf))), p1.fh _ _ (p1.ff _ _ (p0.ff _ _ (S0.f0 _ _ hBc))), il.len.trans hn, F1, p1.fh, il, fun H2 F2 p2 => ⟨hx, fun ea hea => ?_⟩⟩⟩⟩
  have P2 := ((p0.trans p1).trans p2).trans (Pur.lay (o := xobj ea (.ref cls)) p2.fh hea)
  refine ends_mono (D := E3.to X.K B _ ⟨fun _ _ => False, E.rt, fun _ _ => False, fun _ _ => False⟩) (D' := { nx := fun _ _ => False, rt := (E.to X.K B F).rt }) ?_ ?_ ?_ ?_ (to_mono P2.ff (hs ea _ _ _ (S0.pur P2)))
  · rintro σ' H' ⟨_, _, _, _, _, z⟩
    exact z
  · rintro v H' q
    exact q
  · rintro σ' H' ⟨_, _, _, _, _, z⟩
    exact z
  · rintro σ' H' ⟨_, _, _, _, _, z⟩
    exact z
def spLam (K : PySem.W.Frag) (n : Nat) (L : Lam) (C : List D → D → Prop) : Sp := fun vs H Q _ => ∃ f c us ds d F, vs = .ref f :: us ∧ ds.length + 1 = n ∧ Same F H ∧ F f = some (lamO L f c) ∧ F c = some (codeO L c) ∧ IsL K F ds us ∧ C ds d ∧ ∀ v H' F', Pur F H F' H' → Is K F' d v → Q v H'
section
variable {P : Program} {w : World} {K : PySem.W.Frag} {mg : Str → Option Value} {base : Heap} {x : Str} {st : Stmt} {N ps : List Str} {k n : Nat}
theorem ok_lam {L : Lam} {C : List D → D → Prop} (d : DefK K mg x st ps) (S : FnScope N ps (defScope st)) (hn : ps.length = n)
    (body : ∀ (f0 : Addr) (cdv : Value) (A : Around) (outer : List Env) (s : Shared) (H : Hp) (E : XK), Room k (A.deeper (envOfC x (defScope st) s.heap.objs.size f0 cdv)) → ∀ (f c : Addr) (ds : List D) (r : D), C ds r → ∀ B : Bs, B.M = [] → B.F f = some (lamO L f c) → B.F c = some (codeO L c) →
      W3 (cx0 P w K mg base N x st f0 cdv A outer s H E) B (defBody st) (startG N (.raw (.ref f) :: ds)) [] ⟨fun _ _ => False, fun r' _ => r' = r, fun _ _ => False, fun _ _ => False⟩) : OkF P w K mg base CX0 (k + 1) x ps (spLam K n L C) := by
  refine d.ok S (fun vs H Q E h => ?_) fun f0 cdv A outer s H vs Q E hr h => ⟨_, pss_w, ?_⟩
  · obtain ⟨f, c, us, ds, r, F, rfl, hl, _, _, _, il, _⟩ := h
    rw [List.length_cons, il.len, hl, hn]
  · obtain ⟨f, c, us, ds, r, F, rfl, hl, fh, hf, hc, il, hC, q⟩ := h
    refine ends_mono (D := E3.to K ⟨[], F, H⟩ F ⟨fun _ _ => False, fun r' _ => r' = r, fun _ _ => False, fun _ _ => False⟩) (D' := { nx := fun _ H' => Q .non H', rt := Q }) ?_ ?_ ?_ ?_ (body f0 cdv A outer s H E hr f c ds r hC ⟨[], F, H⟩ rfl hf hc F (L2.start N (.ref f :: us)) H (Sat.entry fh (IsL.cons (i_raw F) il)))
    · rintro σ' H' ⟨_, _, _, _, _, z⟩
      exact z.elim
    · rintro v H' ⟨d', Ω', F', ⟨σ', S'⟩, f', i', e⟩
      subst e
      exact q _ _ _ (S'.toPur rfl) i'
    · rintro σ' H' ⟨_, _, _, _, _, z⟩
      exact z.elim
    · rintro σ' H' ⟨_, _, _, _, _, z⟩
      exact z.elim
end
theorem we_lambda {X : Cx} {pins : List (Addr × Obj)} {σ : L2.St} {H : Hp} {s : Shared} {params : Arguments} {body : Expr} {scope : Scope} {lpos : Pos} {c0 P0 : Addr} {Q : VK} (I : Inv X pins σ H s) (C : PySem.W.CodeHd X.base c0 P0) (hcode : X.env.code = .ref c0) (hBA : X.base.BuiltinsAt X.mg P0)
    (hP : H P0 = some (.tbl #[])) (hdef : defaultsOf params X.env = ([], [])) (hcl : closureFor scope X.env = pure [])
    (h : ∀ f c ps', H f = none → H c = none → f ≠ c → Q (.ref f) (upd (upd (upd H P0 (.tbl ps')) c (codeO ⟨X.env.qual ++ "<lambda>", params, body, scope⟩ c)) f (lamO ⟨X.env.qual ++ "<lambda>", params, body, scope⟩ f c))) :
    wpAny (model X.prog X.w) X.A (eval (.Lambda params body scope lpos) X.env) (EP X pins σ Q) X.xe s := by
  have hPs : s.heap.get? P0 = some (PySem.W.tabObj #[]) := I.hok P0 _ hP
  have hg := I.mod.glob.keeps I.bk
  have hgP : mainGlobals ≠ P0 := fun q => by
    obtain ⟨o, es, ep, e, hd, _⟩ := hg
    rw [q, hPs] at e; cases e; cases hd
  have hB' : s.heap.BuiltinsAt X.mg P0 := by
    obtain ⟨bm, o, b1, b2, b3, b4, b5, b6⟩ := hBA
    exact ⟨bm, o, b1, b2, b3, b4, I.bk _ _ b5, b6⟩
  refine PySem.W.kla_eval hdef (PySem.W.kla_makeFunction (mg := X.mg) hcl I.ok.glob hg hcode (C.keeps I.bk) hPs (by trivial) rfl hgP hB' fun c ctv h' tk hx hge hlt hrec htb => ?_)
  have hfr : ∀ a, s.heap.objs.size ≤ a → H a = none := fun a ha => I.hok.fresh ha
  have hPl : P0 < s.heap.objs.size := Heap.lt_size hPs
  have hcn : H c = none := hfr c hge
  have hfn : H h'.objs.size = none := hfr _ (Nat.le_trans hge (Nat.le_of_lt hlt))
  have hne : h'.objs.size ≠ c := Nat.ne_of_gt hlt
  have keep : ∀ b o, b ≠ P0 → s.heap.get? b = some o → (h'.push (PySem.W.kla_obj "<lambda>" (X.env.qual ++ "<lambda>") params body scope [] ((X.mg "__name__").getD .none) c ctv)).get? b = some o := fun b o hb e => Heap.get?_push_of_some _ (hx b o hb e)
  have neT : ∀ b u, H b = some u → b ≠ c ∧ b ≠ h'.objs.size := fun b u e => ⟨ne_of_none e hcn, ne_of_none e hfn⟩
  have lift : ∀ b u, b ≠ P0 → H b = some u → upd (upd (upd H P0 (.tbl (#[] ++ #[rawInt lpos.line, rawInt lpos.col, .ref c]))) c (codeO ⟨X.env.qual ++ "<lambda>", params, body, scope⟩ c)) h'.objs.size (lamO ⟨X.env.qual ++ "<lambda>", params, body, scope⟩ h'.objs.size c) b = some u := fun b u hb e => by
    rw [upd_ne (neT b u e).2, upd_ne (neT b u e).1, upd_ne hb]; exact e
  have atP : upd (upd (upd H P0 (.tbl (#[] ++ #[rawInt lpos.line, rawInt lpos.col, .ref c]))) c (codeO ⟨X.env.qual ++ "<lambda>", params, body, scope⟩ c)) h'.objs.size (lamO ⟨X.env.qual ++ "<lambda>", params, body, scope⟩ h'.objs.size c) P0 = some (.tbl (#[] ++ #[rawInt lpos.line, rawInt lpos.col, .ref c])) := by
    rw [upd_ne (neT P0 _ hP).2, upd_ne (neT P0 _ hP).1, upd_same]
  refine ⟨.ref h'.objs.size, _, I.un (H' := upd (upd (upd H P0 (.tbl (#[] ++ #[rawInt lpos.line, rawInt lpos.col, .ref c]))) c (codeO ⟨X.env.qual ++ "<lambda>", params, body, scope⟩ c)) h'.objs.size (lamO ⟨X.env.qual ++ "<lambda>", params, body, scope⟩ h'.objs.size c)) ⟨fun b o e n hb _ => keep b o (fun z => by rw [z, hP] at n; cases n) e, fun b o e n hb _ => ⟨o.slots, keep b o (fun z => by rw [z, hP] at n; cases n) e⟩, fun b o e n _ => ?_, fun b o e _ => ?_, fun b xs e => lift b _ (fun z => by rw [z, hP] at e; cases e) e, fun b o u e => lift b _ (fun z => by rw [z, hP] at e; cases e) e, fun b ps e => ?_⟩ (fun b u e => ?_), rfl, h _ _ _ hfn hcn hne⟩
  · have hb : b < s.heap.objs.size := Heap.lt_size e
    rw [upd_ne (Nat.ne_of_lt (Nat.lt_of_lt_of_le hb (Nat.le_trans hge (Nat.le_of_lt hlt)))), upd_ne (Nat.ne_of_lt (Nat.lt_of_lt_of_le hb hge)), upd_ne (fun z => by rw [z, hP] at n; cases n)]
    exact n
  · by_cases hb : b = P0
    · subst hb
      exact ⟨_, Heap.get?_push_of_some _ htb⟩
    · exact ⟨o, keep b o hb e⟩
  · by_cases hb : b = P0
    · subst hb
      rw [hP] at e
      cases e
      exact ⟨_, atP⟩
    · exact ⟨#[], by rw [Array.append_empty]; exact lift b _ hb e⟩
  · by_cases h1 : b = h'.objs.size
    · subst h1
      rw [upd_same] at e
      cases e
      exact ⟨⟨_, _, Heap.get?_push_size _ rfl⟩, ⟨_, Heap.get?_push_size _ rfl⟩, fun k1 k2 ⟨pm, ct, e⟩ k => ⟨pm, ct, k _ e⟩⟩
    · rw [upd_ne h1] at e
      by_cases h2 : b = c
      · subst h2
        rw [upd_same] at e
        cases e
        obtain ⟨c2, oc, vs, t, e2, hoc, hd, hv⟩ := hrec
        cases e2
        exact ⟨⟨oc, vs, t, Heap.get?_push_of_some _ hoc, hd, hv⟩, ⟨_, Heap.get?_push_of_some _ hoc⟩, fun k1 k2 ⟨oc, vs, t, e, r⟩ k => ⟨oc, vs, t, k _ e, r⟩⟩
      · rw [upd_ne h2] at e
        by_cases h3 : b = P0
        · subst h3
          rw [upd_same] at e
          cases e
          exact Heap.get?_push_of_some _ htb
        · rw [upd_ne h3] at e
          refine (I.hok b u e).stay (fun a v ha q => keep a v (fun z => ?_) q) (fun a q => lift a _ (fun z => by rw [z, hP] at q; cases q) q) fun a xs q => lift a _ (fun z => by rw [z, hP] at q; cases q) q
          rcases ha with ha | ha
          · exact h3 (ha.symm.trans z)
          · rw [z, hP] at ha; cases ha
def oTbl0 : Ow := fun _ o => o = .tbl #[]
def oTblA : Ow := fun _ o => ∃ ps, o = .tbl ps
theorem v_callLam {X : Cx} {B : Bs} {Γ : Ga} {x : Str} {ps : List Str} {k n : Nat} {C : List D → D → Prop} {params : Arguments} {body : Expr} {scope : Scope} {lpos p pos : Pos} {es : List Expr} {ds : List D} {d : D} {c0 P0 : Addr} {R : D → Om → Prop}
    (o : OkF X.prog X.w X.K X.mg X.base CX0 k x ps (spLam X.K n ⟨X.env.qual ++ "<lambda>", params, body, scope⟩ C)) (hr : Room k X.A) (hg : Gl X x) (hcd : PySem.W.CodeHd X.base c0 P0) (hcode : X.env.code = .ref c0) (hBA : X.base.BuiltinsAt X.mg P0) (hdef : defaultsOf params X.env = ([], [])) (hcl : closureFor scope X.env = pure [])
    (ha : PL3 X Γ es ds) (hn : ds.length + 1 = n) (hC : C ds d) (h : R d [(P0, oTblA)]) (hdb : (x == ("__debug__" : Str)) = false := by decide)
    (he : starEach (.Lambda params body scope lpos :: es) X.env = (false, eval (.Lambda params body scope lpos) X.env) :: starEach es X.env := by rfl) (hpl : (backTo pos (starEach es X.env)).any (·.1) = false := by rfl) :
    V3 X B (.Call (.Name x p) (.Lambda params body scope lpos :: es) [] pos) Γ [(P0, oTbl0)] R := fun F σ H S pins s I => by
  refine pe_fn o hr hg (pa_cons pe_w ha he) hdb he hpl pins s σ H _ I fun pins s I => ?_
  obtain ⟨fP, oP, hP, ho⟩ := S.own _ (List.mem_singleton.mpr rfl)
  have e0 : oP = .tbl #[] := ho F (Same.refl _)
  subst e0
  refine we_lambda I hcd hcode hBA hP hdef hcl fun f c ps' hf hc hne => ?_
  have hPf : P0 ≠ f := ne_of_none hP hf
  have hPc : P0 ≠ c := ne_of_none hP hc
  have Ff : F f = none := S.fh.free hf
  have Fc : F c = none := S.fh.free hc
  have S' : Sat X.K B Γ [(P0, oTblA)] (upd (upd F c (codeO ⟨X.env.qual ++ "<lambda>", params, body, scope⟩ c)) f (lamO ⟨X.env.qual ++ "<lambda>", params, body, scope⟩ f c)) σ (upd (upd (upd H P0 (.tbl ps')) c (codeO ⟨X.env.qual ++ "<lambda>", params, body, scope⟩ c)) f (lamO ⟨X.env.qual ++ "<lambda>", params, body, scope⟩ f c)) := by
    have ff : Same F (upd (upd F c (codeO ⟨X.env.qual ++ "<lambda>", params, body, scope⟩ c)) f (lamO ⟨X.env.qual ++ "<lambda>", params, body, scope⟩ f c)) := fun b u e => by
      rw [upd_ne (ne_of_none e Ff), upd_ne (ne_of_none e Fc)]; exact e
    refine ⟨S.f0.trans ff, fun b u e => ?_, fun b q => ?_, fun b u hb e => ?_, by simp, fun q hq => ?_, fun q hq => ?_, S.sl.mono ff⟩
    · by_cases h1 : b = f
      · subst h1; rw [upd_same] at e ⊢; exact e
      · rw [upd_ne h1] at e ⊢
        by_cases h2 : b = c
        · subst h2; rw [upd_same] at e ⊢; exact e
        · rw [upd_ne h2] at e ⊢
          rw [upd_ne (ne_of_none e fP)]
          exact S.fh _ _ e
    · by_cases h1 : b = f
      · subst h1; exact (S.freeB hf).elim (fun z => .inr (.inl z)) fun z => .inr (.inr z)
      · rw [upd_ne h1] at q
        by_cases h2 : b = c
        · subst h2; exact (S.freeB hc).elim (fun z => .inr (.inl z)) fun z => .inr (.inr z)
        · rw [upd_ne h2] at q
          exact S.fr b q
    · have e1 := S.kp b u hb e
      rw [upd_ne (ne_of_none e1 hf), upd_ne (ne_of_none e1 hc), upd_ne (fun z => ?_)]
      · exact e1
      · subst z
        rcases S.od _ (List.mem_singleton.mpr rfl) with z | z
        · exact hb z
        · have z' : B.H b = none := z
          rw [z'] at e; cases e
    · rw [List.mem_singleton.mp hq]
      exact S.od (P0, oTbl0) (List.mem_singleton.mpr rfl)
    · rw [List.mem_singleton.mp hq]
      exact ⟨by rw [upd_ne hPf, upd_ne hPc]; exact fP, _, by rw [upd_ne hPf, upd_ne hPc, upd_same], fun _ _ => ⟨ps', rfl⟩⟩
  have ff : Same F (upd (upd F c (codeO ⟨X.env.qual ++ "<lambda>", params, body, scope⟩ c)) f (lamO ⟨X.env.qual ++ "<lambda>", params, body, scope⟩ f c)) := fun b u e => by
    rw [upd_ne (ne_of_none e Ff), upd_ne (ne_of_none e Fc)]; exact e
  refine ⟨_, S'.fh, S'.sl, fun vs H2 F2 pu il => ?_⟩
  dsimp only
  rw [List.append_nil]
  exact ⟨f, c, vs, ds, d, F2, rfl, hn, pu.fh, pu.ff _ _ (by rw [upd_same]), pu.ff _ _ (by rw [upd_ne (Ne.symm hne), upd_same]), il, hC, fun v H3 F3 p3 iv => ⟨d, _, F3, (S'.pur pu).pur p3, ff.trans (pu.ff.trans p3.ff), iv, h⟩⟩
end L3
set_option Elab.async false
set_option linter.all false
set_option maxRecDepth 100000
set_option maxHeartbeats 4000000
namespace L3
open PySem PySem.Spec PySem.Calls PyProof.Rows L2
theorem law_callT {P : Program} {w : World} {K : PySem.W.Frag} {mg mb : Str → Option Value} {CX : CXT} {k : Nat} {fa a c0 P0 : Addr} {fd : FuncData} {x : Str} {sp : Sp} {s₁ : Shared} {vs : List Value} {ns : List Int}
    (KX : K.In s₁.heap) (hns : s₁.heap.Ns mainGlobals mg) (hb : s₁.heap.Ns builtinsNs mb) (hbb : ∀ x : Str, x ≠ "__name__" → mb x = bootBuiltins x) (hlim : s₁.heap.NoLimit) (hsee : s₁.heap.NoSeer) (hg : s₁.gens = #[])
    (hcd : PySem.W.CodeHd s₁.heap c0 P0) (hP : s₁.heap.get? P0 = some (PySem.W.tabObj #[])) (hPk : K.lookup P0 = none) (hBA : s₁.heap.BuiltinsAt mg P0)
    (ha : s₁.heap.get? a = some { cls := .type "list", data := .seq vs.toArray }) (hi : IntsAre vs ns) (hl : ns.length ≤ sizeLine) (hr : Room k callerA)
    (F : ∀ base : Heap, K.In base → base.Ns mainGlobals mg → PySem.W.CodeHd base c0 P0 → base.BuiltinsAt mg P0 → FnOk P w K mg base CX k fa fd [x] sp) (hbind : ∀ (s : Shared) (u : Value), BindsTo s fd ⟨[u], []⟩ [(x, u)])
    (hsp : ∀ H : Hp, H P0 = some (.tbl #[]) → SqL K H a (ns.map V.int) → sp [.ref a] H (fun v _ => v = .bl true) fun _ _ _ => False)
    (hCX : ∀ H e s', CX [] H s₁ (fun _ _ _ => False) e s' → False) :
    codeAny (model P w) callerA (.call (.ref fa) ⟨[.ref a], []⟩) (fun r s' => r = .ok (.ret (.bool true)) ∧ OldK s₁.heap s'.heap ∧ s'.os = s₁.os ∧ AllBare s'.gens) s₁ := by
  have rv := vals_ints hi
  have lenV := hi.length
  have haP : a ≠ P0 := fun z => by rw [z, hP] at ha; cases ha
  have core : ∀ H : Hp, (∀ b, H b = none ∨ b = P0 ∨ ∃ o xs, H b = some (.frz o (.lst xs))) → H P0 = some (.tbl #[]) → SqL K H a (ns.map V.int) → HOk P w H s₁.heap → (∀ b, H b ≠ none → b = a ∨ b = P0) → (H a ≠ none → K.lookup a = none) →
      codeAny (model P w) callerA (.call (.ref fa) ⟨[.ref a], []⟩) (fun r s' => r = .ok (.ret (.bool true)) ∧ OldK s₁.heap s'.heap ∧ s'.os = s₁.os ∧ AllBare s'.gens) s₁ := by
    intro H hO hHP hS hok hA hK
    have base_of : ∀ {b : Addr} {o : Obj}, s₁.heap.get? b = some o → H b = none → (hidT s₁.heap H).get? b = some o := fun e n => hidT_get e n
    have noA : ∀ {b : Addr} {o : Obj}, s₁.heap.get? b = some o → o.cls ≠ .none → o.cls ≠ .type "list" → H b = none := fun {b o} e d1 d2 => by
      cases q : H b with
      | none => rfl
      | some u =>
        rcases hA b (by rw [q]; simp) with e' | e'
        · subst e'
          rw [ha] at e; cases e
          exact absurd rfl d2
        · subst e'
          rw [hP] at e; cases e
          exact absurd rfl d1
    have noD : ∀ {b : Addr} {o : Obj} {es : Array DictEntry} {ep : Nat}, s₁.heap.get? b = some o → o.data = .dict es ep → H b = none := fun {b o es ep} e d => by
      cases q : H b with
      | none => rfl
      | some u =>
        rcases hA b (by rw [q]; simp) with e' | e'
        · subst e'
          rw [ha] at e; cases e
          cases d
        · subst e'
          rw [hP] at e; cases e
          cases d
    have noM : ∀ {b : Addr} {o : Obj}, s₁.heap.get? b = some o → o.cls = .type "module" → H b = none := fun {b o} e d => noA e (by rw [d]; exact fun z => nomatch z) (by rw [d]; intro z; injection z with z; exact absurd z (by decide))
    have nsK : ∀ {b : Addr} {m : Str → Option Value}, s₁.heap.Ns b m → (hidT s₁.heap H).Ns b m := fun {b m} ⟨o, es, ep, e, d, r⟩ => ⟨o, es, ep, base_of e (noD e d), d, r⟩
    have hKb : K.In (hidT s₁.heap H) := fun b o e => base_of (KX b o e) (by
      cases q : H b with
      | none => rfl
      | some u =>
        rcases hA b (by rw [q]; simp) with e' | e'
        · subst e'
          rw [hK (by rw [q]; simp)] at e; cases e
        · subst e'
          rw [hPk] at e; cases e)
    have hM : Mod K mg (hidT s₁.heap H) := ⟨hKb, nsK hns, ⟨mb, nsK hb, hbb⟩, (let ⟨mc, h1, h2⟩ := hlim; ⟨mc, nsK h1, h2⟩), ⟨(let ⟨mc, a1, b1⟩ := hsee.statics; ⟨mc, nsK a1, b1⟩), (let ⟨mc, a1, b1⟩ := hsee.mods; ⟨mc, nsK a1, b1⟩), (let ⟨mc, a1, b1⟩ := hsee.imp; ⟨mc, nsK a1, b1⟩), (let ⟨mg', bm, ob, a1, b1, c1, d1, f1⟩ := hsee.main; ⟨mg', bm, ob, nsK a1, b1, base_of c1 (noM c1 d1), d1, f1⟩)⟩⟩
    have hC0 : PySem.W.CodeHd (hidT s₁.heap H) c0 P0 := by
      obtain ⟨o, cs, file, tf, flags, tg, inF, text, tt, e1, e2, r⟩ := hcd
      exact ⟨o, cs, file, tf, flags, tg, inF, text, tt, base_of e1 (noA e1 (by rw [e2]; exact fun z => nomatch z) (by rw [e2]; intro z; injection z with z; exact absurd z (by decide))), e2, r⟩
    have hB0 : (hidT s₁.heap H).BuiltinsAt mg P0 := by
      obtain ⟨bm, o, b1, b2, b3, b4, b5, b6, r⟩ := hBA
      exact ⟨bm, o, b1, b2, b3, b4, base_of b5 (noM b5 b6), b6, r⟩
    have e0 : Env0 P w K mg (hidT s₁.heap H) callerA [] s₁ H := ⟨rfl, hM, fun b o e => of_hidT e, Nat.le_of_eq (hidT_size _ _), trivial, fun b hb => absurd (show b ∈ ([] : List Addr) from hb) (by simp), hok, .of_eq hg⟩
    refine codeAny_mono ((F _ hKb (nsK hns) hC0 hB0).run callerA [] s₁ H ⟨[.ref a], []⟩ [.ref a] [.ref a] _ _ hr e0 (hbind s₁ (.ref a)) (.cons rfl .nil) (hsp H hHP hS)) fun r s' h => ?_
    cases r with
    | error e => exact (hCX H e s' h).elim
    | ok fl =>
      cases fl with
      | next => exact False.elim h
      | brk => exact False.elim h
      | cont => exact False.elim h
      | ret u =>
        obtain ⟨v, H', os, bare, un, hok', r', q⟩ := h
        have q' : v = .bl true := q
        subst q'
        obtain rfl : u = Value.bool true := r'
        have keep : ∀ b o, b ≠ P0 → s₁.heap.get? b = some o → s'.heap.get? b = some o := fun b o hbP e => by
          cases q : H b with
          | none => exact un.keep b o e q (by intro z; exact absurd (show b ∈ ([] : List Addr) from z) (by simp)) (by simp)
          | some u =>
            rcases hO b with z | z | ⟨ob, xs, z⟩
            · rw [q] at z; cases z
            · exact absurd z hbP
            · have z2 := un.frzs b ob _ z
              obtain ⟨e1, _⟩ := hok b _ z
              obtain ⟨e2, _⟩ := hok' b _ z2
              rw [e] at e1; cases e1
              exact e2
        obtain ⟨more, eT⟩ := un.tbls P0 _ hHP
        have hT' : s'.heap.get? P0 = some (PySem.W.tabObj (#[] ++ more)) := hok' P0 _ eT
        refine ⟨rfl, ⟨fun b o e => ?_, fun b o e => ?_⟩, os, bare⟩
        · by_cases hbP : b = P0
          · subst hbP
            rw [hP] at e; cases e
            exact .inr (.inl ⟨(hcd.tab hP).isCodeTable, rfl, #[], more, rfl, hT'⟩)
          · exact .inl (keep b o hbP e)
        · by_cases hbP : b = P0
          · subst hbP
            exact ⟨_, hT'⟩
          · exact ⟨o, keep b o hbP e⟩
  cases hk : K.lookup a with
  | some o =>
    have e := KX a o hk
    rw [ha] at e
    cases e
    refine core (fun b => if b = P0 then some (.tbl #[]) else none) (fun b => ?_) (if_pos rfl) (.inr ⟨_, vs.toArray, _, hk, rfl, rfl, rfl, by rw [List.size_toArray, lenV]; exact hl, by simpa using rv⟩) (fun b u z => ?_) (fun b z => ?_) fun z => absurd (if_neg haP) z
    · by_cases hb : b = P0
      · exact .inr (.inl hb)
      · exact .inl (if_neg hb)
    · by_cases hb : b = P0
      · have z' := (if_pos hb).symm.trans z
        cases z'
        subst hb
        exact hP
      · have z' := (if_neg hb).symm.trans z
        cases z'
    · by_cases hb : b = P0
      · exact .inr hb
      · exact absurd (if_neg hb) z
  | none =>
    refine core (fun b => if b = P0 then some (.tbl #[]) else if b = a then some (.frz { cls := .type "list", data := .seq vs.toArray } (.lst (ns.map V.int))) else none) (fun b => ?_) (if_pos rfl) (.inl (.inr ⟨{ cls := .type "list", data := .seq vs.toArray }, ?_⟩)) (fun b u z => ?_) (fun b z => ?_) fun _ => hk
    · by_cases hb : b = P0
      · exact .inr (.inl hb)
      · by_cases hb2 : b = a
        · exact .inr (.inr ⟨_, _, by rw [if_neg hb, if_pos hb2]⟩)
        · exact .inl (by rw [if_neg hb, if_neg hb2])
    · show (if a = P0 then _ else _) = _
      rw [if_neg haP, if_pos rfl]
    · have z' : (if b = P0 then some (HO.tbl #[]) else if b = a then some (.frz { cls := .type "list", data := .seq vs.toArray } (.lst (ns.map V.int))) else none) = some u := z
      by_cases hb : b = P0
      · rw [if_pos hb] at z'
        cases z'
        subst hb
        exact hP
      · rw [if_neg hb] at z'
        by_cases hb2 : b = a
        · rw [if_pos hb2] at z'
          cases z'
          subst hb2
          exact ⟨ha, by rw [List.length_map]; exact hl, vs, _, rv, ha⟩
        · rw [if_neg hb2] at z'
          cases z'
    · by_cases hb : b = P0
      · exact .inr hb
      · by_cases hb2 : b = a
        · exact .inl hb2
        · exact absurd (show (if b = P0 then some (HO.tbl #[]) else if b = a then some (.frz { cls := .type "list", data := .seq vs.toArray } (.lst (ns.map V.int))) else none) = none by rw [if_neg hb, if_neg hb2]) z
theorem walk_ofT {l : PySem.W.OpenLaw} {n k : Nat} {q : Program} {loose : List Str} {XP : (Str → Option Value) → Heap → Prop} {YP : World → Heap → Prop} {d : DefRec} {K : Params → PySem.W.Frag} {CX : World → CXT} {sp : World → Sp} {x : Str} {c0 P0 : Addr}
    (hn : l.most = some n) (hn2 : n ≤ sizeLine) (hi : importsNone q = true) (hdf : d.params.defaults = []) (hr : Room k callerA)
    (hrec : ((recsOf q).find? fun e => e.name == d.name).isSome = true)
    (hY : ∀ (w : World) (h : Heap), YP w h → (K w.params).In h)
    (hT : ∀ w : World, PySem.W.tabIn (K w.params) d.name = some (c0, P0)) (hPk : ∀ w : World, (K w.params).lookup P0 = none)
    (F : ∀ (w : World) (mg : Str → Option Value) (fa : Addr) (h : Heap), (K w.params).In h → h.Ns mainGlobals mg → mg d.name = some (.ref fa) →
      ∃ fd : FuncData, (∀ (s : Shared) (u : Value), BindsTo s fd ⟨[u], []⟩ [(x, u)]) ∧
        ∀ base : Heap, (K w.params).In base → base.Ns mainGlobals mg → PySem.W.CodeHd base c0 P0 → base.BuiltinsAt mg P0 → FnOk l.prog w (K w.params) mg base (CX w) k fa fd [x] (sp w))
    (hsp : ∀ (w : World) (H : Hp) (a : Addr) (ns : List Int), ns.length ≤ n → H P0 = some (.tbl #[]) → SqL (K w.params) H a (ns.map V.int) → sp w [.ref a] H (fun v _ => v = .bl true) fun _ _ _ => False)
    (hCX : ∀ (w : World) (H : Hp) (s : Shared) (e : Value) (s' : Shared), CX w [] H s (fun _ _ _ => False) e s' → False) :
    PySem.W.WalkO q loose XP YP l.row.toRowW d [] (fun f vs => PySem.call f vs) := by
  refine Att.attach_call hn hdf fun w s₀ s₁ mg mb fa o pm cd doc a vs ns G Y ho hd hcd hmg hobj hints hlen hg => ?_
  have KX := hY w _ Y
  obtain ⟨fd, hb, hF⟩ := F w mg fa _ KX G.T.g hmg
  obtain ⟨d', hd'⟩ := Option.isSome_iff_exists.mp hrec
  obtain ⟨hC, hP⟩ := PySem.W.tab_of G.T KX hd' (hT w)
  obtain ⟨bm, ob, b1, b2, b3, b4, b5, b6⟩ := G.T.bmain
  have hbP : bm ≠ P0 := fun z => by rw [z, hP] at b3; cases b3; cases b4
  have hbG : bm ≠ mainGlobals := fun z => by
    obtain ⟨o, es, ep, e, hd, _⟩ := G.T.g
    rw [z, e] at b3; cases b3; rw [hd] at b6; cases b6
  exact law_callT KX G.T.g G.T.b G.T.builtins G.T.nolimit (G.T.seer hi) hg hC hP (hPk w) ⟨bm, ob, b1, b2, hbG, hbP, b3, b4, b5, b6⟩ hobj hints (Nat.le_trans hlen hn2) hr hF hb (fun H hO hS => hsp w H a ns hlen hO hS) fun H e s' => hCX w H s₁ e s'
def spLawT (K : PySem.W.Frag) (P0 : Addr) : Sp := fun vs H Q _ => ∃ (a : Addr) (ns : List Int), vs = [.ref a] ∧ SqL K H a (ns.map V.int) ∧ ns.length ≤ 63 ∧ H P0 = some (.tbl #[]) ∧ ∀ H', Q (.bl true) H'
theorem sp_lawT {K : PySem.W.Frag} {P0 : Addr} {H : Hp} {a : Addr} {ns : List Int} (h : ns.length ≤ 63) (hP : H P0 = some (.tbl #[])) (hS : SqL K H a (ns.map V.int)) : spLawT K P0 [.ref a] H (fun v _ => v = .bl true) fun _ _ _ => False := ⟨a, ns, rfl, hS, h, hP, fun _ => rfl⟩
theorem tab_code {K : PySem.W.Frag} {x : Str} {f c0 P0 : Addr} {oc : Value} {od : Option Addr} {fd : FuncData} {osl : Array (Option Value)} (a : PySem.W.nsIn K mainGlobals x = some (some (.ref f))) (l : K.lookup f = some ⟨oc, od, .func fd, osl⟩) (h : PySem.W.tabIn K x = some (c0, P0)) : fd.code = .ref c0 := by
  unfold PySem.W.tabIn at h
  rw [a] at h
  dsimp only at h
  rw [l] at h
  dsimp only at h
  split at h
  · rename_i c hc
    rw [hc]
    split at h
    · split at h
      · cases h; rfl
      · cases h
    · cases h
  · cases h
theorem ok_lawT {P : Program} {w : World} {K : PySem.W.Frag} {mg : Str → Option Value} {base : Heap} {f P0 : Addr} {st : Stmt} {N : List Str} {k : Nat} {x : Str} {oc : Value} {od an : Option Addr} {osl : Array (Option Value)} {kV doc pm cdv ct : Value}
    (lk : K.lookup f = some ⟨oc, od, .func (PySem.W.fnOf "law" "law" (defArgs st) (defBody st) (defScope st) .none kV doc pm an cdv ct), osl⟩) (hcd : PySem.W.codeIn K cdv "law" = true) (S : FnScope N [x] (defScope st))
    (body : ∀ (A : Around) (outer : List Env) (s : Shared) (H : Hp) (E : XK), Room k (A.deeper (envOfC "law" (defScope st) s.heap.objs.size f cdv)) → ∀ (ns : List Int), ns.length ≤ 63 → ∀ B : Bs,
      W3 (cx0 P w K mg base N "law" st f cdv A outer s H E) B (defBody st) (startG N [.scr ns]) [(P0, oTbl0)] ⟨fun _ _ => False, fun r _ => r = .bl true, fun _ _ => False, fun _ _ => False⟩) :
    FnOk P w K mg base CX0 (k + 1) f (PySem.W.fnOf "law" "law" (defArgs st) (defBody st) (defScope st) .none kV doc pm an cdv ct) [x] (spLawT K P0) := by
  refine fn_of lk hcd S (fun vs H Q E h => ?_) fun A outer s H vs Q E hr h => ⟨_, PSs.nox pss_w, ?_⟩
  · obtain ⟨a, ns, rfl, _⟩ := h
    rfl
  · obtain ⟨a, ns, rfl, hS, hlen, hP, q⟩ := h
    have fh : Same (fun b => if b = P0 then none else H b) H := fun b u e => by
      have e' : (if b = P0 then none else H b) = some u := e
      by_cases hb : b = P0
      · rw [if_pos hb] at e'; cases e'
      · rw [if_neg hb] at e'; exact e'
    have hS' : SqL K (fun b => if b = P0 then none else H b) a (ns.map V.int) := by
      rcases hS with (z | ⟨o, z⟩) | z
      · have hne : a ≠ P0 := fun e => by rw [e, hP] at z; cases z
        exact .inl (.inl (by show (if a = P0 then none else H a) = _; rw [if_neg hne]; exact z))
      · have hne : a ≠ P0 := fun e => by rw [e, hP] at z; cases z
        exact .inl (.inr ⟨o, by show (if a = P0 then none else H a) = _; rw [if_neg hne]; exact z⟩)
      · exact .inr z
    have il : IsL K (fun b => if b = P0 then none else H b) [.scr ns] [.ref a] := IsL.cons (by simp only [Is]; exact ⟨a, rfl, hS'⟩) IsL.nil
    have S0 : Sat K ⟨[P0], fun b => if b = P0 then none else H b, H⟩ (startG N [.scr ns]) [(P0, oTbl0)] (fun b => if b = P0 then none else H b) (L2.start N [.ref a]) H := by
      refine ⟨Same.refl _, fh, fun _ q => .inl q, fun _ _ _ e => e, by simp, fun p hp => ?_, fun p hp => ?_, Sl.start il⟩
      · rw [List.mem_singleton.mp hp]; exact .inl (by simp)
      · rw [List.mem_singleton.mp hp]; exact ⟨if_pos rfl, _, hP, fun _ _ => rfl⟩
    refine ends_mono (D := E3.to K ⟨[P0], fun b => if b = P0 then none else H b, H⟩ (fun b => if b = P0 then none else H b) ⟨fun _ _ => False, fun r _ => r = .bl true, fun _ _ => False, fun _ _ => False⟩) (D' := { nx := fun _ H' => Q .non H', rt := Q }) ?_ ?_ ?_ ?_ (body A outer s H E hr ns hlen _ _ _ H S0)
    · rintro σ' H' ⟨_, _, _, _, _, z⟩
      exact z.elim
    · rintro v H' ⟨r, Ω', F', ⟨σ', S'⟩, f', iv, rfl⟩
      rw [isB iv]
      exact q H'
    · rintro σ' H' ⟨_, _, _, _, _, z⟩
      exact z.elim
    · rintro σ' H' ⟨_, _, _, _, _, z⟩
      exact z.elim
theorem law_mkT {P : Program} {w : World} {K : PySem.W.Frag} {h : Heap} {mg : Str → Option Value} {n : Nat} {sp : Sp} (X : K.In h) (G : h.Ns mainGlobals mg) {x y : Str} {st : Stmt} {fa f c0 P0 : Addr} {oc : Value} {od an : Option Addr} {osl : Array (Option Value)} {kV doc pm cdv ct : Value} (hfa : mg x = some (.ref fa))
    (a : PySem.W.nsIn K mainGlobals x = some (some (.ref f))) (l : K.lookup f = some ⟨oc, od, .func (PySem.W.fnOf x x (defArgs st) (defBody st) (defScope st) .none kV doc pm an cdv ct), osl⟩)
    (c : PySem.W.codeIn K cdv x = true) (hT : PySem.W.tabIn K x = some (c0, P0))
    (hb : ∀ v : Value, bindArgs (PySem.W.fnOf x x (defArgs st) (defBody st) (defScope st) .none kV doc pm an cdv ct) ⟨[v], []⟩ = pure [(y, v)])
    (ok : ∀ (base : Heap), K.In base → base.Ns mainGlobals mg → PySem.W.CodeHd base c0 P0 → base.BuiltinsAt mg P0 → cdv = .ref c0 → K.lookup f = some ⟨oc, od, .func (PySem.W.fnOf x x (defArgs st) (defBody st) (defScope st) .none kV doc pm an cdv ct), osl⟩ → PySem.W.codeIn K cdv x = true → FnOk P w K mg base CX0 n f (PySem.W.fnOf x x (defArgs st) (defBody st) (defScope st) .none kV doc pm an cdv ct) [y] sp) :
    ∃ fd : FuncData, (∀ (s : Shared) (u : Value), BindsTo s fd ⟨[u], []⟩ [(y, u)]) ∧ ∀ base : Heap, K.In base → base.Ns mainGlobals mg → PySem.W.CodeHd base c0 P0 → base.BuiltinsAt mg P0 → FnOk P w K mg base CX0 n fa fd [y] sp := by
  have e := hfa.symm.trans (PySem.W.mg_of X G a)
  cases e
  exact ⟨_, fun s u => .of_eq (hb u), fun base kb nb hc hB => ok base kb nb hc hB (tab_code a l hT) l c⟩
end L3
set_option Elab.async false
set_option linter.all false
set_option maxRecDepth 100000
set_option maxHeartbeats 4000000
namespace L3
open PySem PySem.Spec PySem.Calls PyProof.Rows L2
theorem vt_val {X : Cx} {B : Bs} {Γ : Ga} {Ω : Om} {e : Expr} {RT : Bool → Om → Prop} (h : V3 X B e Γ Ω fun d Ω1 => ∃ k, d = .bl k ∧ RT k Ω1) (he : ∀ whole, isTrue e X.env whole = (do let v ← whole; standAt e.pos; holding [v] (truthy v)) := by intro _; rfl) : VT3 X B e Γ Ω RT := fun F σ H S pins s I =>
  pt_val pe_w he pins s σ H _ I ((h F σ H S).mono fun v H1 ⟨d, Ω1, F1, S1, f1, i1, k, e1, r⟩ => by subst e1; exact ⟨k, isB i1, Ω1, F1, S1, f1, r⟩)
theorem vt_not {X : Cx} {B : Bs} {Γ : Ga} {Ω : Om} {e : Expr} {pos : Pos} {RT : Bool → Om → Prop} (h : VT3 X B e Γ Ω fun k Ω1 => RT (!k) Ω1) : VT3 X B (.UnaryOp .Not e pos) Γ Ω RT := fun F σ H S pins s I =>
  pt_not pt_w pins s σ H _ I (h F σ H S)
def C_lessX (A : Addr) : List D → Addr → Prop := fun ds c => c = A ∧ ∃ (p q : Rat) (m n : Nat), ds = [sh p, sh q] ∧ Sz m p ∧ Sz n q ∧ m ≤ big ∧ n ≤ big ∧ p < q
def C_partX (A : Addr) : List D → Addr → Prop := fun ds c => c = A ∧ ∃ p : Rat, ds = [sh p, sh 0]
def giv (c o : Int) (b : Bool) : Rat := if b = true then Rat.divInt (c % 12) (1 + o % 12) else Rat.divInt (c % (10 ^ 12 + 1)) (1 + o % 10 ^ 12)
def C_given : List D → D → Prop := fun ds d => ∃ (c o : Int) (b : Bool), ds = [.int c, .int o, .bl b] ∧ d = sh (giv c o b)
def C_good : List D → D → Prop := fun ds d => ∃ (q : Rat) (t b : Int), ds = [sh q, .int t, .int b] ∧ d = .bl true ∧ 0 ≤ q ∧ 0 ≤ t ∧ 0 < b ∧ q = Rat.divInt t b
theorem giv_nn (c o : Int) (b : Bool) : 0 ≤ giv c o b ∧ Sz 64 (giv c o b) := by
  have a1 := emod_in (a := c) (show (0 : Int) < 12 by decide)
  have a2 := emod_in (a := o) (show (0 : Int) < 12 by decide)
  have a3 := emod_in (a := c) (show (0 : Int) < 10 ^ 12 + 1 by decide)
  have a4 := emod_in (a := o) (show (0 : Int) < 10 ^ 12 by decide)
  have e64 : (2 : Nat) ^ 64 = 18446744073709551616 := by decide
  unfold giv
  cases b with
  | true =>
    rw [if_pos rfl]
    exact ⟨Rat.divInt_nonneg a1.1 (by omega), sz_divInt (by omega) (by rw [e64]; omega) (by rw [e64]; omega)⟩
  | false =>
    rw [if_neg Bool.false_ne_true]
    exact ⟨Rat.divInt_nonneg a3.1 (by omega), sz_divInt (by omega) (by rw [e64]; omega) (by rw [e64]; omega)⟩
theorem num_pos' {q : Rat} (h : 0 < q) : 0 < q.num := by
  have h1 := (My.q_lt 0 q).mpr h
  rw [show (0 : Rat).num = 0 from rfl, show (0 : Rat).den = 1 from rfl] at h1
  omega
structure IsLam (L : Lam) (x y g : Str) : Prop where
  body : ∃ p1 p2 p3 pos, L.body = .Call (.Name g p1) [.Name x p2, .Name y p3] [] pos
  sc : FnScope [x, y] [x, y] L.scope
  l1 : L.scope.names.lookup x = some .local
  l2 : L.scope.names.lookup y = some .local
  gl : ∀ a f c, (envOfC L.qual L.scope a f c).kindOf g = some .globalImplicit
  bind : ∀ (pm cd ctv : Value) (us : List Value), us.length = 2 → bindArgs (PySem.W.kla_fn "<lambda>" L.qual L.params L.body L.scope [] pm cd ctv) ⟨us, []⟩ = pure ([x, y].zip us)
end L3
set_option Elab.async false
set_option linter.all false
set_option maxRecDepth 100000
set_option maxHeartbeats 4000000
namespace Law
open PySem L2 L3
def top (i : Nat) : Stmt := PySem.Challenge.pw_scoreflow_k02_reckoned.main.body.getD i (.Pass ⟨0, 0, 0, 0⟩)
abbrev s_common_divisor : Stmt := top 5
abbrev s_share : Stmt := top 6
abbrev s_added : Stmt := top 7
abbrev s_lessened : Stmt := top 8
abbrev s_timed : Stmt := top 9
abbrev s_parted : Stmt := top 10
abbrev s_is_less : Stmt := top 11
abbrev s_law_cell_at : Stmt := top 13
abbrev s_law_whole : Stmt := top 14
abbrev s_law_share : Stmt := top 15
abbrev s_law_is_share : Stmt := top 18
abbrev s_law_given : Stmt := top 19
abbrev s_law_good : Stmt := top 20
abbrev s_law_refused : Stmt := top 21
abbrev s_law : Stmt := top 22
theorem sc_common_divisor : FnScope ["one", "other", "rest"] ["one", "other"] (defScope s_common_divisor) := ⟨rfl, rfl, rfl, by decide +kernel, rfl, by decide +kernel, by decide +kernel⟩
theorem sc_share : FnScope ["top", "bottom", "divisor"] ["top", "bottom"] (defScope s_share) := ⟨rfl, rfl, rfl, by decide +kernel, rfl, by decide +kernel, by decide +kernel⟩
theorem sc_added : FnScope ["one", "other", "divisor", "top", "left"] ["one", "other"] (defScope s_added) := ⟨rfl, rfl, rfl, by decide +kernel, rfl, by decide +kernel, by decide +kernel⟩
theorem sc_lessened : FnScope ["one", "other"] ["one", "other"] (defScope s_lessened) := ⟨rfl, rfl, rfl, by decide +kernel, rfl, by decide +kernel, by decide +kernel⟩
theorem sc_timed : FnScope ["one", "other", "first", "second"] ["one", "other"] (defScope s_timed) := ⟨rfl, rfl, rfl, by decide +kernel, rfl, by decide +kernel, by decide +kernel⟩
theorem sc_parted : FnScope ["one", "other"] ["one", "other"] (defScope s_parted) := ⟨rfl, rfl, rfl, by decide +kernel, rfl, by decide +kernel, by decide +kernel⟩
theorem sc_is_less : FnScope ["one", "other"] ["one", "other"] (defScope s_is_less) := ⟨rfl, rfl, rfl, by decide +kernel, rfl, by decide +kernel, by decide +kernel⟩
theorem sc_law_cell_at : FnScope ["_law_script", "_law_k"] ["_law_script", "_law_k"] (defScope s_law_cell_at) := ⟨rfl, rfl, rfl, by decide +kernel, rfl, by decide +kernel, by decide +kernel⟩
theorem sc_law_whole : FnScope ["_law_found"] ["_law_found"] (defScope s_law_whole) := ⟨rfl, rfl, rfl, by decide +kernel, rfl, by decide +kernel, by decide +kernel⟩
theorem sc_law_share : FnScope ["_law_top", "_law_bottom", "_law_one", "_law_other", "_law_rest"] ["_law_top", "_law_bottom"] (defScope s_law_share) := ⟨rfl, rfl, rfl, by decide +kernel, rfl, by decide +kernel, by decide +kernel⟩
theorem sc_law_is_share : FnScope ["_law_found"] ["_law_found"] (defScope s_law_is_share) := ⟨rfl, rfl, rfl, by decide +kernel, rfl, by decide +kernel, by decide +kernel⟩
theorem sc_law_given : FnScope ["_law_cell", "_law_other", "_law_small"] ["_law_cell", "_law_other", "_law_small"] (defScope s_law_given) := ⟨rfl, rfl, rfl, by decide +kernel, rfl, by decide +kernel, by decide +kernel⟩
theorem sc_law_good : FnScope ["_law_found", "_law_top", "_law_bottom"] ["_law_found", "_law_top", "_law_bottom"] (defScope s_law_good) := ⟨rfl, rfl, rfl, by decide +kernel, rfl, by decide +kernel, by decide +kernel⟩
theorem sc_law_refused : FnScope ["_law_work", "_law_one", "_law_other"] ["_law_work", "_law_one", "_law_other"] (defScope s_law_refused) := ⟨rfl, rfl, rfl, by decide +kernel, rfl, by decide +kernel, by decide +kernel⟩
theorem sc_law : FnScope ["_law_script", "_law_small", "_law_one", "_law_other", "_law_rest", "_law_found"] ["_law_script"] (defScope s_law) := ⟨rfl, rfl, rfl, by decide +kernel, rfl, by decide +kernel, by decide +kernel⟩
section
variable {P : Program} {w : World} {K : PySem.W.Frag} {mg : Str → Option Value} {base : Heap}
theorem ok_common_divisor  (d : DefK K mg "common_divisor" s_common_divisor ["one", "other"])  : OkF P w K mg base CX0 2 "common_divisor" ["one", "other"] (spP K 2 C_gcd) := by
  refine ok_pure d sc_common_divisor rfl fun f cdv A outer s H E hr ds r hC B hB => ?_
  obtain ⟨a, b, rfl, rfl, ha, hb⟩ := hC
  refine w_while PassesOwn.never (fun Γ _ => ∃ (x y : Int) (z : Option D), Γ = [some (.int x), some (.int y), z] ∧ 0 ≤ x ∧ 0 ≤ y ∧ My.G x y = My.G a b) (fun Γ _ => match Γ with | [_, some (.int y), _] => y.toNat | _ => 0) ⟨a, b, none, rfl, ha, hb, rfl⟩ ?_
  rintro Γ Ω ⟨x, y, z, rfl, hx, hy, hg⟩
  refine ⟨_, (t_cmp (c_gt (p_var (i := 1) rfl (.inl rfl) rfl) p_int)), fun hk => ?_, fun hk => ?_⟩
  · have hk := of_decide_eq_true hk
    refine w_set (i := 2) sc_common_divisor.nd rfl (.inl rfl) (p_mod (p_var (i := 0) rfl (.inl rfl) rfl) (p_var (i := 1) rfl (.inl rfl) rfl) ?_) ?_
    · exact hk
    refine w_set (i := 0) sc_common_divisor.nd rfl (.inl rfl) (p_var (i := 1) rfl (.inl rfl) rfl) ?_
    refine w_set (i := 1) sc_common_divisor.nd rfl (.inl rfl) (p_var (i := 2) rfl (.inl rfl) rfl) ?_
    refine w_nil ⟨⟨y, x % y, _, rfl, hy, (emod_in hk).1, (G_turnE hx hk).trans hg⟩, ?_⟩
    have := emod_in (a := x) hk
    show (x % y).toNat < y.toNat
    omega
  · have hk := of_decide_eq_false hk
    refine w_ret (p_var (i := 0) rfl (.inl rfl) rfl) ?_
    have y0 : y = 0 := by omega
    subst y0
    rw [My.G_end hx] at hg
    show D.int x = D.int (My.G a b)
    rw [hg]
theorem ok_share (ht : P.given.tree = none) (d : DefK K mg "share" s_share ["top", "bottom"]) (o_common_divisor : OkF P w K mg base CX0 2 "common_divisor" ["one", "other"] (spP K 2 C_gcd)) : OkF P w K mg base CX0 33 "share" ["top", "bottom"] (spP K 2 C_share) := by
  refine ok_pure d sc_share rfl fun f cdv A outer s H E hr ds r hC B hB => ?_
  obtain ⟨t, b, rfl, rfl, h1, h2⟩ := hC
  have py : Pyl (cx0 P w K mg base ["top", "bottom", "divisor"] "share" s_share f cdv A outer s H E) := (pyl_cx ht rfl rfl hr (Nat.le_refl _)).nox
  have g0 := My.G_pos (a := t) h2
  refine w_if (t_cmp (c_lt (p_var (i := 0) rfl (.inl rfl) rfl) p_int)) ?_ ?_
  · intro hk; have hk := of_decide_eq_true hk; omega
  · intro hk
    refine w_nil ?_
    refine w_if (t_cmp (c_lt (p_var (i := 1) rfl (.inl rfl) rfl) p_int)) ?_ ?_
    · intro hk; have hk := of_decide_eq_true hk; omega
    · intro hk
      refine w_nil ?_
      refine w_set (i := 2) sc_share.nd rfl (.inl rfl) (p_call (d := .int (My.G t b)) o_common_divisor (hr.mono (by decide)) rfl (pl_cons (p_var (i := 0) rfl (.inl rfl) rfl) (pl_cons (p_var (i := 1) rfl (.inl rfl) rfl) pl_nil)) ?_) ?_
      · exact ⟨t, b, rfl, rfl, h1, Int.le_of_lt h2⟩
      refine w_ret (p_tup (pl_cons (p_fdivP py (p_var (i := 0) rfl (.inl rfl) rfl) (p_var (i := 2) rfl (.inl rfl) rfl) ?_) (pl_cons (p_fdivP py (p_var (i := 1) rfl (.inl rfl) rfl) (p_var (i := 2) rfl (.inl rfl) rfl) ?_) pl_nil))) ?_
      · exact g0
      · exact g0
      show D.tup [D.int (t / My.G t b), D.int (b / My.G t b)] = sh (Rat.divInt t b)
      unfold sh
      rw [← My.num_share h2, ← My.den_share h2, Int.fdiv_eq_ediv_of_nonneg _ (Int.le_of_lt g0), Int.fdiv_eq_ediv_of_nonneg _ (Int.le_of_lt g0)]
theorem ok_added (ht : P.given.tree = none) (d : DefK K mg "added" s_added ["one", "other"]) (o_common_divisor : OkF P w K mg base CX0 2 "common_divisor" ["one", "other"] (spP K 2 C_gcd)) : OkF P w K mg base CX0 33 "added" ["one", "other"] (spP K 2 C_added) := by
  refine ok_pure d sc_added rfl fun f cdv A outer s H E hr ds r hC B hB => ?_
  obtain ⟨p, q, m, n, rfl, rfl, hp, hq, s1, s2, l1, l2, -⟩ := hC
  have py : Pyl (cx0 P w K mg base ["one", "other", "divisor", "top", "left"] "added" s_added f cdv A outer s H E) := (pyl_cx ht rfl rfl hr (by decide)).nox
  have g0 : 0 < My.G p.den q.den := My.G_pos (My.den_pos' q)
  have n1 := My.q_num_nn hp
  have n2 := My.q_num_nn hq
  have c1 := dv_le (a := (p.den : Int)) (g := My.G p.den q.den) (Int.le_of_lt (My.den_pos' p)) g0
  have c2 := dv_le (a := (q.den : Int)) (g := My.G p.den q.den) (Int.le_of_lt (My.den_pos' q)) g0
  refine w_set (i := 2) sc_added.nd rfl (.inl rfl) (p_call (d := .int (My.G p.den q.den)) o_common_divisor (hr.mono (by decide)) rfl (pl_cons (p_ixT (p_var (i := 0) rfl (.inl rfl) rfl) p_int rfl) (pl_cons (p_ixT (p_var (i := 1) rfl (.inl rfl) rfl) p_int rfl) pl_nil)) ?_) ?_
  · exact ⟨_, _, rfl, rfl, Int.le_of_lt (My.den_pos' p), Int.le_of_lt (My.den_pos' q)⟩
  refine w_set (i := 3) sc_added.nd rfl (.inl rfl) (p_add (p_mul (p_ixT (p_var (i := 0) rfl (.inl rfl) rfl) p_int rfl) (p_fdivP py (p_ixT (p_var (i := 1) rfl (.inl rfl) rfl) p_int rfl) (p_var (i := 2) rfl (.inl rfl) rfl) ?_) ?_) (p_mul (p_ixT (p_var (i := 1) rfl (.inl rfl) rfl) p_int rfl) (p_fdivP py (p_ixT (p_var (i := 0) rfl (.inl rfl) rfl) p_int rfl) (p_var (i := 2) rfl (.inl rfl) rfl) ?_) ?_)) ?_
  · exact g0
  · exact mul_fit s1.1 (dv_fit c2 (den_abs s2)) (by have : big = 67108864 := rfl; omega)
  · exact g0
  · exact mul_fit s2.1 (dv_fit c1 (den_abs s1)) (by have : big = 67108864 := rfl; omega)
  have t0 : 0 ≤ p.num * ((q.den : Int) / My.G p.den q.den) + q.num * ((p.den : Int) / My.G p.den q.den) := Int.add_nonneg (Int.mul_nonneg n1 c2.1) (Int.mul_nonneg n2 c1.1)
  have e := My.add_num n1 n2
  generalize hT : p.num * ((q.den : Int) / My.G p.den q.den) + q.num * ((p.den : Int) / My.G p.den q.den) = T at *
  have h0 : 0 < My.G T (My.G p.den q.den) := My.G_pos g0
  have c3 := dv_le (a := (q.den : Int)) (g := My.G T (My.G p.den q.den)) (Int.le_of_lt (My.den_pos' q)) h0
  refine w_set (i := 4) sc_added.nd rfl (.inl rfl) (p_call (d := .int (My.G T (My.G p.den q.den))) o_common_divisor (hr.mono (by decide)) rfl (pl_cons (p_var (i := 3) rfl (.inl rfl) rfl) (pl_cons (p_var (i := 2) rfl (.inl rfl) rfl) pl_nil)) ?_) ?_
  · exact ⟨_, _, rfl, rfl, t0, Int.le_of_lt g0⟩
  refine w_ret (p_tup (pl_cons (p_fdivP py (p_var (i := 3) rfl (.inl rfl) rfl) (p_var (i := 4) rfl (.inl rfl) rfl) ?_) (pl_cons (p_mul (p_fdivP py (p_ixT (p_var (i := 0) rfl (.inl rfl) rfl) p_int rfl) (p_var (i := 2) rfl (.inl rfl) rfl) ?_) (p_fdivP py (p_ixT (p_var (i := 1) rfl (.inl rfl) rfl) p_int rfl) (p_var (i := 4) rfl (.inl rfl) rfl) ?_) ?_) pl_nil))) ?_
  · exact h0
  · exact g0
  · exact h0
  · exact mul_fit (dv_fit c1 (den_abs s1)) (dv_fit c3 (den_abs s2)) (by have : big = 67108864 := rfl; omega)
  show D.tup [D.int (T / My.G T (My.G p.den q.den)), D.int ((p.den : Int) / My.G p.den q.den * ((q.den : Int) / My.G T (My.G p.den q.den)))] = sh (p + q)
  unfold sh
  rw [e.1, e.2]
theorem ok_is_less  (d : DefK K mg "is_less" s_is_less ["one", "other"])  : OkF P w K mg base CX0 2 "is_less" ["one", "other"] (spP K 2 C_less) := by
  refine ok_pure d sc_is_less rfl fun f cdv A outer s H E hr ds r hC B hB => ?_
  obtain ⟨p, q, m, n, rfl, rfl, s1, s2, l1, l2⟩ := hC
  refine w_ret (p_cmp (c_lt (p_mul (p_ixT (p_var (i := 0) rfl (.inl rfl) rfl) p_int rfl) (p_ixT (p_var (i := 1) rfl (.inl rfl) rfl) p_int rfl) ?_) (p_mul (p_ixT (p_var (i := 1) rfl (.inl rfl) rfl) p_int rfl) (p_ixT (p_var (i := 0) rfl (.inl rfl) rfl) p_int rfl) ?_))) ?_
  · exact fit_nd s1 s2 l1 l2
  · exact fit_nd s2 s1 l2 l1
  · show D.bl (decide (p.num * q.den < q.num * p.den)) = D.bl (decide (p < q))
    rw [decide_eq_decide.mpr (My.q_lt p q)]
theorem ok_lessened  (d : DefK K mg "lessened" s_lessened ["one", "other"]) (o_share : OkF P w K mg base CX0 33 "share" ["top", "bottom"] (spP K 2 C_share)) (o_is_less : OkF P w K mg base CX0 2 "is_less" ["one", "other"] (spP K 2 C_less)) : OkF P w K mg base CX0 34 "lessened" ["one", "other"] (spP K 2 C_lessened) := by
  refine ok_pure d sc_lessened rfl fun f cdv A outer s H E hr ds r hC B hB => ?_
  obtain ⟨p, q, m, n, rfl, rfl, hp, hq, s1, s2, l1, l2, hle⟩ := hC
  refine w_if (t_val (p_call (d := .bl (decide (p < q))) o_is_less (hr.mono (by decide)) rfl (pl_cons (p_var (i := 0) rfl (.inl rfl) rfl) (pl_cons (p_var (i := 1) rfl (.inl rfl) rfl) pl_nil)) ?_)) ?_ ?_
  · exact ⟨p, q, m, n, rfl, rfl, s1, s2, l1, l2⟩
  · intro hk; have hk := of_decide_eq_true hk; exact absurd hk (Rat.not_lt.mpr hle)
  · intro hk
    refine w_nil ?_
    refine w_ret (p_call (d := sh (p - q)) o_share (hr.mono (by decide)) rfl (pl_cons (p_sub (p_mul (p_ixT (p_var (i := 0) rfl (.inl rfl) rfl) p_int rfl) (p_ixT (p_var (i := 1) rfl (.inl rfl) rfl) p_int rfl) ?_) (p_mul (p_ixT (p_var (i := 1) rfl (.inl rfl) rfl) p_int rfl) (p_ixT (p_var (i := 0) rfl (.inl rfl) rfl) p_int rfl) ?_)) (pl_cons (p_mul (p_ixT (p_var (i := 0) rfl (.inl rfl) rfl) p_int rfl) (p_ixT (p_var (i := 1) rfl (.inl rfl) rfl) p_int rfl) ?_) pl_nil)) ?_) ?_
    · exact fit_nd s1 s2 l1 l2
    · exact fit_nd s2 s1 l2 l1
    · exact fit_dd s1 s2 l1 l2
    · exact ⟨_, _, rfl, by rw [My.q_sub], sub_nn hle, dd_pos⟩
    · rfl
theorem ok_timed  (d : DefK K mg "timed" s_timed ["one", "other"]) (o_share : OkF P w K mg base CX0 33 "share" ["top", "bottom"] (spP K 2 C_share)) : OkF P w K mg base CX0 34 "timed" ["one", "other"] (spP K 2 C_timed) := by
  refine ok_pure d sc_timed rfl fun f cdv A outer s H E hr ds r hC B hB => ?_
  obtain ⟨p, q, m, n, rfl, rfl, hp, hq, s1, s2, l1, l2, -⟩ := hC
  have n1 := My.q_num_nn hp
  have n2 := My.q_num_nn hq
  have z1 := sz_divInt (n := max m n) (My.den_pos' q) (Nat.lt_of_lt_of_le s1.1 (pow_mono (Nat.le_max_left m n))) (Nat.lt_of_lt_of_le (den_abs s2) (pow_mono (Nat.le_max_right m n)))
  have z2 := sz_divInt (n := max m n) (My.den_pos' p) (Nat.lt_of_lt_of_le s2.1 (pow_mono (Nat.le_max_right m n))) (Nat.lt_of_lt_of_le (den_abs s1) (pow_mono (Nat.le_max_left m n)))
  refine w_set (i := 2) sc_timed.nd rfl (.inl rfl) (p_call (d := sh (Rat.divInt p.num q.den)) o_share (hr.mono (by decide)) rfl (pl_cons (p_ixT (p_var (i := 0) rfl (.inl rfl) rfl) p_int rfl) (pl_cons (p_ixT (p_var (i := 1) rfl (.inl rfl) rfl) p_int rfl) pl_nil)) ?_) ?_
  · exact ⟨_, _, rfl, rfl, n1, My.den_pos' q⟩
  refine w_set (i := 3) sc_timed.nd rfl (.inl rfl) (p_call (d := sh (Rat.divInt q.num p.den)) o_share (hr.mono (by decide)) rfl (pl_cons (p_ixT (p_var (i := 1) rfl (.inl rfl) rfl) p_int rfl) (pl_cons (p_ixT (p_var (i := 0) rfl (.inl rfl) rfl) p_int rfl) pl_nil)) ?_) ?_
  · exact ⟨_, _, rfl, rfl, n2, My.den_pos' p⟩
  refine w_ret (p_tup (pl_cons (p_mul (p_ixT (p_var (i := 2) rfl (.inl rfl) rfl) p_int rfl) (p_ixT (p_var (i := 3) rfl (.inl rfl) rfl) p_int rfl) ?_) (pl_cons (p_mul (p_ixT (p_var (i := 2) rfl (.inl rfl) rfl) p_int rfl) (p_ixT (p_var (i := 3) rfl (.inl rfl) rfl) p_int rfl) ?_) pl_nil))) ?_
  · exact fit_nn z1 z2 (by omega) (by omega)
  · exact fit_dd z1 z2 (by omega) (by omega)
  show D.tup [D.int ((Rat.divInt p.num q.den).num * (Rat.divInt q.num p.den).num), D.int (((Rat.divInt p.num q.den).den : Int) * ((Rat.divInt q.num p.den).den : Int))] = sh (p * q)
  exact (sh_mul p q).symm
theorem ok_parted (g_NOUGHT : GlobD K mg "NOUGHT" (sh 0)) (d : DefK K mg "parted" s_parted ["one", "other"]) (o_timed : OkF P w K mg base CX0 34 "timed" ["one", "other"] (spP K 2 C_timed)) : OkF P w K mg base CX0 35 "parted" ["one", "other"] (spP K 2 C_parted) := by
  refine ok_pure d sc_parted rfl fun f cdv A outer s H E hr ds r hC B hB => ?_
  obtain ⟨p, q, m, n, rfl, rfl, hp, hq, s1, s2, l1, l2, h0⟩ := hC
  have hu := hr.units
  refine w_if (t_cmp (c_eq hu (p_var (i := 1) rfl (.inl rfl) rfl) (p_globD g_NOUGHT rfl) kin_sh dep_sh)) ?_ ?_
  · intro hk
    rw [beq_sh] at hk
    have hk := of_decide_eq_true hk
    rw [hk] at h0
    exact absurd h0 (by decide)
  · intro hk
    refine w_nil ?_
    refine w_ret (p_call (d := sh (p / q)) o_timed (hr.mono (by decide)) rfl (pl_cons (p_var (i := 0) rfl (.inl rfl) rfl) (pl_cons (p_tup (pl_cons (p_ixT (p_var (i := 1) rfl (.inl rfl) rfl) p_int rfl) (pl_cons (p_ixT (p_var (i := 1) rfl (.inl rfl) rfl) p_int rfl) pl_nil))) pl_nil)) ?_) ?_
    · refine ⟨p, q⁻¹, m, n, by rw [sh_inv h0], by rw [Rat.div_def], hp, Rat.le_of_lt (Rat.inv_pos.mpr h0), s1, sz_inv h0 s2, l1, l2, trivial⟩
    · rfl
end
end Law
set_option Elab.async false
set_option linter.all false
set_option maxRecDepth 100000
set_option maxHeartbeats 4000000
namespace Law
open PySem L2 L3
section
variable {P : Program} {w : World} {K : PySem.W.Frag} {mg : Str → Option Value} {base : Heap}
theorem ok_law_cell_at (z : Zs mg) (d : DefK K mg "_law_cell_at" s_law_cell_at ["_law_script", "_law_k"])  : OkF P w K mg base CX0 2 "_law_cell_at" ["_law_script", "_law_k"] (spP K 2 C_cell) := by
  refine ok_pure d sc_law_cell_at rfl fun f cdv A outer s H E hr ds r hC B hB => ?_
  obtain ⟨ns, k, rfl, rfl⟩ := hC
  refine w_if (t_cmp (c_lt (p_var (i := 1) rfl (.inl rfl) rfl) (p_lenI z.len rfl (p_var (i := 0) rfl (.inl rfl) rfl)))) ?_ ?_
  · intro hk
    have hk := of_decide_eq_true hk
    refine w_ret (p_ixI (n := ns.getD k 0) (p_var (i := 0) rfl (.inl rfl) rfl) (p_var (i := 1) rfl (.inl rfl) rfl) ?_) ?_
    · have hk' : k < ns.length := by omega
      show atI ns (k : Int) = some (ns.getD k 0)
      unfold atI ixN
      rw [if_pos (by omega), if_pos (by omega)]
      show ns[((k : Int)).toNat]? = _
      rw [Int.toNat_natCast, List.getD_eq_getElem?_getD, List.getElem?_eq_getElem hk']
      rfl
    · rfl
  · intro hk
    have hk := of_decide_eq_false hk
    refine w_nil ?_
    refine w_ret p_int ?_
    show D.int 0 = D.int (ns.getD k 0)
    rw [List.getD_eq_getElem?_getD, List.getElem?_eq_none_iff.mpr (by omega)]
    rfl
theorem ok_law_whole (z : Zs mg) (d : DefK K mg "_law_whole" s_law_whole ["_law_found"])  : OkF P w K mg base CX0 2 "_law_whole" ["_law_found"] (spP K 1 C_whole) := by
  refine ok_pure d sc_law_whole rfl fun f cdv A outer s H E hr ds r hC B hB => ?_
  obtain ⟨i, rfl, rfl⟩ := hC
  refine w_ret (p_and (p_isin (k := true) z.isinstance rfl (p_var (i := 0) rfl (.inl rfl) rfl) (p_bltn rfl z.int bt_int (v := .ty "int") rfl) rfl (by rfl) (fun z => nomatch z)) fun _ => (p_one (p_not (p_isin (k := false) z.isinstance rfl (p_var (i := 0) rfl (.inl rfl) rfl) (p_bltn rfl z.bool bt_bool (v := .ty "bool") rfl) rfl (by rfl) (fun z => nomatch z))))) ?_
  rfl
theorem ok_law_share (ht : P.given.tree = none) (d : DefK K mg "_law_share" s_law_share ["_law_top", "_law_bottom"])  : OkF P w K mg base CX0 33 "_law_share" ["_law_top", "_law_bottom"] (spP K 2 C_share) := by
  refine ok_pure d sc_law_share rfl fun f cdv A outer s H E hr ds r hC B hB => ?_
  obtain ⟨t, b, rfl, rfl, h1, h2⟩ := hC
  have py : Pyl (cx0 P w K mg base ["_law_top", "_law_bottom", "_law_one", "_law_other", "_law_rest"] "_law_share" s_law_share f cdv A outer s H E) := (pyl_cx ht rfl rfl hr (Nat.le_refl _)).nox
  have g0 := My.G_pos (a := t) h2
  refine w_set (i := 2) sc_law_share.nd rfl (.inl rfl) (p_var (i := 0) rfl (.inl rfl) rfl) ?_
  refine w_set (i := 3) sc_law_share.nd rfl (.inl rfl) (p_var (i := 1) rfl (.inl rfl) rfl) ?_
  refine w_while PassesOwn.never (fun Γ _ => ∃ (x y : Int) (z : Option D), Γ = [some (.int t), some (.int b), some (.int x), some (.int y), z] ∧ 0 ≤ x ∧ 0 ≤ y ∧ My.G x y = My.G t b) (fun Γ _ => match Γ with | [_, _, _, some (.int y), _] => y.toNat | _ => 0) ⟨t, b, none, rfl, h1, Int.le_of_lt h2, rfl⟩ ?_
  rintro Γ Ω ⟨x, y, z, rfl, hx, hy, hg⟩
  refine ⟨_, (t_cmp (c_gt (p_var (i := 3) rfl (.inl rfl) rfl) p_int)), fun hk => ?_, fun hk => ?_⟩
  · have hk := of_decide_eq_true hk
    refine w_set (i := 4) sc_law_share.nd rfl (.inl rfl) (p_mod (p_var (i := 2) rfl (.inl rfl) rfl) (p_var (i := 3) rfl (.inl rfl) rfl) ?_) ?_
    · exact hk
    refine w_set (i := 2) sc_law_share.nd rfl (.inl rfl) (p_var (i := 3) rfl (.inl rfl) rfl) ?_
    refine w_set (i := 3) sc_law_share.nd rfl (.inl rfl) (p_var (i := 4) rfl (.inl rfl) rfl) ?_
    refine w_nil ⟨⟨y, x % y, _, rfl, hy, (emod_in hk).1, (G_turnE hx hk).trans hg⟩, ?_⟩
    have := emod_in (a := x) hk
    show (x % y).toNat < y.toNat
    omega
  · have hk := of_decide_eq_false hk
    have y0 : y = 0 := by omega
    subst y0
    rw [My.G_end hx] at hg
    subst hg
    refine w_ret (p_tup (pl_cons (p_fdivP py (p_var (i := 0) rfl (.inl rfl) rfl) (p_var (i := 2) rfl (.inl rfl) rfl) ?_) (pl_cons (p_fdivP py (p_var (i := 1) rfl (.inl rfl) rfl) (p_var (i := 2) rfl (.inl rfl) rfl) ?_) pl_nil))) ?_
    · exact g0
    · exact g0
    show D.tup [D.int (t / My.G t b), D.int (b / My.G t b)] = sh (Rat.divInt t b)
    unfold sh
    rw [← My.num_share h2, ← My.den_share h2, Int.fdiv_eq_ediv_of_nonneg _ (Int.le_of_lt g0), Int.fdiv_eq_ediv_of_nonneg _ (Int.le_of_lt g0)]
theorem ok_law_is_share (z : Zs mg) (d : DefK K mg "_law_is_share" s_law_is_share ["_law_found"]) (o_law_whole : OkF P w K mg base CX0 2 "_law_whole" ["_law_found"] (spP K 1 C_whole)) : OkF P w K mg base CX0 3 "_law_is_share" ["_law_found"] (spP K 1 C_isShare) := by
  refine ok_pure d sc_law_is_share rfl fun f cdv A outer s H E hr ds r hC B hB => ?_
  obtain ⟨q, rfl, rfl, hq⟩ := hC
  refine w_if (PW3.t (tw_or (t_not (t_val (p_isin (k := true) z.isinstance rfl (p_var (i := 0) rfl (.inl rfl) rfl) (p_bltn rfl z.tuple bt_tuple (v := .ty "tuple") rfl) rfl (by rfl) (fun z => nomatch z)))) fun _ => (tw_or1 (t_cmp (c_neI (p_lenT z.len rfl (p_var (i := 0) rfl (.inl rfl) rfl)) p_int))))) ?_ ?_
  · intro h; exact absurd h (by simp)
  · intro _
    refine w_nil ?_
    refine w_ret (p_and (p_call (d := .bl true) o_law_whole (hr.mono (by decide)) rfl (pl_cons (p_ixT (p_var (i := 0) rfl (.inl rfl) rfl) p_int rfl) pl_nil) ?_) fun _ => (p_and (p_call (d := .bl true) o_law_whole (hr.mono (by decide)) rfl (pl_cons (p_ixT (p_var (i := 0) rfl (.inl rfl) rfl) p_int rfl) pl_nil) ?_) fun _ => (p_and (p_cmp (c_ge (p_ixT (p_var (i := 0) rfl (.inl rfl) rfl) p_int rfl) p_int)) fun _ => (p_one (p_cmp (c_ge (p_ixT (p_var (i := 0) rfl (.inl rfl) rfl) p_int rfl) p_int)))))) ?_
    · exact ⟨_, rfl, rfl⟩
    · exact ⟨_, rfl, rfl⟩
    · have n0 := My.q_num_nn hq
      have d0 := My.den_pos' q
      show D.bl (true && (true && (decide (0 ≤ q.num) && decide (1 ≤ (q.den : Int))))) = D.bl true
      rw [decide_eq_true n0, decide_eq_true (show (1 : Int) ≤ q.den by omega)]
      rfl
theorem ok_lessenedX {A1 : Addr} (c1 : ExCls K A1) (m1 : mg "NoShare" = some (.ref A1)) (d : DefK K mg "lessened" s_lessened ["one", "other"]) (o_is_less : OkF P w K mg base CX0 2 "is_less" ["one", "other"] (spP K 2 C_less)) : OkF P w K mg base (CXo P w) 3 "lessened" ["one", "other"] (spX K 2 (C_lessX A1)) := by
  refine ok_raises d sc_lessened rfl fun f cdv A outer s H E hr ds r hC B hB hE => ?_
  obtain ⟨rfl, p, q, m, n, rfl, s1, s2, l1, l2, hlt⟩ := hC
  refine w_if (t_val (p_call (d := .bl (decide (p < q))) o_is_less (hr.mono (by decide)) rfl (pl_cons (p_var (i := 0) rfl (.inl rfl) rfl) (pl_cons (p_var (i := 1) rfl (.inl rfl) rfl) pl_nil)) ?_)) ?_ ?_
  · exact ⟨p, q, m, n, rfl, rfl, s1, s2, l1, l2⟩
  · intro _
    exact w_raise rfl c1 rfl m1 (pl_cons p_str pl_nil) flies_o fun F σ H S => hE _ _ _ _ _ S
  · intro hk
    exact absurd hlt (of_decide_eq_false hk)
theorem ok_partedX {A1 : Addr} (c1 : ExCls K A1) (m1 : mg "NoShare" = some (.ref A1)) (g_NOUGHT : GlobD K mg "NOUGHT" (sh 0)) (d : DefK K mg "parted" s_parted ["one", "other"])  : OkF P w K mg base (CXo P w) 2 "parted" ["one", "other"] (spX K 2 (C_partX A1)) := by
  refine ok_raises d sc_parted rfl fun f cdv A outer s H E hr ds r hC B hB hE => ?_
  obtain ⟨rfl, p, rfl⟩ := hC
  have hu := hr.units
  refine w_if (t_cmp (c_eq hu (p_var (i := 1) rfl (.inl rfl) rfl) (p_globD g_NOUGHT rfl) kin_sh dep_sh)) ?_ ?_
  · intro _
    exact w_raise rfl c1 rfl m1 (pl_cons p_str pl_nil) flies_o fun F σ H S => hE _ _ _ _ _ S
  · intro hk
    rw [beq_sh] at hk
    exact absurd rfl (of_decide_eq_false hk)
theorem ok_law_given  (d : DefK K mg "_law_given" s_law_given ["_law_cell", "_law_other", "_law_small"]) (o_law_share : OkF P w K mg base CX0 33 "_law_share" ["_law_top", "_law_bottom"] (spP K 2 C_share)) : OkF P w K mg base CX0 34 "_law_given" ["_law_cell", "_law_other", "_law_small"] (spP K 3 C_given) := by
  refine ok_pure d sc_law_given rfl fun f cdv A outer s H E hr ds r hC B hB => ?_
  obtain ⟨c, o, b, rfl, rfl⟩ := hC
  have a1 := emod_in (a := c) (show (0 : Int) < 12 by decide)
  have a2 := emod_in (a := o) (show (0 : Int) < 12 by decide)
  have a3 := emod_in (a := c) (show (0 : Int) < 10 ^ 12 + 1 by decide)
  have a4 := emod_in (a := o) (show (0 : Int) < 10 ^ 12 by decide)
  refine w_if (t_val (p_var (i := 2) rfl (.inl rfl) rfl)) ?_ ?_
  · intro hk
    subst hk
    refine w_ret (p_call (d := sh (giv c o true)) o_law_share (hr.mono (by decide)) rfl (pl_cons (p_mod (p_var (i := 0) rfl (.inl rfl) rfl) p_int ?_) (pl_cons (p_add p_int (p_mod (p_var (i := 1) rfl (.inl rfl) rfl) p_int ?_)) pl_nil)) ?_) ?_
    · decide
    · decide
    · exact ⟨_, _, rfl, rfl, a1.1, by omega⟩
    · rfl
  · intro hk
    subst hk
    refine w_nil ?_
    refine w_ret (p_call (d := sh (giv c o false)) o_law_share (hr.mono (by decide)) rfl (pl_cons (p_mod (p_var (i := 0) rfl (.inl rfl) rfl) (p_add (p_pow p_int p_int ?_) p_int) ?_) (pl_cons (p_add p_int (p_mod (p_var (i := 1) rfl (.inl rfl) rfl) (p_pow p_int p_int ?_) ?_)) pl_nil)) ?_) ?_
    · exact ⟨by decide, by decide, by decide⟩
    · decide
    · exact ⟨by decide, by decide, by decide⟩
    · decide
    · exact ⟨_, _, rfl, rfl, a3.1, by have := a4.1; show 0 < 1 + o % 10 ^ 12; omega⟩
    · rfl
theorem ok_law_good  (d : DefK K mg "_law_good" s_law_good ["_law_found", "_law_top", "_law_bottom"]) (o_law_is_share : OkF P w K mg base CX0 3 "_law_is_share" ["_law_found"] (spP K 1 C_isShare)) (o_law_share : OkF P w K mg base CX0 33 "_law_share" ["_law_top", "_law_bottom"] (spP K 2 C_share)) : OkF P w K mg base CX0 35 "_law_good" ["_law_found", "_law_top", "_law_bottom"] (spP K 3 C_good) := by
  refine ok_pure d sc_law_good rfl fun f cdv A outer s H E hr ds r hC B hB => ?_
  obtain ⟨q, t, b, rfl, rfl, hq, ht, hb, e⟩ := hC
  have hu := hr.units
  refine w_ret (p_and (p_call (d := .bl true) o_law_is_share (hr.mono (by decide)) rfl (pl_cons (p_var (i := 0) rfl (.inl rfl) rfl) pl_nil) ?_) fun _ => (p_one (p_cmp (c_eq hu (p_var (i := 0) rfl (.inl rfl) rfl) (p_call (d := sh q) o_law_share (hr.mono (by decide)) rfl (pl_cons (p_var (i := 1) rfl (.inl rfl) rfl) (pl_cons (p_var (i := 2) rfl (.inl rfl) rfl) pl_nil)) ?_) kin_sh dep_sh)))) ?_
  · exact ⟨q, rfl, rfl, hq⟩
  · exact ⟨t, b, rfl, by rw [e], ht, hb⟩
  · rw [beq_sh]
    simp
end
end Law
set_option Elab.async false
set_option linter.all false
set_option maxRecDepth 100000
set_option maxHeartbeats 4000000
namespace Law
open PySem L2 L3
section
variable {P : Program} {w : World} {K : PySem.W.Frag} {mg : Str → Option Value} {base : Heap}
theorem ok_law_refused {L : Lam} {g : Str} {gps : List Str} {k : Nat} {Cx' : List D → Addr → Prop} {A1 : Addr} (hL : IsLam L "_law_left" "_law_right" g) (hdb : (g == ("__debug__" : Str)) = false) (m1 : mg "NoShare" = some (.ref A1)) (hx : PySem.W.exmOne K (.ref A1) (.ref A1) = some true) (hk : k ≤ 3) (d : DefK K mg "_law_refused" s_law_refused ["_law_work", "_law_one", "_law_other"]) (o : OkF P w K mg base (CXo P w) k g gps (spX K 2 Cx')) : OkF P w K mg base CX0 6 "_law_refused" ["_law_work", "_law_one", "_law_other"] (spLam K 3 L fun ds d => ∃ a b, ds = [a, b] ∧ Cx' ds A1 ∧ d = .bl true) := by
  refine ok_lam d sc_law_refused rfl fun f0 cdv A outer s H E hr f c ds r hC B hB hf hc => ?_
  obtain ⟨a, b, rfl, hC, rfl⟩ := hC
  obtain ⟨p1, p2, p3, pos, hbd⟩ := hL.body
  refine w_tryLam (L := L) (f := f) (c := c) (N := ["_law_left", "_law_right"]) (ps := ["_law_left", "_law_right"]) (k := 4) (cls := A1) ⟨rfl, rfl, rfl⟩ rfl (hr.mono (by decide)) hf hc (p_var (i := 0) rfl (.inl rfl) rfl) (pl_cons (p_var (i := 1) rfl (.inl rfl) rfl) (pl_cons (p_var (i := 2) rfl (.inl rfl) rfl) pl_nil)) hL.sc rfl (fun pm ctv us hl => hL.bind pm _ ctv us hl) (fun s H Ex rm B' hE => ?_) rfl m1 hx (fun ea => ?_)
  · rw [hbd]
    exact r_call o (pass_o fun _ _ _ q => q) (rm.mono (by omega)) (hL.gl _ _ _) (pl_cons (p_var (i := 0) rfl (.inl hL.l1) rfl) (pl_cons (p_var (i := 1) rfl (.inl hL.l2) rfl) pl_nil)) hC (fun F σ H S => hE _ _ _ _ _ S) rfl hdb
  · exact w_ret p_bl rfl
theorem ok_law (z : Zs mg) {A1 P0 c0 f : Addr} {oc : Value} {od an : Option Addr} {osl : Array (Option Value)} {kV doc pm cdv ct : Value} (lk : K.lookup f = some ⟨oc, od, .func (PySem.W.fnOf "law" "law" (defArgs s_law) (defBody s_law) (defScope s_law) .none kV doc pm an cdv ct), osl⟩) (hcd : PySem.W.codeIn K cdv "law" = true) (hcv : cdv = .ref c0) (hC0 : PySem.W.CodeHd base c0 P0) (hBA : base.BuiltinsAt mg P0)
    (o_law_cell_at : OkF P w K mg base CX0 2 "_law_cell_at" ["_law_script", "_law_k"] (spP K 2 C_cell)) (o_law_given : OkF P w K mg base CX0 34 "_law_given" ["_law_cell", "_law_other", "_law_small"] (spP K 3 C_given)) (o_law_good : OkF P w K mg base CX0 35 "_law_good" ["_law_found", "_law_top", "_law_bottom"] (spP K 3 C_good)) (o_added : OkF P w K mg base CX0 33 "added" ["one", "other"] (spP K 2 C_added)) (o_timed : OkF P w K mg base CX0 34 "timed" ["one", "other"] (spP K 2 C_timed)) (o_is_less : OkF P w K mg base CX0 2 "is_less" ["one", "other"] (spP K 2 C_less)) (o_lessened : OkF P w K mg base CX0 34 "lessened" ["one", "other"] (spP K 2 C_lessened)) (o_parted : OkF P w K mg base CX0 35 "parted" ["one", "other"] (spP K 2 C_parted))
    (o_refL : ∀ L : Lam, IsLam L "_law_left" "_law_right" "lessened" → OkF P w K mg base CX0 6 "_law_refused" ["_law_work", "_law_one", "_law_other"] (spLam K 3 L fun ds d => ∃ a b, ds = [a, b] ∧ C_lessX A1 ds A1 ∧ d = .bl true))
    (o_refP : ∀ L : Lam, IsLam L "_law_left" "_law_right" "parted" → OkF P w K mg base CX0 6 "_law_refused" ["_law_work", "_law_one", "_law_other"] (spLam K 3 L fun ds d => ∃ a b, ds = [a, b] ∧ C_partX A1 ds A1 ∧ d = .bl true)) :
    FnOk P w K mg base CX0 40 f (PySem.W.fnOf "law" "law" (defArgs s_law) (defBody s_law) (defScope s_law) .none kV doc pm an cdv ct) ["_law_script"] (spLawT K P0) := by
  refine ok_lawT (k := 39) lk hcd sc_law fun A outer s H E hr ns hlen B => ?_
  have hu := hr.units
  have a2 := emod_in (a := ns.getD 4 0) (show (0 : Int) < 2 by decide)
  have a5 := emod_in (a := ns.getD 5 0) (show (0 : Int) < 5 by decide)
  refine w_set (i := 1) sc_law.nd rfl (.inl rfl) (p_cmp (c_eqI (p_mod (p_call (d := .int (ns.getD 4 0)) o_law_cell_at (hr.mono (by decide)) rfl (pl_cons (p_var (i := 0) rfl (.inl rfl) rfl) (pl_cons p_int pl_nil)) ?_) p_int ?_) p_int)) ?_
  · exact ⟨ns, 4, rfl, rfl⟩
  · decide
  generalize decide (ns.getD 4 0 % 2 = 0) = b
  refine w_set (i := 2) sc_law.nd rfl (.inl rfl) (p_call (d := sh (giv (ns.getD 0 0) (ns.getD 1 0) b)) o_law_given (hr.mono (by decide)) rfl (pl_cons (p_call (d := .int (ns.getD 0 0)) o_law_cell_at (hr.mono (by decide)) rfl (pl_cons (p_var (i := 0) rfl (.inl rfl) rfl) (pl_cons p_int pl_nil)) ?_) (pl_cons (p_call (d := .int (ns.getD 1 0)) o_law_cell_at (hr.mono (by decide)) rfl (pl_cons (p_var (i := 0) rfl (.inl rfl) rfl) (pl_cons p_int pl_nil)) ?_) (pl_cons (p_var (i := 1) rfl (.inl rfl) rfl) pl_nil))) ?_) ?_
  · exact ⟨ns, 0, rfl, rfl⟩
  · exact ⟨ns, 1, rfl, rfl⟩
  · exact ⟨_, _, _, rfl, rfl⟩
  refine w_set (i := 3) sc_law.nd rfl (.inl rfl) (p_call (d := sh (giv (ns.getD 2 0) (ns.getD 3 0) b)) o_law_given (hr.mono (by decide)) rfl (pl_cons (p_call (d := .int (ns.getD 2 0)) o_law_cell_at (hr.mono (by decide)) rfl (pl_cons (p_var (i := 0) rfl (.inl rfl) rfl) (pl_cons p_int pl_nil)) ?_) (pl_cons (p_call (d := .int (ns.getD 3 0)) o_law_cell_at (hr.mono (by decide)) rfl (pl_cons (p_var (i := 0) rfl (.inl rfl) rfl) (pl_cons p_int pl_nil)) ?_) (pl_cons (p_var (i := 1) rfl (.inl rfl) rfl) pl_nil))) ?_) ?_
  · exact ⟨ns, 2, rfl, rfl⟩
  · exact ⟨ns, 3, rfl, rfl⟩
  · exact ⟨_, _, _, rfl, rfl⟩
  obtain ⟨p0, sp⟩ := giv_nn (ns.getD 0 0) (ns.getD 1 0) b
  obtain ⟨q0, sq⟩ := giv_nn (ns.getD 2 0) (ns.getD 3 0) b
  generalize giv (ns.getD 0 0) (ns.getD 1 0) b = p at p0 sp ⊢
  generalize giv (ns.getD 2 0) (ns.getD 3 0) b = q' at q0 sq ⊢
  have big64 : 64 ≤ big := by decide
  refine w_ifV2 (fun Γ Ω => ∃ q, 0 ≤ q ∧ Sz 64 q ∧ Γ = [some (.scr ns), some (.bl b), some (sh p), some (sh q), none, none] ∧ Ω = [(P0, oTbl0)]) (vt_pure (t_cmp (c_eqI (p_mod (p_call (d := .int (ns.getD 5 0)) o_law_cell_at (hr.mono (by decide)) rfl (pl_cons (p_var (i := 0) rfl (.inl rfl) rfl) (pl_cons p_int pl_nil)) ?_) p_int ?_) p_int)) ⟨fun _ => ?_, fun _ => ?_⟩) ?_
  · exact ⟨ns, 5, rfl, rfl⟩
  · decide
  · refine w_set (i := 3) sc_law.nd rfl (.inl rfl) (p_var (i := 2) rfl (.inl rfl) rfl) ?_
    exact w_nil ⟨p, p0, sp, rfl, rfl⟩
  · exact w_nil ⟨q', q0, sq, rfl, rfl⟩
  clear q0 sq q'
  rintro Γ Ω ⟨q, q0, sq, rfl, rfl⟩
  refine w_if (t_not (t_val (p_call (d := .bl true) o_law_good (hr.mono (by decide)) rfl (pl_cons (p_call (d := sh (p + q)) o_added (hr.mono (by decide)) rfl (pl_cons (p_var (i := 2) rfl (.inl rfl) rfl) (pl_cons (p_var (i := 3) rfl (.inl rfl) rfl) pl_nil)) ?_) (pl_cons (p_add (p_mul (p_ixT (p_var (i := 2) rfl (.inl rfl) rfl) p_int rfl) (p_ixT (p_var (i := 3) rfl (.inl rfl) rfl) p_int rfl) ?_) (p_mul (p_ixT (p_var (i := 3) rfl (.inl rfl) rfl) p_int rfl) (p_ixT (p_var (i := 2) rfl (.inl rfl) rfl) p_int rfl) ?_)) (pl_cons (p_mul (p_ixT (p_var (i := 2) rfl (.inl rfl) rfl) p_int rfl) (p_ixT (p_var (i := 3) rfl (.inl rfl) rfl) p_int rfl) ?_) pl_nil))) ?_))) ?_ ?_
  · exact ⟨p, q, 64, 64, rfl, rfl, p0, q0, sp, sq, big64, big64, trivial⟩
  · exact fit_nd sp sq big64 big64
  · exact fit_nd sq sp big64 big64
  · exact fit_dd sp sq big64 big64
  · exact ⟨p + q, _, _, rfl, rfl, q_nn_add p0 q0, sum_nn p0 q0, dd_pos, (My.q_add p q).symm⟩
  · intro hk; exact absurd hk (by decide)
  intro _
  refine w_nil ?_
  refine w_if (t_not (t_val (p_call (d := .bl true) o_law_good (hr.mono (by decide)) rfl (pl_cons (p_call (d := sh (p * q)) o_timed (hr.mono (by decide)) rfl (pl_cons (p_var (i := 2) rfl (.inl rfl) rfl) (pl_cons (p_var (i := 3) rfl (.inl rfl) rfl) pl_nil)) ?_) (pl_cons (p_mul (p_ixT (p_var (i := 2) rfl (.inl rfl) rfl) p_int rfl) (p_ixT (p_var (i := 3) rfl (.inl rfl) rfl) p_int rfl) ?_) (pl_cons (p_mul (p_ixT (p_var (i := 2) rfl (.inl rfl) rfl) p_int rfl) (p_ixT (p_var (i := 3) rfl (.inl rfl) rfl) p_int rfl) ?_) pl_nil))) ?_))) ?_ ?_
  · exact ⟨p, q, 64, 64, rfl, rfl, p0, q0, sp, sq, big64, big64, trivial⟩
  · exact fit_nn sp sq big64 big64
  · exact fit_dd sp sq big64 big64
  · exact ⟨p * q, _, _, rfl, rfl, Rat.mul_nonneg p0 q0, Int.mul_nonneg (My.q_num_nn p0) (My.q_num_nn q0), dd_pos, (My.q_mul p q).symm⟩
  · intro hk; exact absurd hk (by decide)
  intro _
  refine w_nil ?_
  refine w_set (i := 4) sc_law.nd rfl (.inl rfl) (p_sub (p_mul (p_ixT (p_var (i := 2) rfl (.inl rfl) rfl) p_int rfl) (p_ixT (p_var (i := 3) rfl (.inl rfl) rfl) p_int rfl) ?_) (p_mul (p_ixT (p_var (i := 3) rfl (.inl rfl) rfl) p_int rfl) (p_ixT (p_var (i := 2) rfl (.inl rfl) rfl) p_int rfl) ?_)) ?_
  · exact fit_nd sp sq big64 big64
  · exact fit_nd sq sp big64 big64
  refine w_set (i := 5) sc_law.nd rfl (.inl rfl) (p_call (d := .bl (decide (p < q))) o_is_less (hr.mono (by decide)) rfl (pl_cons (p_var (i := 2) rfl (.inl rfl) rfl) (pl_cons (p_var (i := 3) rfl (.inl rfl) rfl) pl_nil)) ?_) ?_
  · exact ⟨p, q, 64, 64, rfl, rfl, sp, sq, big64, big64⟩
  have lt_iff : p.num * q.den - q.num * p.den < 0 ↔ p < q := by rw [← My.q_lt]; omega
  refine w_if (PW3.t (tw_or (t_not (t_val (p_isin (k := true) z.isinstance rfl (p_var (i := 5) rfl (.inl rfl) rfl) (p_bltn rfl z.bool bt_bool (v := .ty "bool") rfl) rfl (by rfl) (fun z => nomatch z)))) fun _ => (tw_or1 (t_cmp (c_neB (p_var (i := 5) rfl (.inl rfl) rfl) (p_cmp (c_lt (p_var (i := 4) rfl (.inl rfl) rfl) p_int))))))) ?_ ?_
  · intro hk
    exfalso
    have e : decide (p.num * q.den - q.num * p.den < 0) = decide (p < q) := decide_eq_decide.mpr lt_iff
    rw [e] at hk
    simp at hk
  intro _
  refine w_nil ?_
  refine w_if (t_cmp (c_lt (p_var (i := 4) rfl (.inl rfl) rfl) p_int)) ?_ ?_
  · intro hk
    have hlt : p < q := lt_iff.mp (of_decide_eq_true hk)
    have hq : 0 < q := by grind
    refine w_ifV (vt_not (vt_val (v_callLam (o_refL _ ⟨⟨_, _, _, _, rfl⟩, ⟨rfl, rfl, rfl, by decide +kernel, rfl, by dsimp only; decide +kernel, by dsimp only; decide +kernel⟩, rfl, rfl, fun _ _ _ => rfl, fun _ _ _ us hl => match us, hl with | [_, _], _ => rfl⟩) (hr.mono (by decide)) rfl hC0 hcv hBA rfl rfl (pl_cons (p_var (i := 2) rfl (.inl rfl) rfl) (pl_cons (p_var (i := 3) rfl (.inl rfl) rfl) pl_nil)) rfl ⟨_, _, rfl, ⟨rfl, p, q, 64, 64, rfl, sp, sq, big64, big64, hlt⟩, rfl⟩ ⟨true, rfl, fun h => absurd h (by decide), fun _ => w_nil (w_nil ?_)⟩)))
    refine w_if (t_cmp (c_eqI (p_ixT (p_var (i := 3) rfl (.inl rfl) rfl) p_int rfl) p_int)) ?_ ?_
    · intro hk
      have h0 := of_decide_eq_true hk
      exact absurd h0 (Int.ne_of_gt (num_pos' hq))
    intro _
    refine w_nil ?_
    refine w_ret (p_call (d := .bl true) o_law_good (hr.mono (by decide)) rfl (pl_cons (p_call (d := sh (p / q)) o_parted (hr.mono (by decide)) rfl (pl_cons (p_var (i := 2) rfl (.inl rfl) rfl) (pl_cons (p_var (i := 3) rfl (.inl rfl) rfl) pl_nil)) ?_) (pl_cons (p_mul (p_ixT (p_var (i := 2) rfl (.inl rfl) rfl) p_int rfl) (p_ixT (p_var (i := 3) rfl (.inl rfl) rfl) p_int rfl) ?_) (pl_cons (p_mul (p_ixT (p_var (i := 2) rfl (.inl rfl) rfl) p_int rfl) (p_ixT (p_var (i := 3) rfl (.inl rfl) rfl) p_int rfl) ?_) pl_nil))) ?_) ?_
    · exact ⟨p, q, 64, 64, rfl, rfl, p0, q0, sp, sq, by decide, by decide, hq⟩
    · exact fit_nd sp sq (by decide) (by decide)
    · exact mul_fit (den_abs sp) sq.1 (by decide)
    · exact ⟨p / q, _, _, rfl, rfl, q_nn_div p0 hq, Int.mul_nonneg (My.q_num_nn p0) (Int.le_of_lt (My.den_pos' q)), Int.mul_pos (My.den_pos' p) (num_pos' hq), (My.q_div p q).symm⟩
    · rfl
  · intro hk
    have hle : q ≤ p := Rat.not_lt.mp fun z => of_decide_eq_false hk (lt_iff.mpr z)
    refine w_if (t_not (t_val (p_call (d := .bl true) o_law_good (hr.mono (by decide)) rfl (pl_cons (p_call (d := sh (p - q)) o_lessened (hr.mono (by decide)) rfl (pl_cons (p_var (i := 2) rfl (.inl rfl) rfl) (pl_cons (p_var (i := 3) rfl (.inl rfl) rfl) pl_nil)) ?_) (pl_cons (p_var (i := 4) rfl (.inl rfl) rfl) (pl_cons (p_mul (p_ixT (p_var (i := 2) rfl (.inl rfl) rfl) p_int rfl) (p_ixT (p_var (i := 3) rfl (.inl rfl) rfl) p_int rfl) ?_) pl_nil))) ?_))) ?_ ?_
    · exact ⟨p, q, 64, 64, rfl, rfl, p0, q0, sp, sq, big64, big64, hle⟩
    · exact fit_dd sp sq big64 big64
    · exact ⟨p - q, _, _, rfl, rfl, by grind, sub_nn hle, dd_pos, (My.q_sub p q).symm⟩
    · intro hk; exact absurd hk (by decide)
    intro _
    refine w_nil (w_nil ?_)
    refine w_if (t_cmp (c_eqI (p_ixT (p_var (i := 3) rfl (.inl rfl) rfl) p_int rfl) p_int)) ?_ ?_
    · intro hk
      have h0 := of_decide_eq_true hk
      have hz : q = 0 := Rat.num_eq_zero.mp h0
      subst hz
      exact w_retV (v_callLam (o_refP _ ⟨⟨_, _, _, _, rfl⟩, ⟨rfl, rfl, rfl, by decide +kernel, rfl, by dsimp only; decide +kernel, by dsimp only; decide +kernel⟩, rfl, rfl, fun _ _ _ => rfl, fun _ _ _ us hl => match us, hl with | [_, _], _ => rfl⟩) (hr.mono (by decide)) rfl hC0 hcv hBA rfl rfl (pl_cons (p_var (i := 2) rfl (.inl rfl) rfl) (pl_cons (p_var (i := 3) rfl (.inl rfl) rfl) pl_nil)) rfl ⟨_, _, rfl, ⟨rfl, p, rfl⟩, rfl⟩ rfl)
    intro hk
    have hz : q ≠ 0 := fun z => of_decide_eq_false hk (by rw [z]; rfl)
    have hq : 0 < q := by grind
    refine w_nil ?_
    refine w_ret (p_call (d := .bl true) o_law_good (hr.mono (by decide)) rfl (pl_cons (p_call (d := sh (p / q)) o_parted (hr.mono (by decide)) rfl (pl_cons (p_var (i := 2) rfl (.inl rfl) rfl) (pl_cons (p_var (i := 3) rfl (.inl rfl) rfl) pl_nil)) ?_) (pl_cons (p_mul (p_ixT (p_var (i := 2) rfl (.inl rfl) rfl) p_int rfl) (p_ixT (p_var (i := 3) rfl (.inl rfl) rfl) p_int rfl) ?_) (pl_cons (p_mul (p_ixT (p_var (i := 2) rfl (.inl rfl) rfl) p_int rfl) (p_ixT (p_var (i := 3) rfl (.inl rfl) rfl) p_int rfl) ?_) pl_nil))) ?_) ?_
    · exact ⟨p, q, 64, 64, rfl, rfl, p0, q0, sp, sq, by decide, by decide, hq⟩
    · exact fit_nd sp sq (by decide) (by decide)
    · exact mul_fit (den_abs sp) sq.1 (by decide)
    · exact ⟨p / q, _, _, rfl, rfl, q_nn_div p0 hq, Int.mul_nonneg (My.q_num_nn p0) (Int.le_of_lt (My.den_pos' q)), Int.mul_pos (My.den_pos' p) (num_pos' hq), (My.q_div p q).symm⟩
    · rfl
theorem law_all (ht : P.given.tree = none) (z : Zs mg) (g_NOUGHT : GlobD K mg "NOUGHT" (sh 0)) (d_common_divisor : DefK K mg "common_divisor" s_common_divisor ["one", "other"]) (d_share : DefK K mg "share" s_share ["top", "bottom"]) (d_added : DefK K mg "added" s_added ["one", "other"]) (d_is_less : DefK K mg "is_less" s_is_less ["one", "other"]) (d_lessened : DefK K mg "lessened" s_lessened ["one", "other"]) (d_timed : DefK K mg "timed" s_timed ["one", "other"]) (d_parted : DefK K mg "parted" s_parted ["one", "other"]) (d_law_cell_at : DefK K mg "_law_cell_at" s_law_cell_at ["_law_script", "_law_k"]) (d_law_whole : DefK K mg "_law_whole" s_law_whole ["_law_found"]) (d_law_share : DefK K mg "_law_share" s_law_share ["_law_top", "_law_bottom"]) (d_law_is_share : DefK K mg "_law_is_share" s_law_is_share ["_law_found"]) (d_law_given : DefK K mg "_law_given" s_law_given ["_law_cell", "_law_other", "_law_small"]) (d_law_good : DefK K mg "_law_good" s_law_good ["_law_found", "_law_top", "_law_bottom"]) (d_law_refused : DefK K mg "_law_refused" s_law_refused ["_law_work", "_law_one", "_law_other"]) {A1 P0 c0 f : Addr} {oc : Value} {od an : Option Addr} {osl : Array (Option Value)} {kV doc pm cdv ct : Value} (c1 : ExCls K A1) (m1 : mg "NoShare" = some (.ref A1)) (hx : PySem.W.exmOne K (.ref A1) (.ref A1) = some true) (lk : K.lookup f = some ⟨oc, od, .func (PySem.W.fnOf "law" "law" (defArgs s_law) (defBody s_law) (defScope s_law) .none kV doc pm an cdv ct), osl⟩) (hcd : PySem.W.codeIn K cdv "law" = true) (hcv : cdv = .ref c0) (hC0 : PySem.W.CodeHd base c0 P0) (hBA : base.BuiltinsAt mg P0) : FnOk P w K mg base CX0 40 f (PySem.W.fnOf "law" "law" (defArgs s_law) (defBody s_law) (defScope s_law) .none kV doc pm an cdv ct) ["_law_script"] (spLawT K P0) := by
  have q1 := ok_common_divisor (P := P) (w := w) (base := base) d_common_divisor
  have q2 := ok_share ht d_share q1
  have q3 := ok_added ht d_added q1
  have q4 := ok_is_less (P := P) (w := w) (base := base) d_is_less
  have q5 := ok_lessened d_lessened q2 q4
  have q6 := ok_timed d_timed q2
  have q7 := ok_parted g_NOUGHT d_parted q6
  have x5 := ok_lessenedX c1 m1 d_lessened q4
  have x7 := ok_partedX (P := P) (w := w) (base := base) c1 m1 g_NOUGHT d_parted
  have r1 := ok_law_cell_at (P := P) (w := w) (base := base) z d_law_cell_at
  have r2 := ok_law_whole (P := P) (w := w) (base := base) z d_law_whole
  have r3 := ok_law_share (w := w) (base := base) ht d_law_share
  have r6 := ok_law_is_share z d_law_is_share r2
  have r7 := ok_law_given d_law_given r3
  have r8 := ok_law_good d_law_good r6 r3
  exact ok_law z lk hcd hcv hC0 hBA r1 r7 r8 q3 q6 q4 q5 q7 (fun L hL => ok_law_refused hL (by decide) m1 hx (by decide) d_law_refused x5) (fun L hL => ok_law_refused hL (by decide) m1 hx (by decide) d_law_refused x7)
end
end Law
set_option Elab.async false
set_option linter.all false
set_option maxRecDepth 100000
set_option maxHeartbeats 4000000
namespace Law
open PySem L2 L3
theorem walk {l : PySem.W.OpenLaw} {q : Program} {loose : List Str} {XP : (Str → Option Value) → Heap → Prop} {YP : World → Heap → Prop} {d : DefRec} {K : Params → PySem.W.Frag} {c0 P0 : Addr} (hn : l.most = some 63) (hi : PyProof.Rows.importsNone q = true) (hdf : d.params.defaults = [])
    (hrec : ((PyProof.Rows.recsOf q).find? fun e => e.name == d.name).isSome = true) (hY : ∀ (w : World) (h : Heap), YP w h → (K w.params).In h) (hT : ∀ w : World, PySem.W.tabIn (K w.params) d.name = some (c0, P0)) (hPk : ∀ w : World, (K w.params).lookup P0 = none)
    (F : ∀ (w : World) (mg : Str → Option Value) (fa : Addr) (h : Heap), (K w.params).In h → h.Ns mainGlobals mg → mg d.name = some (.ref fa) →
      ∃ fd : FuncData, (∀ (s : Shared) (u : Value), BindsTo s fd ⟨[u], []⟩ [("_law_script", u)]) ∧ ∀ base : Heap, (K w.params).In base → base.Ns mainGlobals mg → PySem.W.CodeHd base c0 P0 → base.BuiltinsAt mg P0 → FnOk l.prog w (K w.params) mg base CX0 40 fa fd ["_law_script"] (spLawT (K w.params) P0)) :
    PySem.W.WalkO q loose XP YP l.row.toRowW d [] (fun f vs => PySem.call f vs) :=
  L3.walk_ofT (n := 63) (k := 40) (x := "_law_script") (CX := fun _ => CX0) (sp := fun w => spLawT (K w.params) P0) hn (by decide) hi hdf ⟨rfl, by decide, by decide⟩ hrec hY hT hPk F (fun _ _ a ns hl hO hS => sp_lawT hl hO hS) fun _ _ _ _ _ z => z
end Law
open PySem PySem.W PyProof.Rows
set_option maxRecDepth 100000 in
set_option maxHeartbeats 0 in
theorem PySem.Challenge.cw_scoreflow_k02_reckoned_holds : PySem.Challenge.rw_scoreflow_k02_reckoned.Holds := by
  w_on; o_law; k_head; (case hw => w_witness2)
  k_fill
  refine Law.walk (l := PySem.Challenge.rw_scoreflow_k02_reckoned) (c0 := 158) (P0 := 154) rfl ?hi rfl ?hrec (fun w h Y => Y.1) ?hT ?hPk ?F
  case hi => decide +kernel
  case hrec => decide +kernel
  case hT => intro w; kernel_rfl
  case hPk => intro w; kernel_rfl
  case F =>
    intro w mg fa h KX G hmg
    have d_common_divisor : L2.DefK (L2.KOf KX) mg "common_divisor" Law.s_common_divisor ["one", "other"] := by
      dsimp only [L2.KOf]
      refine' L2.def_mk KX G ["one", "other"] ?a ?l ?c ?k ?b
      (case a => k_is); (case l => k_is); (case c => k_is); (case k => k_is)
      (case b => exact fun _ _ _ _ _ _ us hl => match us, hl with | [_, _], _ => rfl)
    have d_share : L2.DefK (L2.KOf KX) mg "share" Law.s_share ["top", "bottom"] := by
      dsimp only [L2.KOf]
      refine' L2.def_mk KX G ["top", "bottom"] ?a ?l ?c ?k ?b
      (case a => k_is); (case l => k_is); (case c => k_is); (case k => k_is)
      (case b => exact fun _ _ _ _ _ _ us hl => match us, hl with | [_, _], _ => rfl)
    have d_added : L2.DefK (L2.KOf KX) mg "added" Law.s_added ["one", "other"] := by
      dsimp only [L2.KOf]
      refine' L2.def_mk KX G ["one", "other"] ?a ?l ?c ?k ?b
      (case a => k_is); (case l => k_is); (case c => k_is); (case k => k_is)
      (case b => exact fun _ _ _ _ _ _ us hl => match us, hl with | [_, _], _ => rfl)
    have d_is_less : L2.DefK (L2.KOf KX) mg "is_less" Law.s_is_less ["one", "other"] := by
      dsimp only [L2.KOf]
      refine' L2.def_mk KX G ["one", "other"] ?a ?l ?c ?k ?b
      (case a => k_is); (case l => k_is); (case c => k_is); (case k => k_is)
      (case b => exact fun _ _ _ _ _ _ us hl => match us, hl with | [_, _], _ => rfl)
    have d_lessened : L2.DefK (L2.KOf KX) mg "lessened" Law.s_lessened ["one", "other"] := by
      dsimp only [L2.KOf]
      refine' L2.def_mk KX G ["one", "other"] ?a ?l ?c ?k ?b
      (case a => k_is); (case l => k_is); (case c => k_is); (case k => k_is)
      (case b => exact fun _ _ _ _ _ _ us hl => match us, hl with | [_, _], _ => rfl)
    have d_timed : L2.DefK (L2.KOf KX) mg "timed" Law.s_timed ["one", "other"] := by
      dsimp only [L2.KOf]
      refine' L2.def_mk KX G ["one", "other"] ?a ?l ?c ?k ?b
      (case a => k_is); (case l => k_is); (case c => k_is); (case k => k_is)
      (case b => exact fun _ _ _ _ _ _ us hl => match us, hl with | [_, _], _ => rfl)
    have d_parted : L2.DefK (L2.KOf KX) mg "parted" Law.s_parted ["one", "other"] := by
      dsimp only [L2.KOf]
      refine' L2.def_mk KX G ["one", "other"] ?a ?l ?c ?k ?b
      (case a => k_is); (case l => k_is); (case c => k_is); (case k => k_is)
      (case b => exact fun _ _ _ _ _ _ us hl => match us, hl with | [_, _], _ => rfl)
    have d_law_cell_at : L2.DefK (L2.KOf KX) mg "_law_cell_at" Law.s_law_cell_at ["_law_script", "_law_k"] := by
      dsimp only [L2.KOf]
      refine' L2.def_mk KX G ["_law_script", "_law_k"] ?a ?l ?c ?k ?b
      (case a => k_is); (case l => k_is); (case c => k_is); (case k => k_is)
      (case b => exact fun _ _ _ _ _ _ us hl => match us, hl with | [_, _], _ => rfl)
    have d_law_whole : L2.DefK (L2.KOf KX) mg "_law_whole" Law.s_law_whole ["_law_found"] := by
      dsimp only [L2.KOf]
      refine' L2.def_mk KX G ["_law_found"] ?a ?l ?c ?k ?b
      (case a => k_is); (case l => k_is); (case c => k_is); (case k => k_is)
      (case b => exact fun _ _ _ _ _ _ us hl => match us, hl with | [_], _ => rfl)
    have d_law_share : L2.DefK (L2.KOf KX) mg "_law_share" Law.s_law_share ["_law_top", "_law_bottom"] := by
      dsimp only [L2.KOf]
      refine' L2.def_mk KX G ["_law_top", "_law_bottom"] ?a ?l ?c ?k ?b
      (case a => k_is); (case l => k_is); (case c => k_is); (case k => k_is)
      (case b => exact fun _ _ _ _ _ _ us hl => match us, hl with | [_, _], _ => rfl)
    have d_law_is_share : L2.DefK (L2.KOf KX) mg "_law_is_share" Law.s_law_is_share ["_law_found"] := by
      dsimp only [L2.KOf]
      refine' L2.def_mk KX G ["_law_found"] ?a ?l ?c ?k ?b
      (case a => k_is); (case l => k_is); (case c => k_is); (case k => k_is)
      (case b => exact fun _ _ _ _ _ _ us hl => match us, hl with | [_], _ => rfl)
    have d_law_given : L2.DefK (L2.KOf KX) mg "_law_given" Law.s_law_given ["_law_cell", "_law_other", "_law_small"] := by
      dsimp only [L2.KOf]
      refine' L2.def_mk KX G ["_law_cell", "_law_other", "_law_small"] ?a ?l ?c ?k ?b
      (case a => k_is); (case l => k_is); (case c => k_is); (case k => k_is)
      (case b => exact fun _ _ _ _ _ _ us hl => match us, hl with | [_, _, _], _ => rfl)
    have d_law_good : L2.DefK (L2.KOf KX) mg "_law_good" Law.s_law_good ["_law_found", "_law_top", "_law_bottom"] := by
      dsimp only [L2.KOf]
      refine' L2.def_mk KX G ["_law_found", "_law_top", "_law_bottom"] ?a ?l ?c ?k ?b
      (case a => k_is); (case l => k_is); (case c => k_is); (case k => k_is)
      (case b => exact fun _ _ _ _ _ _ us hl => match us, hl with | [_, _, _], _ => rfl)
    have d_law_refused : L2.DefK (L2.KOf KX) mg "_law_refused" Law.s_law_refused ["_law_work", "_law_one", "_law_other"] := by
      dsimp only [L2.KOf]
      refine' L2.def_mk KX G ["_law_work", "_law_one", "_law_other"] ?a ?l ?c ?k ?b
      (case a => k_is); (case l => k_is); (case c => k_is); (case k => k_is)
      (case b => exact fun _ _ _ _ _ _ us hl => match us, hl with | [_, _, _], _ => rfl)
    have z_len : mg "len" = none := by
      refine' PySem.W.mg_none_of KX G ?a
      (case a => k_is)
    have z_range : mg "range" = none := by
      refine' PySem.W.mg_none_of KX G ?a
      (case a => k_is)
    have z_list : mg "list" = none := by
      refine' PySem.W.mg_none_of KX G ?a
      (case a => k_is)
    have z_tuple : mg "tuple" = none := by
      refine' PySem.W.mg_none_of KX G ?a
      (case a => k_is)
    have z_int : mg "int" = none := by
      refine' PySem.W.mg_none_of KX G ?a
      (case a => k_is)
    have z_bool : mg "bool" = none := by
      refine' PySem.W.mg_none_of KX G ?a
      (case a => k_is)
    have z_str : mg "str" = none := by
      refine' PySem.W.mg_none_of KX G ?a
      (case a => k_is)
    have z_dict : mg "dict" = none := by
      refine' PySem.W.mg_none_of KX G ?a
      (case a => k_is)
    have z_isinstance : mg "isinstance" = none := by
      refine' PySem.W.mg_none_of KX G ?a
      (case a => k_is)
    have z_sum : mg "sum" = none := by
      refine' PySem.W.mg_none_of KX G ?a
      (case a => k_is)
    have z_enumerate : mg "enumerate" = none := by
      refine' PySem.W.mg_none_of KX G ?a
      (case a => k_is)
    have z_zip : mg "zip" = none := by
      refine' PySem.W.mg_none_of KX G ?a
      (case a => k_is)
    have z_ValueError : mg "ValueError" = none := by
      refine' PySem.W.mg_none_of KX G ?a
      (case a => k_is)
    have z_all : mg "all" = none := by
      refine' PySem.W.mg_none_of KX G ?a
      (case a => k_is)
    have z_any : mg "any" = none := by
      refine' PySem.W.mg_none_of KX G ?a
      (case a => k_is)
    have z_reversed : mg "reversed" = none := by
      refine' PySem.W.mg_none_of KX G ?a
      (case a => k_is)
    have z : L3.Zs mg := ⟨z_len, z_range, z_list, z_tuple, z_int, z_bool, z_str, z_dict, z_isinstance, z_sum, z_enumerate, z_zip, z_ValueError, z_all, z_any, z_reversed⟩
    have g_NOUGHT : L3.GlobD (L2.KOf KX) mg "NOUGHT" (L3.sh 0) := by
      dsimp only [L2.KOf]
      refine' L3.globPair KX G ?a ?l
      (case a => k_is); (case l => k_is)
    have er : ∃ A1, L2.ExCls (L2.KOf KX) A1 ∧ mg "NoShare" = some (.ref A1) ∧ PySem.W.exmOne (L2.KOf KX) (.ref A1) (.ref A1) = some true := by
      dsimp only [L2.KOf]
      refine' ⟨_, ⟨?c⟩, PySem.W.mg_of KX G ?a, ?x⟩
      (case a => k_is)
      (case c => kernel_rfl)
      (case x => kernel_rfl)
    obtain ⟨A1, c1, m1, hx⟩ := er
    refine' L3.law_mkT (st := Law.s_law) KX G hmg ?a ?l ?c ?t ?b ?ok
    (case a => k_is); (case l => k_is); (case c => k_is)
    (case t => kernel_rfl)
    (case b => exact fun _ => rfl)
    (case ok =>
      intro base kb nb hC hB hcv lk hcd
      exact Law.law_all rfl z g_NOUGHT d_common_divisor d_share d_added d_is_less d_lessened d_timed d_parted d_law_cell_at d_law_whole d_law_share d_law_is_share d_law_given d_law_good d_law_refused c1 m1 hx lk hcd hcv hC hB)
