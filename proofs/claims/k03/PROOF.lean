import PyProof.Rows.All
import Wide.All
import OpenK.AllK
import Wide.FinOn
import Lean
import PyProof.EqAt
import PyProof.EqKinds
import PyProof.TupleCall
import PyProof.NeKinds
import PyProof.EnumStmt
import PyProof.ZipIter
import PyProof.Rows.ZipGen
import PyProof.EnumFor
import PyProof.ConsumeWalk
import PyProof.StrWalks
import PyProof.FString5
import PyProof.TupleKey
import PyProof.DictRoadsH
import PyProof.Rows.TupTab
import PyProof.ReprStr
import PyProof.StrLawsRepr
import PyProof.ListMulRoad
import PyProof.StrOps2
import PySem.Challenge.RW_scoreflow_k03_systems_solved
set_option Elab.async false
set_option linter.all false
set_option maxRecDepth 100000
namespace L2
open PySem PySem.Spec PyProof.Rows
abbrev Key := Sum Int Str
def keyIs : Key → Value → Bool
  | .inl k, v => Value.isInt k v
  | .inr x, v => Value.isStrOf x v
def keyH (w : World) : Key → Int
  | .inl k => hashInt k
  | .inr x => hashStr w x
theorem keyIs_shape : ∀ {k : Key} {v : Value}, keyIs k v = true → (∃ i t, k = Sum.inl i ∧ v = Value.int i t) ∨ (∃ x t, k = Sum.inr x ∧ v = Value.str x t)
  | .inl i, v, h => by
    obtain ⟨t, e⟩ := Value.isInt_shape (k := i) (v := v) h
    exact .inl ⟨i, t, rfl, e⟩
  | .inr x, v, h => by
    obtain ⟨t, e⟩ := Value.isStrOf_shape (x := x) (v := v) h
    exact .inr ⟨x, t, rfl, e⟩
theorem key_ll (a b : Int) : decide ((Sum.inl a : Key) = Sum.inl b) = (a == b) := by
  by_cases e : a = b
  · subst e; simp
  · have h : ¬ (Sum.inl a : Key) = Sum.inl b := fun q => e (Sum.inl.inj q)
    rw [decide_eq_false h]
    exact (beq_eq_false_iff_ne.mpr e).symm
theorem key_rr (a b : Str) : decide ((Sum.inr a : Key) = Sum.inr b) = decide (a = b) := by
  by_cases e : a = b
  · subst e; simp
  · have h : ¬ (Sum.inr a : Key) = Sum.inr b := fun q => e (Sum.inr.inj q)
    rw [decide_eq_false h, decide_eq_false e]
theorem key_lr (a : Int) (b : Str) : decide ((Sum.inl a : Key) = Sum.inr b) = false := decide_eq_false (fun q => nomatch q)
theorem key_rl (a : Str) (b : Int) : decide ((Sum.inr a : Key) = Sum.inl b) = false := decide_eq_false (fun q => nomatch q)
def mixKind (prog : Program) (w : World) : PySem.KeyKind prog w Key where
  is := keyIs
  hash := keyH w
  inj := fun v a b ha hb => by
    rcases keyIs_shape ha with ⟨i, t, rfl, rfl⟩ | ⟨x, t, rfl, rfl⟩
    · rcases keyIs_shape hb with ⟨j, u, rfl, e⟩ | ⟨y, u, rfl, e⟩
      · injection e with e1 _; rw [e1]
      · exact nomatch e
    · rcases keyIs_shape hb with ⟨j, u, rfl, e⟩ | ⟨y, u, rfl, e⟩
      · exact nomatch e
      · injection e with e1 _; rw [e1]
  byValue := fun k v h => by
    rcases keyIs_shape h with ⟨i, t, rfl, rfl⟩ | ⟨x, t, rfl, rfl⟩ <;> rfl
  pyHash := fun hv h => by
    rcases keyIs_shape hv with ⟨i, t, rfl, rfl⟩ | ⟨x, t, rfl, rfl⟩
    · exact wpAny_pyHash_int h
    · exact wpAny_pyHash_str h
  eqBool := fun hu hv h => by
    rcases keyIs_shape hu with ⟨i, t, rfl, rfl⟩ | ⟨x, t, rfl, rfl⟩
    · rcases keyIs_shape hv with ⟨j, u, rfl, rfl⟩ | ⟨y, u, rfl, rfl⟩
      · rw [key_ll] at h; exact wpAny_eqBool_int h
      · rw [key_lr] at h; exact SeqAt.EqAt.int_str i t y u _ _ _ _ h
    · rcases keyIs_shape hv with ⟨j, u, rfl, rfl⟩ | ⟨y, u, rfl, rfl⟩
      · rw [key_rl] at h; exact SeqAt.EqAt.str_int x t j u _ _ _ _ h
      · rw [key_rr] at h; exact wpAny_eqBool_str h
  «strs» := fun k x t v h => by
    rcases keyIs_shape h with ⟨i, u, rfl, e⟩ | ⟨y, u, rfl, e⟩
    · exact nomatch e
    · injection e with e1 _
      subst e1
      cases v <;> rfl
end L2
namespace L2
open PySem PySem.Spec PyProof.Rows
inductive V where
  | non | bl (b : Bool) | int (i : Int) | str (x : Str) | byt (b : Array UInt8) | flt (b : UInt64) | ref (a : Addr) | ty (n : String)
  deriving DecidableEq
def RelV : V → Value → Prop
  | .non, u => u = Value.none
  | .bl b, u => u = Value.bool b
  | .int i, u => ∃ t, u = Value.int i t
  | .str x, u => ∃ t, u = Value.str x t
  | .byt b, u => ∃ t, u = Value.bytes b t
  | .flt b, u => ∃ t, u = Value.float b t
  | .ref a, u => u = Value.ref a
  | .ty n, u => u = Value.type n
abbrev Vals : List V → List Value → Prop := Paired RelV
theorem Vals.length {xs : List V} {us : List Value} (r : Vals xs us) : xs.length = us.length := Paired.length r
theorem Vals.get : ∀ {xs : List V} {us : List Value} {i : Nat} {x : V}, Vals xs us → xs[i]? = some x → ∃ u, us[i]? = some u ∧ RelV x u
  | _, _, _, _, .nil, e => by simp at e
  | _, _, 0, _, .cons r _, e => by simp at e; subst e; exact ⟨_, rfl, r⟩
  | _, _, i + 1, x, .cons _ t, e => by
    obtain ⟨u, h1, h2⟩ := Vals.get (i := i) (x := x) t (by simpa using e)
    exact ⟨u, by simpa using h1, h2⟩
theorem Vals.set {x : V} {u : Value} (r : RelV x u) : ∀ {xs : List V} {us : List Value} (i : Nat), Vals xs us → Vals (xs.set i x) (us.set i u)
  | _, _, _, .nil => .nil
  | _, _, 0, .cons _ t => .cons r t
  | _, _, i + 1, .cons q t => .cons q (Vals.set r i t)
theorem Vals.append : ∀ {xs ys : List V} {us ws : List Value}, Vals xs us → Vals ys ws → Vals (xs ++ ys) (us ++ ws)
  | _, _, _, _, .nil, s => s
  | _, _, _, _, .cons r t, s => .cons r (Vals.append t s)
theorem Vals.take : ∀ {xs : List V} {us : List Value} (n : Nat), Vals xs us → Vals (xs.take n) (us.take n)
  | _, _, 0, _ => .nil
  | _, _, _ + 1, .nil => .nil
  | _, _, n + 1, .cons r t => .cons r (Vals.take n t)
theorem Vals.drop : ∀ {xs : List V} {us : List Value} (n : Nat), Vals xs us → Vals (xs.drop n) (us.drop n)
  | _, _, 0, r => r
  | _, _, _ + 1, .nil => .nil
  | _, _, n + 1, .cons _ t => Vals.drop n t
def RelO : Option V → Option Value → Prop
  | some v, some u => RelV v u
  | none, none => True
  | _, _ => False
def KV {κ : Type} : List (κ × V) → List (κ × Value) → Prop := Paired fun (p : κ × V) (q : κ × Value) => p.1 = q.1 ∧ RelV p.2 q.2
def kV : Key → V
  | .inl i => .int i
  | .inr x => .str x
inductive HO where
  /-- a list -/
  | lst (xs : List V)
  /-- a tuple (never changes) -/
  | tup (xs : List V)
  /-- a dict whose keys are ints and texts; one whose keys are tuples of ints and texts (the empty one is both) -/
  | dK (kvs : List (Key × V)) | dT (kvs : List (List Key × V))
  /-- a set of ints: its members, its size -/
  | set (S : Int → Bool) (n : Nat)
  /-- an instance of the class at C, its dict at dx, its attributes -/
  | ins (C dx : Addr) (fs : List (Str × V))
  /-- the dict of the instance at x -/
  | own (x : Addr)
  /-- the dict of an exception -/
  | xd (fs : List (Str × V))
  /-- a bound method, f of x -/
  | met (f x : Addr)
  /-- a range object lo, lo + 1, .. below hi -/
  | rng (lo hi : Int)
  /-- a thing that is known to the object (the script; a dict while a loop walks it): read, never written while it is so -/
  | frz (o : Obj) (u : HO)
  /-- a code object's table -/
  | tbl (ps : Array Value)
  /-- any other thing, by what is true of its one object (a def of one's own: SetO a S n := HO.ext fun h => ..) -/
  | ext (φ : Heap → Prop)
abbrev Hp := Addr → Option HO
def upd (H : Hp) (a : Addr) (o : HO) : Hp := fun b => if b = a then some o else H b
theorem upd_same {H : Hp} {a : Addr} {o : HO} : upd H a o a = some o := by unfold upd; rw [if_pos rfl]
theorem upd_ne {H : Hp} {a b : Addr} {o : HO} (h : b ≠ a) : upd H a o b = H b := by unfold upd; rw [if_neg h]
theorem ne_of_none {H : Hp} {a b : Addr} {o : HO} (h : H a = some o) (h' : H b = none) : a ≠ b := by
  intro e; subst e; rw [h] at h'; cases h'
section
variable (P : Program) (w : World)
def ObjOk (H : Hp) (h : Heap) (a : Addr) : HO → Prop
  | .lst xs => xs.length ≤ sizeLine ∧ ∃ (its : List Value) (n : Nat), Vals xs its ∧ h.get? a = some { cls := .type "list", data := .seq its.toArray n }
  | .tup xs => xs.length ≤ sizeLine ∧ ∃ its : List Value, Vals xs its ∧ IsTup h a its.toArray
  | .dK kvs => kvs.length ≤ sizeLine ∧ (a == sysModules) = false ∧ ∃ vs, KV kvs vs ∧ h.DictOf (mixKind P w) a vs
  | .dT kvs => kvs.length ≤ sizeLine ∧ (a == sysModules) = false ∧ ∃ xs : List (List Key × Addr × Value),
      Paired (fun (p : List Key × V) (q : List Key × Addr × Value) => p.1 = q.1 ∧ H q.2.1 = some (.tup (p.1.map kV)) ∧ RelV p.2 q.2.2) kvs xs ∧
      ∃ o es ep, h.get? a = some o ∧ o.ExactDict ∧ o.data = .dict es ep ∧ es.toList = xs.map (entryOfKey (tupleKind (mixKind P w))) ∧ (xs.map (·.1)).Nodup
  | .set S n => h.SetOf (intKind P w) a S n
  | .ins C dx fs => H dx = some (.own a) ∧ fs.length ≤ 1000 ∧ dx ≠ a ∧ h.get? a = some (PySem.W.instObj C dx) ∧
      ∃ mA, h.Ns1 dx mA ∧ (∀ f, RelO (fs.lookup f) (mA f)) ∧ PySem.Within mA (fs.map (·.1))
  | .own _ => ∃ o, h.get? a = some o
  | .xd fs => ∃ mA, h.Ns1 a mA ∧ ∀ f, RelO (fs.lookup f) (mA f)
  | .rng lo hi => ∃ t u v, h.get? a = some { cls := .type "range", data := .fields #[.int lo t, .int hi u, .int 1 v] }
  | .frz o u => h.get? a = some o ∧ ObjOk H h a u
  | .tbl ps => h.get? a = some { cls := .none, data := .fields ps }
  | .met f x => h.get? a = some (PySem.W.methodObj (.ref f) (.ref x))
  | .ext φ => φ h ∧ (∃ o, h.get? a = some o) ∧ ∀ h1 h2 : Heap, φ h1 → (∀ o, h1.get? a = some o → h2.get? a = some o) → φ h2
def HOk (H : Hp) (h : Heap) : Prop := ∀ a o, H a = some o → ObjOk P w H h a o
end
section
variable {P : Program} {w : World} {H H' : Hp} {h h' : Heap} {a : Addr} {o : HO}
theorem ObjOk.lt (x : ObjOk P w H h a o) : a < h.objs.size := by
  cases o with
  | lst xs => obtain ⟨_, _, _, _, e⟩ := x; exact Heap.lt_size e
  | tup xs => obtain ⟨_, _, _, p⟩ := x; exact p.lt
  | dK kvs => obtain ⟨_, _, _, _, o, _, _, e, _⟩ := x; exact Heap.lt_size e
  | dT kvs => obtain ⟨_, _, _, _, o, _, _, e, _⟩ := x; exact Heap.lt_size e
  | set S n => obtain ⟨o, _, _, _, e, _⟩ := x; exact Heap.lt_size e
  | ins C dx fs => obtain ⟨_, _, _, e, _⟩ := x; exact Heap.lt_size e
  | own y => obtain ⟨_, e⟩ := x; exact Heap.lt_size e
  | xd fs => obtain ⟨_, ⟨_, _, _, e, _⟩, _⟩ := x; exact Heap.lt_size e
  | rng lo hi => obtain ⟨_, _, _, e⟩ := x; exact Heap.lt_size e
  | frz ob u => obtain ⟨e, _⟩ := x; exact Heap.lt_size e
  | tbl ps => exact Heap.lt_size (show h.get? a = some _ from x)
  | met f y => exact Heap.lt_size (show h.get? a = some _ from x)
  | ext φ => obtain ⟨_, ⟨_, e⟩, _⟩ := x; exact Heap.lt_size e
theorem Paired.mapP {α β : Type} {F G : α → β → Prop} : ∀ {l₁ : List α} {l₂ : List β}, Paired F l₁ l₂ → (∀ a b, F a b → G a b) → Paired G l₁ l₂
  | _, _, .nil, _ => .nil
  | _, _, .cons r t, f => .cons (f _ _ r) (Paired.mapP t f)
theorem ObjOk.stay (x : ObjOk P w H h a o) (k : ∀ b u, (b = a ∨ H b = some (.own a)) → h.get? b = some u → h'.get? b = some u)
    (ho : ∀ b, H b = some (.own a) → H' b = some (.own a)) (ht : ∀ b xs, H b = some (.tup xs) → H' b = some (.tup xs)) : ObjOk P w H' h' a o := by
  induction o with
  | lst xs => obtain ⟨z, its, n, r, e⟩ := x; exact ⟨z, its, n, r, k _ _ (.inl rfl) e⟩
  | tup xs => obtain ⟨z, its, r, ob, e, c⟩ := x; exact ⟨z, its, r, ob, k _ _ (.inl rfl) e, c⟩
  | dK kvs => obtain ⟨z, y, vs, r, ob, es, ep, e, c⟩ := x; exact ⟨z, y, vs, r, ob, es, ep, k _ _ (.inl rfl) e, c⟩
  | dT kvs =>
    obtain ⟨z, y, xs, r, ob, es, ep, e, c⟩ := x
    exact ⟨z, y, xs, Paired.mapP r fun p q z => ⟨z.1, ht _ _ z.2.1, z.2.2⟩, ob, es, ep, k _ _ (.inl rfl) e, c⟩
  | set S n => obtain ⟨ob, es, ep, t, e, c⟩ := x; exact ⟨ob, es, ep, t, k _ _ (.inl rfl) e, c⟩
  | ins C dx fs =>
    obtain ⟨d, z, ne, e, mA, ⟨od, es, ep, e2, c⟩, r⟩ := x
    exact ⟨ho _ d, z, ne, k _ _ (.inl rfl) e, mA, ⟨od, es, ep, k _ _ (.inr d) e2, c⟩, r⟩
  | own y => obtain ⟨ob, e⟩ := x; exact ⟨ob, k _ _ (.inl rfl) e⟩
  | xd fs => obtain ⟨mA, ⟨od, es, ep, e, c⟩, r⟩ := x; exact ⟨mA, ⟨od, es, ep, k _ _ (.inl rfl) e, c⟩, r⟩
  | rng lo hi => obtain ⟨t, u, v, e⟩ := x; exact ⟨t, u, v, k _ _ (.inl rfl) e⟩
  | frz ob u ih => obtain ⟨e, q⟩ := x; exact ⟨k _ _ (.inl rfl) e, ih q⟩
  | tbl ps =>
    have e : h.get? a = some { cls := .none, data := .fields ps } := x
    show h'.get? a = some { cls := .none, data := .fields ps }
    exact k a _ (.inl rfl) e
  | met f y =>
    have e : h.get? a = some (PySem.W.methodObj (.ref f) (.ref y)) := x
    show h'.get? a = some (PySem.W.methodObj (.ref f) (.ref y))
    exact k a _ (.inl rfl) e
  | ext φ => obtain ⟨p, ⟨o, e⟩, st⟩ := x; exact ⟨st _ _ p fun o q => k _ _ (.inl rfl) q, ⟨o, k _ _ (.inl rfl) e⟩, st⟩
theorem HOk.lt (x : HOk P w H h) (e : H a = some o) : a < h.objs.size := (x a o e).lt
theorem HOk.fresh (x : HOk P w H h) (e : h.objs.size ≤ a) : H a = none := by
  cases q : H a with
  | none => rfl
  | some u => exact absurd (Nat.lt_of_lt_of_le (x.lt q) e) (Nat.lt_irrefl _)
theorem HOk.kept (x : HOk P w H h) (k : ∀ b u, h.get? b = some u → h'.get? b = some u) : HOk P w H h' := fun a o e =>
  (x a o e).stay (fun b u _ q => k b u q) (fun _ q => q) fun _ _ q => q
theorem HOk.laid (x : HOk P w H h) (k : ∀ b u, h.get? b = some u → h'.get? b = some u) (hp : h.objs.size ≤ a) (new : ObjOk P w (upd H a o) h' a o) : HOk P w (upd H a o) h' := fun b u e => by
  have hn := x.fresh hp
  by_cases hb : b = a
  · subst hb; rw [upd_same] at e; cases e; exact new
  · rw [upd_ne hb] at e
    exact (x b u e).stay (fun c v _ q => k c v q) (fun c q => by rw [upd_ne (ne_of_none q hn)]; exact q) fun c xs q => by rw [upd_ne (ne_of_none q hn)]; exact q
end
def Rd (H : Hp) (a : Addr) (u : HO) : Prop := H a = some u ∨ ∃ o, H a = some (.frz o u)
theorem Rd.ok {P : Program} {w : World} {H : Hp} {h : Heap} {a : Addr} {u : HO} (r : Rd H a u) (x : HOk P w H h) : ObjOk P w H h a u := by
  rcases r with r | ⟨o, r⟩
  · exact x a u r
  · obtain ⟨_, q⟩ := x a _ r
    exact q
def Mut : Option HO → Prop
  | some (.lst _) => True
  | some (.dK _) => True
  | some (.dT _) => True
  | some (.set _ _) => True
  | some (.ins _ _ _) => True
  | some (.ext _) => True
  | _ => False
section
variable {P : Program} {w : World} {H : Hp} {h h' : Heap} {x e : Addr} {o' : HO}
theorem HOk.write (ok : HOk P w H h) (mu : Mut (H x)) (he : e = x ∨ H e = some (.own x)) (k : ∀ b u, b ≠ e → h.get? b = some u → h'.get? b = some u) (heo : ∃ u, h'.get? e = some u)
    (new : ObjOk P w (upd H x o') h' x o') : HOk P w (upd H x o') h' := fun b u q => by
  have nown : ∀ c y, H c = some (.own y) → c ≠ x := fun c y r z => by subst z; rw [r] at mu; exact mu
  have ntup : ∀ c xs, H c = some (.tup xs) → c ≠ x := fun c xs r z => by subst z; rw [r] at mu; exact mu
  by_cases hb : b = x
  · subst hb; rw [upd_same] at q; cases q; exact new
  · rw [upd_ne hb] at q
    by_cases hbe : b = e
    · have q' : H b = some (.own x) := by
        rcases he with z | z
        · exact absurd (hbe.trans z) hb
        · rw [hbe]; exact z
      rw [q] at q'; cases q'
      obtain ⟨v, hv⟩ := heo
      exact ⟨v, by rw [hbe]; exact hv⟩
    · refine (ok b u q).stay (fun c v hc r => k c v ?_ r) (fun c r => by rw [upd_ne (nown c b r)]; exact r) fun c xs r => by rw [upd_ne (ntup c xs r)]; exact r
      rcases hc with rfl | hc
      · exact hbe
      · rintro rfl
        rcases he with z | z
        · exact nown c b hc z
        · rw [hc] at z; cases z; exact hb rfl
end
structure Un (fs ex : List Addr) (H H' : Hp) (h h' : Heap) : Prop where
  keep : ∀ b o, h.get? b = some o → H b = none → b ∉ fs → b ∉ ex → h'.get? b = some o
  slot : ∀ b o, h.get? b = some o → H b = none → b ∈ fs → b ∉ ex → ∃ sl, h'.get? b = some { o with slots := sl }
  free : ∀ b o, h.get? b = some o → H b = none → b ∉ ex → H' b = none
  there : ∀ b o, h.get? b = some o → b ∉ ex → ∃ o', h'.get? b = some o'
  tups : ∀ b xs, H b = some (.tup xs) → H' b = some (.tup xs)
  frzs : ∀ b o u, H b = some (.frz o u) → H' b = some (.frz o u)
  tbls : ∀ b ps, H b = some (.tbl ps) → ∃ more, H' b = some (.tbl (ps ++ more))
section
variable {fs fs' ex ex' : List Addr} {H H1 H2 : Hp} {h h1 h2 h' : Heap} {a x e : Addr} {o : HO}
theorem Un.any (u : Un fs ex H H1 h h1) {b : Addr} {ob : Obj} (q : h.get? b = some ob) (n : H b = none) (hx : b ∉ ex) : ∃ sl, h1.get? b = some { ob with slots := sl } := by
  by_cases hb : b ∈ fs
  · exact u.slot b ob q n hb hx
  · exact ⟨ob.slots, u.keep b ob q n hb hx⟩
theorem Un.kept (k : ∀ b u, h.get? b = some u → h'.get? b = some u) : Un fs ex H H h h' :=
  ⟨fun b ob q _ _ _ => k b ob q, fun b ob q _ _ _ => ⟨ob.slots, k b ob q⟩, fun _ _ _ n _ => n, fun b ob q _ => ⟨ob, k b ob q⟩, fun _ _ q => q, fun _ _ _ q => q, fun _ ps q => ⟨#[], by rw [q]; simp⟩⟩
theorem Un.refl : Un fs ex H H h h := Un.kept fun _ _ q => q
theorem Un.laid (k : ∀ b u, h.get? b = some u → h'.get? b = some u) (hp : h.objs.size ≤ a) (hn : H a = none) : Un fs ex H (upd H a o) h h' where
  keep := fun b u q _ _ _ => k b u q
  slot := fun b u q _ _ _ => ⟨u.slots, k b u q⟩
  free := fun b u q n _ => by rw [upd_ne (Nat.ne_of_lt (Nat.lt_of_lt_of_le (Heap.lt_size q) hp))]; exact n
  there := fun b u q _ => ⟨u, k b u q⟩
  tups := fun b xs q => by rw [upd_ne (ne_of_none q hn)]; exact q
  frzs := fun b u xs q => by rw [upd_ne (ne_of_none q hn)]; exact q
  tbls := fun b ps q => ⟨#[], by rw [upd_ne (ne_of_none q hn), q]; simp⟩
theorem Un.write (mu : Mut (H x)) (he : e = x ∨ H e = some (.own x)) (k : ∀ b u, b ≠ e → h.get? b = some u → h'.get? b = some u) (heo : ∃ u, h'.get? e = some u) : Un fs ex H (upd H x o) h h' := by
  have hx : ∀ b, H b = none → b ≠ x := fun b n z => by subst z; rw [n] at mu; exact mu
  have hb : ∀ b, H b = none → b ≠ e := fun b n z => by
    subst z
    rcases he with r | r
    · exact hx b n r
    · rw [n] at r; cases r
  have hm : ∀ b u, H b = some u → ¬ Mut (some u) → b ≠ x := fun b u q nm z => by subst z; rw [q] at mu; exact nm mu
  refine ⟨fun b u q n _ _ => k b u (hb b n) q, fun b u q n _ _ => ⟨u.slots, k b u (hb b n) q⟩, fun b u q n _ => by rw [upd_ne (hx b n)]; exact n, fun b u q _ => ?_,
    fun b xs q => by rw [upd_ne (hm b _ q fun z => z)]; exact q, fun b u xs q => by rw [upd_ne (hm b _ q fun z => z)]; exact q, fun b ps q => ⟨#[], by rw [upd_ne (hm b _ q fun z => z), q]; simp⟩⟩
  by_cases hbe : b = e
  · subst hbe; exact heo
  · exact ⟨u, k b u hbe q⟩
end
def trk (h : Heap) (H : Hp) : List Addr := (List.range h.objs.size).filter fun a => (H a).isSome
def hidT (h : Heap) (H : Hp) : Heap := PySem.W.hideAll h (trk h H)
theorem hidT_size (h : Heap) (H : Hp) : (hidT h H).objs.size = h.objs.size := PySem.W.hideAll_size _ _
theorem hidT_get {h : Heap} {H : Hp} {b : Addr} {o : Obj} (e : h.get? b = some o) (n : H b = none) : (hidT h H).get? b = some o :=
  PySem.W.hideAll_get _ e fun hm => by
    have q : (H b).isSome = true := (List.mem_filter.mp hm).2
    rw [n] at q; simp at q
theorem of_hidT {h : Heap} {H : Hp} {b : Addr} {o : Obj} (e : (hidT h H).get? b = some o) : h.get? b = some o ∧ H b = none := by
  have e' : h.get? b = some o := PySem.W.of_hideAll (trk h H) e
  refine ⟨e', ?_⟩
  cases q : H b with
  | none => rfl
  | some x =>
    have hm : b ∈ trk h H := List.mem_filter.mpr ⟨List.mem_range.mpr (Heap.lt_size e'), by simp [q]⟩
    have z : (hidT h H).get? b = none := PySem.W.hideAll_none (trk h H) hm
    rw [z] at e; cases e
end L2
namespace L2
open PySem PySem.Spec PyProof.Rows
structure Mod (K : PySem.W.Frag) (mg : Str → Option Value) (base : Heap) : Prop where
  kin : K.In base
  glob : base.Ns mainGlobals mg
  blt : ∃ mb, base.Ns builtinsNs mb ∧ ∀ x : Str, x ≠ "__name__" → mb x = bootBuiltins x
  nolimit : base.NoLimit
  seer : base.NoSeer
structure Cx where
  prog : Program
  w : World
  K : PySem.W.Frag
  mg : Str → Option Value
  base : Heap
  A : Around
  N : List Str
  s₀ : Shared
  H₀ : Hp
  env : Env
  outer : List Env
  stack : List Env
  ex : List Addr
  fn : Str → Bool
  calm : Bool
  pn : List (Addr × Obj)
  xe : Value → Shared → Prop
def frs (l : List Env) : List Addr := l.filterMap (·.frame)
abbrev Cx.fs (X : Cx) : List Addr := frs X.outer
def Vis (sc : Scope) (x : Str) : Prop := sc.names.lookup x = some .local ∨ sc.names.lookup x = some .cell ∨ sc.names.lookup x = some .free
def Loc (sc : Scope) (x : Str) : Prop := sc.names.lookup x = some .local ∨ sc.names.lookup x = some .cell
def Look (env : Env) (h : Heap) (m : Str → Option Value) (x : Str) (u : Value) : Prop :=
  (env.kindOf x = some .local ∧ m x = some u) ∨ ((env.kindOf x = some .cell ∨ env.kindOf x = some .free) ∧ ∃ c, env.cells.lookup x = some c ∧ h.IsCell c (some u))
structure Cx.Ok (X : Cx) : Prop where
  mod : Mod X.K X.mg X.base
  kind : X.env.scope.kind = .function
  glob : X.env.globals = mainGlobals
  blt : X.env.builtins = builtinsNs
  above : X.s₀.heap.objs.size ≤ X.env.locals
  inj : ∀ x y c, X.env.cells.lookup x = some c → X.env.cells.lookup y = some c → x = y
  has : ∀ x, (X.env.kindOf x = some .cell ∨ X.env.kindOf x = some .free) → ∃ c, X.env.cells.lookup x = some c
  cab : ∀ x c, X.fn x = true → X.env.cells.lookup x = some c → X.s₀.heap.objs.size ≤ c
  hd : X.calm = true → X.A.handled = none
  frames : X.A.frames = some X.stack
  stk : X.stack = X.outer ∨ (X.stack = X.env :: X.outer ∧ X.env.frame = some X.env.locals)
  exf : ∀ b ∈ X.ex, b ≠ X.env.locals ∧ ∀ x c, X.env.cells.lookup x = some c → c ≠ b
  bs : ∀ b o, X.base.get? b = some o → X.s₀.heap.get? b = some o ∧ X.H₀ b = none
  bsz : X.base.objs.size ≤ X.s₀.heap.objs.size
  noex : ∀ b o, X.base.get? b = some o → b ∉ X.ex
  exfs : ∀ b ∈ X.ex, b ∉ X.fs
  funs : X.s₀.heap.FunFrames X.base X.outer
  frf : ∀ b ∈ X.fs, X.H₀ b = none
structure Inv (X : Cx) (pins : List (Addr × Obj)) (σ : List (Option V)) (H : Hp) (s : Shared) : Prop where
  ok : X.Ok
  os : s.os = X.s₀.os
  bare : AllBare s.gens
  base : Un X.fs X.ex X.H₀ H X.s₀.heap s.heap
  loc : ∃ m, s.heap.Ns X.env.locals m ∧ ∀ (i : Nat) (x : Str) (v : V), X.N[i]? = some x → σ[i]? = some (some v) → Vis X.env.scope x → ∃ u, RelV v u ∧ Look X.env s.heap m x u
  cell : ∀ x c, X.env.cells.lookup x = some c → ∃ v, s.heap.IsCell c v
  free : H X.env.locals = none
  freeC : ∀ x c, X.env.cells.lookup x = some c → H c = none
  pin : ∀ p ∈ X.pn ++ pins, s.heap.get? p.1 = some p.2 ∧ H p.1 = none ∧ p.1 ≠ X.env.locals ∧ p.1 ∉ X.fs ∧ ∀ v, p.2.data ≠ .cell v
  hok : HOk X.prog X.w H s.heap
  len : σ.length = X.N.length
section
variable {X : Cx} {pins : List (Addr × Obj)} {σ : List (Option V)} {H H' : Hp} {s : Shared} {h' : Heap}
theorem Cx.Ok.nofr (ok : X.Ok) {b : Addr} {o : Obj} (e : X.base.get? b = some o) : b ∉ X.fs := fun hb => by
  have := (ok.funs.mem hb).1
  rw [e] at this; cases this
theorem Inv.bs (I : Inv X pins σ H s) : ∀ b o, X.base.get? b = some o → s.heap.get? b = some o ∧ H b = none := fun b o e =>
  ⟨I.base.keep b o (I.ok.bs b o e).1 (I.ok.bs b o e).2 (I.ok.nofr e) (I.ok.noex b o e), I.base.free b o (I.ok.bs b o e).1 (I.ok.bs b o e).2 (I.ok.noex b o e)⟩
theorem Inv.bk (I : Inv X pins σ H s) : ∀ b o, X.base.get? b = some o → s.heap.get? b = some o := fun b o e => (I.bs b o e).1
theorem Inv.mod (I : Inv X pins σ H s) : Mod X.K X.mg X.base := I.ok.mod
theorem Inv.kIn (I : Inv X pins σ H s) : X.K.In s.heap := I.ok.mod.kin.keeps I.bk
theorem Inv.nolimit (I : Inv X pins σ H s) : s.heap.NoLimit := I.ok.mod.nolimit.keeps I.bk
theorem Inv.lt (I : Inv X pins σ H s) : X.env.locals < s.heap.objs.size := let ⟨_, hn, _⟩ := I.loc; hn.lt
theorem Inv.sz (I : Inv X pins σ H s) : X.s₀.heap.objs.size ≤ s.heap.objs.size := Nat.le_trans I.ok.above (Nat.le_of_lt I.lt)
theorem Inv.nofs (I : Inv X pins σ H s) {a : Addr} (h : s.heap.objs.size ≤ a) : a ∉ X.fs := fun hb => by
  obtain ⟨_, o, ho, _⟩ := I.ok.funs.mem hb
  exact absurd (Nat.lt_of_lt_of_le (Heap.lt_size ho) (Nat.le_trans I.sz h)) (Nat.lt_irrefl _)
theorem Inv.cne (I : Inv X pins σ H s) : ∀ x c, X.env.cells.lookup x = some c → c ≠ X.env.locals := fun x c e z => by
  obtain ⟨v, o, ho, hd⟩ := I.cell x c e
  obtain ⟨m, ⟨o', es, ep, ho', hd', _⟩, _⟩ := I.loc
  rw [z, ho'] at ho; cases ho; rw [hd'] at hd; cases hd
theorem Inv.funs (I : Inv X pins σ H s) : s.heap.FunFrames X.base X.outer := by
  have all : ∀ (l : List Env), (∀ b ∈ frs l, b ∈ X.fs) → X.s₀.heap.FunFrames X.base l → s.heap.FunFrames X.base l := by
    intro l
    induction l with
    | nil => intro _ _; trivial
    | cons env r ih =>
      intro hs hl
      obtain ⟨hk, ⟨L, o, hf, hn, ho, hd⟩, hr⟩ := hl
      have hL : L ∈ X.fs := hs L (by unfold frs; rw [List.filterMap_cons, hf]; exact List.mem_cons_self)
      obtain ⟨sl, e⟩ := I.base.slot L o ho (I.ok.frf L hL) hL fun z => I.ok.exfs L z hL
      exact ⟨hk, ⟨L, _, hf, hn, e, hd⟩, ih (fun b hb => hs b (by unfold frs; rw [List.filterMap_cons, hf]; exact List.mem_cons_of_mem _ hb)) hr⟩
  exact all X.outer (fun _ hb => hb) I.ok.funs
theorem Inv.stack (I : Inv X pins σ H s) : s.heap.FunFrames X.base X.stack := by
  rcases I.ok.stk with e | ⟨e, hf⟩
  · rw [e]; exact I.funs
  · rw [e]
    obtain ⟨m, hn, _⟩ := I.loc
    refine .cons (by rw [I.ok.kind]; decide) hf hn ?_ I.funs
    exact Heap.get?_none_of_le (Nat.le_trans I.ok.bsz I.ok.above)
theorem Inv.stkSub (I : Inv X pins σ H s) : ∀ b ∈ frs X.stack, b ∈ X.env.locals :: X.fs := fun b hb => by
  rcases I.ok.stk with e | ⟨e, hf⟩
  · rw [e] at hb; exact List.mem_cons_of_mem _ hb
  · rw [e] at hb
    unfold frs at hb
    rw [List.filterMap_cons, hf] at hb
    exact hb
theorem Inv.stkFree (I : Inv X pins σ H s) : ∀ b ∈ frs X.stack, H b = none := fun b hb => by
  rcases List.mem_cons.mp (I.stkSub b hb) with e | hb
  · rw [e]; exact I.free
  · obtain ⟨_, o, ho, _⟩ := I.ok.funs.mem hb
    exact I.base.free b o ho (I.ok.frf b hb) fun z => I.ok.exfs b z hb
theorem Inv.step {g' : Array GenState} {t' : Nat} {d' : Drawn} {ch : List Addr} (I : Inv X pins σ H s)
    (hch : ∀ b ∈ ch, (b ∈ X.ex ∨ X.s₀.heap.objs.size ≤ b) ∧ b ≠ X.env.locals ∧ (∀ x c, X.env.cells.lookup x = some c → c ≠ b) ∧ ∀ p ∈ X.pn ++ pins, p.1 ≠ b)
    (keep : ∀ b o, b ≠ X.env.locals → b ∉ X.fs → b ∉ ch → s.heap.get? b = some o → H b = none → h'.get? b = some o)
    (slot : ∀ b o, b ≠ X.env.locals → b ∈ X.fs → b ∉ ch → s.heap.get? b = some o → H b = none → ∃ sl, h'.get? b = some { o with slots := sl }) (free : ∀ b o, b ∉ ch → s.heap.get? b = some o → H b = none → H' b = none)
    (there : ∀ b o, b ∉ ch → s.heap.get? b = some o → ∃ o', h'.get? b = some o')
    (tups : ∀ b xs, H b = some (.tup xs) → H' b = some (.tup xs)) (frzs : ∀ b o u, H b = some (.frz o u) → H' b = some (.frz o u)) (tbls : ∀ b ps, H b = some (.tbl ps) → ∃ more, H' b = some (.tbl (ps ++ more)))
    (ns : ∀ m, s.heap.Ns X.env.locals m → h'.Ns X.env.locals m) (hok : HOk X.prog X.w H' h') (hg : AllBare g') :
    Inv X pins σ H' { s with heap := h', gens := g', drawn := d', toks := t' } := by
  have neL : ∀ b o, X.s₀.heap.get? b = some o → b ≠ X.env.locals := fun b o e => Nat.ne_of_lt (Nat.lt_of_lt_of_le (Heap.lt_size e) I.ok.above)
  have neC : ∀ b o, X.s₀.heap.get? b = some o → b ∉ X.ex → b ∉ ch := fun b o e hx hb => by
    rcases (hch b hb).1 with z | z
    · exact hx z
    · exact absurd (Nat.lt_of_lt_of_le (Heap.lt_size e) z) (Nat.lt_irrefl _)
  have cellK : ∀ x c, X.env.cells.lookup x = some c → ∀ v, s.heap.IsCell c v → h'.IsCell c v := fun x c e v ⟨o, ho, hd⟩ => by
    have nch : c ∉ ch := fun z => (hch c z).2.2.1 x c e rfl
    by_cases hc : c ∈ X.fs
    · obtain ⟨sl, q⟩ := slot c o (I.cne x c e) hc nch ho (I.freeC x c e)
      exact ⟨_, q, hd⟩
    · exact ⟨o, keep c o (I.cne x c e) hc nch ho (I.freeC x c e), hd⟩
  refine ⟨I.ok, I.os, hg, ⟨fun b o e n hb hx => ?_, fun b o e n hb hx => ?_, fun b o e n hx => ?_, fun b o e hx => ?_, fun b xs e => tups b xs (I.base.tups b xs e), fun b o xs e => frzs b o xs (I.base.frzs b o xs e), fun b ps e => ?_⟩, ?_, fun x c e => ?_, ?_, fun x c e => ?_, fun p hp => ?_, hok, I.len⟩
  · exact keep b o (neL b o e) hb (neC b o e hx) (I.base.keep b o e n hb hx) (I.base.free b o e n hx)
  · obtain ⟨sl, e1⟩ := I.base.slot b o e n hb hx
    obtain ⟨sl', e2⟩ := slot b _ (neL b o e) hb (neC b o e hx) e1 (I.base.free b o e n hx)
    exact ⟨sl', e2⟩
  · obtain ⟨o', e1⟩ := I.base.there b o e hx
    exact free b o' (neC b o e hx) e1 (I.base.free b o e n hx)
  · obtain ⟨o', e1⟩ := I.base.there b o e hx
    exact there b o' (neC b o e hx) e1
  · obtain ⟨m1, e1⟩ := I.base.tbls b ps e
    obtain ⟨m2, e2⟩ := tbls b _ e1
    exact ⟨m1 ++ m2, by rw [e2, Array.append_assoc]⟩
  · obtain ⟨m, hn, hl⟩ := I.loc
    refine ⟨m, ns m hn, fun i x v e1 e2 e3 => ?_⟩
    obtain ⟨u, r, l⟩ := hl i x v e1 e2 e3
    refine ⟨u, r, ?_⟩
    rcases l with l | ⟨k, c, e, z⟩
    · exact .inl l
    · exact .inr ⟨k, c, e, cellK x c e _ z⟩
  · obtain ⟨v, z⟩ := I.cell x c e
    exact ⟨v, cellK x c e v z⟩
  · obtain ⟨m, ⟨o, _, _, ho, _⟩, _⟩ := I.loc
    exact free _ o (fun z => (hch _ z).2.1 rfl) ho I.free
  · obtain ⟨v, o, ho, hd⟩ := I.cell x c e
    exact free c o (fun z => (hch c z).2.2.1 x c e rfl) ho (I.freeC x c e)
  · obtain ⟨e, n, ne, nf, d⟩ := I.pin p hp
    have nch : p.1 ∉ ch := fun z => (hch p.1 z).2.2.2 p hp rfl
    exact ⟨keep p.1 p.2 ne nf nch e n, free p.1 p.2 nch e n, ne, nf, d⟩
theorem Inv.un {t' : Nat} (I : Inv X pins σ H s) (u : Un X.fs [] H H' s.heap h') (hok : HOk X.prog X.w H' h') : Inv X pins σ H' { s with heap := h', toks := t' } := by
  obtain ⟨m, ⟨o, es, ep, ho, r⟩, _⟩ := id I.loc
  obtain ⟨sl, hL⟩ := u.any ho I.free (by simp)
  exact I.step (g' := s.gens) (d' := s.drawn) (ch := []) (fun _ z => nomatch z) (fun b o _ hb _ e n => u.keep b o e n hb (by simp)) (fun b o _ hb _ e n => u.slot b o e n hb (by simp)) (fun b o _ e n => u.free b o e n (by simp)) (fun b o _ e => u.there b o e (by simp)) u.tups u.frzs u.tbls (fun m' hm => by
    obtain ⟨o', es', ep', ho', r'⟩ := hm
    rw [ho] at ho'; cases ho'
    exact ⟨_, es', ep', hL, r'⟩) hok I.bare
theorem Inv.call {g' : Array GenState} {t' : Nat} {d' : Drawn} {ch : List Addr} (I : Inv X pins σ H s) (u : Un (frs X.stack) ch H H' s.heap h') (hok : HOk X.prog X.w H' h') (hg : AllBare g')
    (hch : ∀ b ∈ ch, (b ∈ X.ex ∨ X.s₀.heap.objs.size ≤ b) ∧ b ≠ X.env.locals ∧ (∀ x c, X.env.cells.lookup x = some c → c ≠ b) ∧ ∀ p ∈ X.pn ++ pins, p.1 ≠ b) :
    Inv X pins σ H' { s with heap := h', gens := g', drawn := d', toks := t' } := by
  obtain ⟨m, ⟨o, es, ep, ho, r⟩, _⟩ := id I.loc
  obtain ⟨sl, hL⟩ := u.any ho I.free fun z => (hch _ z).2.1 rfl
  exact I.step (ch := ch) hch (fun b o hL hb hc e n => u.keep b o e n (fun z => (List.mem_cons.mp (I.stkSub b z)).elim hL hb) hc) (fun b o _ _ hc e n => u.any e n hc) (fun b o hc e n => u.free b o e n hc) (fun b o hc e => u.there b o e hc) u.tups u.frzs u.tbls (fun m' hm => by
    obtain ⟨o', es', ep', ho', r'⟩ := hm
    rw [ho] at ho'; cases ho'
    exact ⟨_, es', ep', hL, r'⟩) hok hg
theorem Inv.turned {t' : Nat} {it : Addr} (I : Inv X pins σ H s) (k : ∀ b o, b ≠ it → s.heap.get? b = some o → h'.get? b = some o) (hn : H it = none) (hL : it ≠ X.env.locals)
    (h1 : it ∈ X.ex ∨ X.s₀.heap.objs.size ≤ it) (h2 : ∀ x c, X.env.cells.lookup x = some c → c ≠ it) (h3 : ∀ p ∈ X.pn ++ pins, p.1 ≠ it) : Inv X pins σ H { s with heap := h', toks := t' } := by
  have nit : ∀ b u, H b = some u → b ≠ it := fun b u e z => by rw [z, hn] at e; cases e
  refine I.step (g' := s.gens) (d' := s.drawn) (ch := [it]) (fun b hb => ?_) (fun b o _ _ hc e _ => k b o (fun z => hc (by simp [z])) e) (fun b o _ _ hc e _ => ⟨o.slots, k b o (fun z => hc (by simp [z])) e⟩) (fun _ _ _ _ n => n)
    (fun b o hc e => ⟨o, k b o (fun z => hc (by simp [z])) e⟩) (fun _ _ e => e) (fun _ _ _ e => e) (fun b ps e => ⟨#[], by rw [e]; simp⟩) (fun m hm => ?_) (fun b u e => ?_) I.bare
  · have e : b = it := by simpa using hb
    subst e
    exact ⟨h1, hL, h2, h3⟩
  · obtain ⟨o, es, ep, ho, r⟩ := hm
    exact ⟨o, es, ep, k _ o (Ne.symm hL) ho, r⟩
  · refine (I.hok b u e).stay (fun c v hc q => k c v ?_ q) (fun _ q => q) fun _ _ q => q
    rcases hc with z | z
    · rw [z]; exact nit b u e
    · exact nit c _ z
theorem Inv.tok (I : Inv X pins σ H s) (t : Nat) : Inv X pins σ H { s with toks := t } := I.un (h' := s.heap) (t' := t) Un.refl I.hok
theorem Inv.kept {t' : Nat} (I : Inv X pins σ H s) (k : ∀ b u, s.heap.get? b = some u → h'.get? b = some u) : Inv X pins σ H { s with heap := h', toks := t' } := I.un (Un.kept k) (I.hok.kept k)
theorem Inv.laid {a : Addr} {o : HO} {t' : Nat} (I : Inv X pins σ H s) (k : ∀ b u, s.heap.get? b = some u → h'.get? b = some u) (hp : s.heap.objs.size ≤ a) (new : ObjOk X.prog X.w (upd H a o) h' a o) :
    Inv X pins σ (upd H a o) { s with heap := h', toks := t' } := I.un (Un.laid k hp (I.hok.fresh hp)) (I.hok.laid k hp new)
theorem Inv.write {x e : Addr} {o : HO} {t' : Nat} (I : Inv X pins σ H s) (mu : Mut (H x)) (he : e = x ∨ H e = some (.own x)) (k : ∀ b u, b ≠ e → s.heap.get? b = some u → h'.get? b = some u) (heo : ∃ u, h'.get? e = some u)
    (new : ObjOk X.prog X.w (upd H x o) h' x o) : Inv X pins σ (upd H x o) { s with heap := h', toks := t' } := I.un (Un.write mu he k heo) (I.hok.write mu he k heo new)
theorem Inv.pins_of {pins' : List (Addr × Obj)} (I : Inv X pins σ H s) (h : ∀ p ∈ pins', s.heap.get? p.1 = some p.2 ∧ H p.1 = none ∧ p.1 ≠ X.env.locals ∧ p.1 ∉ X.fs ∧ ∀ v, p.2.data ≠ .cell v) : Inv X pins' σ H s :=
  ⟨I.ok, I.os, I.bare, I.base, I.loc, I.cell, I.free, I.freeC, fun p hp => (List.mem_append.mp hp).elim (fun z => I.pin p (List.mem_append_left _ z)) (h p), I.hok, I.len⟩
theorem nodup_ix {N : List Str} (hN : N.Nodup) {i j : Nat} {x : Str} (a : N[i]? = some x) (b : N[j]? = some x) : i = j := by
  obtain ⟨h1, e1⟩ := List.getElem?_eq_some_iff.mp a
  obtain ⟨h2, e2⟩ := List.getElem?_eq_some_iff.mp b
  exact (List.getElem_inj hN).mp (e1.trans e2.symm)
theorem store_ok2 {M : Model} {A : Around} {E : Value → Shared → Prop} {i : Nat} {x : Str} {v : V} {u : Value} {Q : Unit → Shared → Prop} (I : Inv X pins σ H s) (hN : X.N.Nodup) (hi : X.N[i]? = some x) (hx : Loc X.env.scope x) (r : RelV v u)
    (h : ∀ s', Inv X pins (σ.set i (some v)) H s' → (∃ a, Heap.SameBut a s.heap s'.heap ∧ (a = X.env.locals ∨ X.env.cells.lookup x = some a)) → Q () s') (hf : X.fn x = true ∨ X.env.scope.names.lookup x = some .local := by first | exact .inl rfl | exact .inr rfl | assumption) : wpAny M A (storeName X.env x u) Q E s := by
  obtain ⟨m, hn, hl⟩ := id I.loc
  have hcls : (X.env.scope.kind == .class || (X.env.scope.kind == .module && X.env.locals != X.env.globals)) = false := by rw [I.ok.kind]; rfl
  have hiσ : i < σ.length := by rw [I.len]; exact (List.getElem?_eq_some_iff.mp hi).1
  have cne := I.cne
  have tracked : ∀ {a : Addr} {h' : Heap}, (∃ o, s.heap.get? a = some o ∧ H a = none) → Heap.SameBut a s.heap h' → HOk X.prog X.w H h' := fun {a h'} ha hs b ob e => by
    obtain ⟨_, _, hfree⟩ := ha
    refine (I.hok b ob e).stay (fun c w' hc q => (hs.2 c ?_).trans q) (fun _ q => q) fun _ _ q => q
    rintro rfl
    rcases hc with rfl | hc
    · rw [hfree] at e; cases e
    · rw [hfree] at hc; cases hc
  rcases hx with hk | hk
  · refine wpAny_storeName_local hk hn (fun h' hn' hs => ?_) hcls
    obtain ⟨oL, _, _, hoL, _⟩ := id hn
    refine h _ ⟨I.ok, I.os, I.bare, ⟨fun b o e n hb hx => ?_, fun b o e n hb hx => ?_, I.base.free, fun b o e hx => ?_, I.base.tups, I.base.frzs, I.base.tbls⟩, ⟨_, hn', fun j y v' e1 e2 e3 => ?_⟩, fun y c e => ?_, I.free, I.freeC, fun p hp => ?_, tracked ⟨oL, hoL, I.free⟩ hs, by simpa using I.len⟩ ⟨_, hs, .inl rfl⟩
    · exact (hs.2 b (Nat.ne_of_lt (Nat.lt_of_lt_of_le (Heap.lt_size e) I.ok.above))).trans (I.base.keep b o e n hb hx)
    · obtain ⟨sl, e1⟩ := I.base.slot b o e n hb hx
      exact ⟨sl, (hs.2 b (Nat.ne_of_lt (Nat.lt_of_lt_of_le (Heap.lt_size e) I.ok.above))).trans e1⟩
    · obtain ⟨o', e1⟩ := I.base.there b o e hx
      exact ⟨o', (hs.2 b (Nat.ne_of_lt (Nat.lt_of_lt_of_le (Heap.lt_size e) I.ok.above))).trans e1⟩
    · by_cases hj : j = i
      · subst hj
        rw [hi] at e1; cases e1
        rw [List.getElem?_set_self hiσ] at e2
        cases e2
        exact ⟨u, r, .inl ⟨hk, by simp⟩⟩
      · rw [List.getElem?_set_ne (Ne.symm hj)] at e2
        obtain ⟨u', r', q⟩ := hl j y v' e1 e2 e3
        refine ⟨u', r', ?_⟩
        rcases q with ⟨k, e⟩ | ⟨k, c, e, z⟩
        · refine .inl ⟨k, ?_⟩
          have : y ≠ x := fun e => hj (nodup_ix hN e1 (e ▸ hi))
          simp [this, e]
        · exact .inr ⟨k, c, e, z.sameBut hs (cne y c e)⟩
    · obtain ⟨w', z⟩ := I.cell y c e
      exact ⟨w', z.sameBut hs (cne y c e)⟩
    · obtain ⟨e, n, ne, nf, d⟩ := I.pin p hp
      exact ⟨(hs.2 p.1 ne).trans e, n, ne, nf, d⟩
  · have hfn : X.fn x = true := by
      rcases hf with z | z
      · exact z
      · rw [z] at hk; cases hk
    obtain ⟨c, hc⟩ := I.ok.has x (.inl hk)
    obtain ⟨w', z⟩ := I.cell x c hc
    refine wpAny_storeName_cell I.ok.kind hk hc z (fun h' hc' hs => ?_)
    obtain ⟨oc, hoc, hocd⟩ := id z
    refine h { s with heap := h' } ⟨I.ok, I.os, I.bare, ⟨fun b o e n hb hx => ?_, fun b o e n hb hx => ?_, I.base.free, fun b o e hx => ?_, I.base.tups, I.base.frzs, I.base.tbls⟩, ⟨m, hn.sameBut hs (Ne.symm (cne x c hc)), fun j y v' e1 e2 e3 => ?_⟩, fun y c' e => ?_, I.free, I.freeC, fun p hp => ?_, tracked ⟨oc, hoc, I.freeC x c hc⟩ hs, by simpa using I.len⟩ ⟨c, hs, .inr hc⟩
    · exact (hs.2 b (Nat.ne_of_lt (Nat.lt_of_lt_of_le (Heap.lt_size e) (I.ok.cab x c hfn hc)))).trans (I.base.keep b o e n hb hx)
    · obtain ⟨sl, e1⟩ := I.base.slot b o e n hb hx
      exact ⟨sl, (hs.2 b (Nat.ne_of_lt (Nat.lt_of_lt_of_le (Heap.lt_size e) (I.ok.cab x c hfn hc)))).trans e1⟩
    · obtain ⟨o', e1⟩ := I.base.there b o e hx
      exact ⟨o', (hs.2 b (Nat.ne_of_lt (Nat.lt_of_lt_of_le (Heap.lt_size e) (I.ok.cab x c hfn hc)))).trans e1⟩
    · by_cases hj : j = i
      · subst hj
        rw [hi] at e1; cases e1
        rw [List.getElem?_set_self hiσ] at e2
        cases e2
        exact ⟨u, r, .inr ⟨.inl hk, c, hc, hc'⟩⟩
      · rw [List.getElem?_set_ne (Ne.symm hj)] at e2
        obtain ⟨u', r', q⟩ := hl j y v' e1 e2 e3
        refine ⟨u', r', ?_⟩
        rcases q with q | ⟨k, c', e, z'⟩
        · exact .inl q
        · refine .inr ⟨k, c', e, z'.sameBut hs ?_⟩
          rintro rfl
          exact hj (nodup_ix hN e1 (I.ok.inj _ _ _ e hc ▸ hi))
    · by_cases hcc : c' = c
      · subst hcc; exact ⟨_, hc'⟩
      · obtain ⟨w2, z2⟩ := I.cell y c' e
        exact ⟨w2, z2.sameBut hs hcc⟩
    · obtain ⟨e, n, ne, nf, d⟩ := I.pin p hp
      refine ⟨(hs.2 p.1 ?_).trans e, n, ne, nf, d⟩
      intro q
      rw [q, hoc] at e
      have q' : oc = p.2 := Option.some.inj e
      exact d w' (by rw [← q']; exact hocd)
theorem store_ok {M : Model} {A : Around} {E : Value → Shared → Prop} {i : Nat} {x : Str} {v : V} {u : Value} {Q : Unit → Shared → Prop} (I : Inv X pins σ H s) (hN : X.N.Nodup) (hi : X.N[i]? = some x) (hx : Loc X.env.scope x) (r : RelV v u)
    (h : ∀ s', Inv X pins (σ.set i (some v)) H s' → Q () s') (hf : X.fn x = true ∨ X.env.scope.names.lookup x = some .local := by first | exact .inl rfl | exact .inr rfl | assumption) : wpAny M A (storeName X.env x u) Q E s :=
  store_ok2 I hN hi hx r (fun s' I' _ => h s' I') hf
theorem Inv.call' {s' : Shared} {ch : List Addr} (I : Inv X pins σ H s) (ho : s'.os = s.os) (u : Un (frs X.stack) ch H H' s.heap s'.heap) (hok : HOk X.prog X.w H' s'.heap) (hg : AllBare s'.gens)
    (hch : ∀ b ∈ ch, (b ∈ X.ex ∨ X.s₀.heap.objs.size ≤ b) ∧ b ≠ X.env.locals ∧ (∀ x c, X.env.cells.lookup x = some c → c ≠ b) ∧ ∀ p ∈ X.pn ++ pins, p.1 ≠ b) : Inv X pins σ H' s' := by
  obtain ⟨h', g', d', t', o'⟩ := s'
  have e : o' = s.os := ho
  subst e
  exact I.call (g' := g') (t' := t') (d' := d') u hok hg hch
end
abbrev XK := Value → Option Addr → Hp → Prop
abbrev St := List (Option V)
abbrev VK := V → Hp → Prop
abbrev TE := St → Hp → VK → Prop
abbrev TT := St → Hp → (Bool → Hp → Prop) → Prop
abbrev TA := St → Hp → (List V → Hp → Prop) → Prop
structure Ends where
  nx : St → Hp → Prop
  rt : VK
  bk : St → Hp → Prop := fun _ _ => False
  ct : St → Hp → Prop := fun _ _ => False
abbrev TS := Ends → St → Hp → Prop
def EP (X : Cx) (pins : List (Addr × Obj)) (σ : St) (Q : VK) (u : Value) (s' : Shared) : Prop := ∃ v H', Inv X pins σ H' s' ∧ RelV v u ∧ Q v H'
def TP (X : Cx) (pins : List (Addr × Obj)) (σ : St) (Q : Bool → Hp → Prop) (b : Bool) (s' : Shared) : Prop := ∃ H', Inv X pins σ H' s' ∧ Q b H'
def AP (X : Cx) (pins : List (Addr × Obj)) (σ : St) (Q : List V → Hp → Prop) (us : List Value) (s' : Shared) : Prop := ∃ vs H', Inv X pins σ H' s' ∧ Vals vs us ∧ Q vs H'
def SP (X : Cx) (pins : List (Addr × Obj)) (D : Ends) (f : Flow) (s' : Shared) : Prop :=
  match f with
  | .next => ∃ σ' H', Inv X pins σ' H' s' ∧ D.nx σ' H'
  | .brk => ∃ σ' H', Inv X pins σ' H' s' ∧ D.bk σ' H'
  | .cont => ∃ σ' H', Inv X pins σ' H' s' ∧ D.ct σ' H'
  | .ret u => ∃ v σ' H', Inv X pins σ' H' s' ∧ RelV v u ∧ D.rt v H'
def PE (X : Cx) (e : Expr) (t : TE) : Prop :=
  ∀ (pins : List (Addr × Obj)) (s : Shared) (σ : St) (H : Hp) (Q : VK), Inv X pins σ H s → t σ H Q → wpAny (model X.prog X.w) X.A (eval e X.env) (EP X pins σ Q) X.xe s
def PT (X : Cx) (e : Expr) (t : TT) : Prop :=
  ∀ (pins : List (Addr × Obj)) (s : Shared) (σ : St) (H : Hp) (Q : Bool → Hp → Prop), Inv X pins σ H s → t σ H Q → wpAny (model X.prog X.w) X.A (isTrue e X.env (eval e X.env)) (TP X pins σ Q) X.xe s
def PW (X : Cx) (e : Expr) (t : TT) : Prop :=
  ∀ (whole : Sem Value) (pins : List (Addr × Obj)) (s : Shared) (σ : St) (H : Hp) (Q : Bool → Hp → Prop), Inv X pins σ H s → t σ H Q → wpAny (model X.prog X.w) X.A (isTrue e X.env whole) (TP X pins σ Q) X.xe s
theorem PW.pt {X : Cx} {e : Expr} {t : TT} (h : PW X e t) : PT X e t := h _
def PA (X : Cx) (es : List Expr) (t : TA) : Prop :=
  ∀ (pos : Pos) (pins : List (Addr × Obj)) (s : Shared) (σ : St) (H : Hp) (Q : List V → Hp → Prop), Inv X pins σ H s → t σ H Q → wpAny (model X.prog X.w) X.A (spliced (backTo pos (starEach es X.env))) (AP X pins σ Q) X.xe s
def PS (X : Cx) (st : Stmt) (t : TS) : Prop :=
  ∀ (pins : List (Addr × Obj)) (s : Shared) (σ : St) (H : Hp) (D : Ends), Inv X pins σ H s → t D σ H → wpAny (model X.prog X.w) X.A (exec st X.env) (SP X pins D) X.xe s
def PSs (X : Cx) (st : List Stmt) (t : TS) : Prop :=
  ∀ (pins : List (Addr × Obj)) (s : Shared) (σ : St) (H : Hp) (D : Ends), Inv X pins σ H s → t D σ H → wpAny (model X.prog X.w) X.A (execs st X.env) (SP X pins D) X.xe s
theorem thn {α : Type} {t : Sem α} {Q Q' : α → Shared → Prop} {M : Model} {A : Around} {E : Value → Shared → Prop} {s : Shared} (h : wpAny M A t Q E s) (hQ : ∀ a s, Q a s → Q' a s) : wpAny M A t Q' E s := wpAny_mono h hQ fun _ _ x => x
end L2
namespace L2
open PySem PySem.Spec PyProof.Rows
section
variable {X : Cx}
def tVar (i : Nat) : TE := fun σ H Q => ∃ v, σ[i]? = some (some v) ∧ Q v H
def tC (v : V) : TE := fun _ H Q => Q v H
theorem pe_var {i : Nat} {x : Str} {pos : Pos} (hN : X.N[i]? = some x) (hv : Vis X.env.scope x) (hd : (x == ("__debug__" : Str)) = false := by decide) (hcd : (x == ("__classdict__" : Str)) = false := by decide) : PE X (.Name x pos) (tVar i) := by
  intro pins s σ H Q I h
  obtain ⟨v, e, h⟩ := h
  obtain ⟨m, hn, hl⟩ := I.loc
  obtain ⟨u, r, l⟩ := hl i x v hN e hv
  have fin : EP X pins σ Q u s := ⟨v, H, I, r, h⟩
  rcases l with ⟨hk, hm⟩ | ⟨hk, c, hc, hcell⟩
  · exact wpAny_Name (wpAny_loadName_local I.ok.kind hk hn hm fin) hd
  · rcases hk with hk | hk
    · exact wpAny_Name (wpAny_loadName_cell I.ok.kind hk hc hcell fin) hd
    · exact wpAny_Name (wpAny_loadName_free I.ok.kind hk hc hcell fin hcd) hd
theorem pe_int {i j pos} : PE X (.Constant (.int i) j pos) (tC (.int i)) := fun _ _ _ H _ I h => wpAny_Constant_int ⟨.int i, H, I.tok _, ⟨_, rfl⟩, h⟩
theorem pe_bl {b j pos} : PE X (.Constant (.bool b) j pos) (tC (.bl b)) := fun _ _ _ H _ I h => Constant_bool ⟨.bl b, H, I, rfl, h⟩
theorem pe_str {x j pos} : PE X (.Constant (.str x) j pos) (tC (.str x)) := fun _ _ _ H _ I h => Calls.Constant_str ⟨.str x, H, I.tok _, ⟨_, rfl⟩, h⟩
def Gl (X : Cx) (x : Str) : Prop := X.env.kindOf x = some .globalImplicit
theorem ld_glob {E : Value → Shared → Prop} {pins : List (Addr × Obj)} {s : Shared} {σ : St} {H : Hp} {x : Str} {u : Value} {pos : Pos} {Q : Value → Shared → Prop} (I : Inv X pins σ H s) (hg : Gl X x) (hm : X.mg x = some u) (h : Q u s)
    (hd : (x == ("__debug__" : Str)) = false := by decide) : wpAny (model X.prog X.w) X.A (eval (.Name x pos) X.env) Q E s :=
  Calls.Name_function_global I.ok.kind hg (Calls.loadGlobal_global (by rw [I.ok.glob]; exact I.mod.glob.keeps I.bk) hm h) hd
theorem ld_blt {E : Value → Shared → Prop} {pins : List (Addr × Obj)} {s : Shared} {σ : St} {H : Hp} {x : Str} {u : Value} {pos : Pos} {Q : Value → Shared → Prop} (I : Inv X pins σ H s) (hg : Gl X x) (hm : X.mg x = none) (hv : bootBuiltins x = some u) (h : Q u s)
    (hn : x ≠ "__name__" := by decide) (hd : (x == ("__debug__" : Str)) = false := by decide) : wpAny (model X.prog X.w) X.A (eval (.Name x pos) X.env) Q E s := by
  obtain ⟨mb, h1, h2⟩ := I.mod.blt
  exact Calls.Name_function_global I.ok.kind hg (Calls.loadGlobal_builtin (by rw [I.ok.glob]; exact I.mod.glob.keeps I.bk) hm (by rw [I.ok.blt]; exact h1.keeps I.bk) ((h2 x hn).trans hv) h) hd
theorem pe_glob {x : Str} {v : V} {u : Value} {pos : Pos} (hg : Gl X x) (hm : X.mg x = some u) (r : RelV v u) (hd : (x == ("__debug__" : Str)) = false := by decide) : PE X (.Name x pos) (tC v) :=
  fun _ _ _ H _ I h => ld_glob I hg hm ⟨v, H, I, r, h⟩ hd
theorem pe_bltn {x : Str} {v : V} {u : Value} {pos : Pos} (hg : Gl X x) (hm : X.mg x = none) (hv : bootBuiltins x = some u) (r : RelV v u) (hn : x ≠ "__name__" := by decide) (hd : (x == ("__debug__" : Str)) = false := by decide) : PE X (.Name x pos) (tC v) :=
  fun _ _ _ H _ I h => ld_blt I hg hm hv ⟨v, H, I, r, h⟩ hn hd
variable {a b : Expr} {ta tb : TE} {pos : Pos}
def tB (t : TE) : TT := fun σ H Q => t σ H fun x H1 => ∃ c, x = .bl c ∧ Q c H1
theorem pt_val {e : Expr} {t : TE} (h : PE X e t) (he : ∀ whole, isTrue e X.env whole = (do let v ← whole; standAt e.pos; holding [v] (truthy v)) := by intro _; rfl) : PT X e (tB t) := by
  intro pins s σ H Q I hw
  refine isTrue_plain (thn (h pins s σ H _ I hw) fun v s1 ⟨x, H1, I1, r1, q1⟩ => ?_) (he _)
  obtain ⟨d, rfl, q⟩ := q1
  cases r1
  exact wpAny_truthy_bool ⟨H1, I1, q⟩
variable {tA tB' : TT} {rest : List Expr}
def tAnd (t u : TT) : TT := fun σ H Q => t σ H fun c H1 => if c = true then u σ H1 Q else Q false H1
def tOr (t u : TT) : TT := fun σ H Q => t σ H fun c H1 => if c = true then Q true H1 else u σ H1 Q
def tNot (t : TT) : TT := fun σ H Q => t σ H fun c H1 => Q (!c) H1
theorem pw_and1 (ha : PT X a tA) : PW X (.BoolOp .And [a] pos) tA := by
  intro wh pins s σ H Q I h
  refine isTrue_and (thn (ha pins s σ H Q I h) fun c s1 e => ?_)
  cases c with
  | true => exact isTrue_and_nil e
  | false => exact e
theorem pw_or1 (ha : PT X a tA) : PW X (.BoolOp .Or [a] pos) tA := by
  intro wh pins s σ H Q I h
  refine isTrue_or (thn (ha pins s σ H Q I h) fun c s1 e => ?_)
  cases c with
  | false => exact isTrue_or_nil e
  | true => exact e
theorem pw_and (ha : PT X a tA) (hb : PW X (.BoolOp .And (b :: rest) pos) tB') : PW X (.BoolOp .And (a :: b :: rest) pos) (tAnd tA tB') := by
  intro wh pins s σ H Q I h
  refine isTrue_and (thn (ha pins s σ H _ I h) fun c s1 ⟨H1, I1, q1⟩ => ?_)
  cases c with
  | true => exact hb wh pins s1 σ H1 Q I1 q1
  | false => exact ⟨H1, I1, q1⟩
theorem pw_or (ha : PT X a tA) (hb : PW X (.BoolOp .Or (b :: rest) pos) tB') : PW X (.BoolOp .Or (a :: b :: rest) pos) (tOr tA tB') := by
  intro wh pins s σ H Q I h
  refine isTrue_or (thn (ha pins s σ H _ I h) fun c s1 ⟨H1, I1, q1⟩ => ?_)
  cases c with
  | true => exact ⟨H1, I1, q1⟩
  | false => exact hb wh pins s1 σ H1 Q I1 q1
theorem pt_not (ha : PT X a tA) : PT X (.UnaryOp .Not a pos) (tNot tA) := by
  intro pins s σ H Q I h
  exact isTrue_not (ha pins s σ H (fun c H1 => Q (!c) H1) I h)
def tAndV (ta tb : TE) : TE := fun σ H Q => ta σ H fun x H1 => ∃ c, x = .bl c ∧ if c = true then tb σ H1 Q else Q (.bl false) H1
def tOrV (ta tb : TE) : TE := fun σ H Q => ta σ H fun x H1 => ∃ c, x = .bl c ∧ if c = true then Q (.bl true) H1 else tb σ H1 Q
def tNotV (ta : TE) : TE := fun σ H Q => ta σ H fun x H1 => ∃ c, x = .bl c ∧ Q (.bl (!c)) H1
theorem pe_one {op} {t : TE} (h : PE X a t) : PE X (.BoolOp op [a] pos) t := fun pins s σ H Q I hw => BoolOp_one (h pins s σ H Q I hw)
theorem pe_and (ha : PE X a ta) (hb : PE X (.BoolOp .And (b :: rest) pos) tb) : PE X (.BoolOp .And (a :: b :: rest) pos) (tAndV ta tb) := by
  intro pins s σ H Q I h
  refine BoolOp_and (thn (ha pins s σ H _ I h) fun v s1 ⟨x, H1, I1, r1, q1⟩ => ?_)
  obtain ⟨c, rfl, q1⟩ := q1
  cases r1
  refine wpAny_truthy_bool ?_
  cases c with
  | true => exact hb pins s1 σ H1 Q I1 q1
  | false => exact ⟨.bl false, H1, I1, rfl, q1⟩
theorem pe_or (ha : PE X a ta) (hb : PE X (.BoolOp .Or (b :: rest) pos) tb) : PE X (.BoolOp .Or (a :: b :: rest) pos) (tOrV ta tb) := by
  intro pins s σ H Q I h
  refine BoolOp_or (thn (ha pins s σ H _ I h) fun v s1 ⟨x, H1, I1, r1, q1⟩ => ?_)
  obtain ⟨c, rfl, q1⟩ := q1
  cases r1
  refine wpAny_truthy_bool ?_
  cases c with
  | false => exact hb pins s1 σ H1 Q I1 q1
  | true => exact ⟨.bl true, H1, I1, rfl, q1⟩
theorem pe_not (ha : PE X a ta) : PE X (.UnaryOp .Not a pos) (tNotV ta) := by
  intro pins s σ H Q I h
  refine UnaryOp_ (thn (ha pins s σ H _ I h) fun v s1 ⟨x, H1, I1, r1, q1⟩ => ?_)
  obtain ⟨c, rfl, q1⟩ := q1
  cases r1
  exact not_of (wpAny_truthy_bool ⟨.bl (!c), H1, I1, rfl, q1⟩)
def tIf (t : TT) (ta tb : TE) : TE := fun σ H Q => t σ H fun c H1 => if c = true then ta σ H1 Q else tb σ H1 Q
theorem pe_ifExp {c : Expr} (hc : PT X c tA) (ha : PE X a ta) (hb : PE X b tb) : PE X (.IfExp c a b pos) (tIf tA ta tb) := by
  intro pins s σ H Q I h
  refine wpAny_IfExp (thn (hc pins s σ H _ I h) fun d s1 ⟨H1, I1, q1⟩ => ?_)
  cases d with
  | true => exact ha pins s1 σ H1 Q I1 q1
  | false => exact hb pins s1 σ H1 Q I1 q1
end
end L2
namespace L2
open PySem PySem.Spec PyProof.Rows
def SqL (K : PySem.W.Frag) (H : Hp) (a : Addr) (xs : List V) : Prop :=
  Rd H a (.lst xs) ∨
    ∃ (o : Obj) (its : Array Value) (n : Nat), K.lookup a = some o ∧ o.cls = .type "list" ∧ o.dict = none ∧ o.data = .seq its n ∧ its.size ≤ sizeLine ∧ Vals xs its.toList
def SqT (K : PySem.W.Frag) (H : Hp) (a : Addr) (xs : List V) : Prop :=
  Rd H a (.tup xs) ∨
    ∃ (o : Obj) (its : Array Value) (n : Nat), K.lookup a = some o ∧ o.cls = .type "tuple" ∧ o.data = .seq its n ∧ its.size ≤ sizeLine ∧ Vals xs its.toList
def absV : Value → Option V
  | .none => some .non
  | .bool b => some (.bl b)
  | .int i _ => some (.int i)
  | .str x _ => some (.str x)
  | .bytes b _ => some (.byt b)
  | .float b _ => some (.flt b)
  | .ref a => some (.ref a)
  | .type n => some (.ty n)
  | _ => none
theorem RelV.abs {x : V} {u : Value} (r : RelV x u) : absV u = some x := by
  cases x with
  | non => cases r; rfl
  | bl _ => cases r; rfl
  | int _ => obtain ⟨t, rfl⟩ := r; rfl
  | str _ => obtain ⟨t, rfl⟩ := r; rfl
  | byt _ => obtain ⟨t, rfl⟩ := r; rfl
  | flt _ => obtain ⟨t, rfl⟩ := r; rfl
  | ref _ => cases r; rfl
  | ty _ => cases r; rfl
theorem RelV.inj {x y : V} {u : Value} (r : RelV x u) (q : RelV y u) : x = y := Option.some.inj (r.abs.symm.trans q.abs)
theorem Vals.inj : ∀ {xs ys : List V} {us : List Value}, Vals xs us → Vals ys us → xs = ys
  | _, _, _, .nil, .nil => rfl
  | _, _, _, .cons r t, .cons r' t' => by rw [r.inj r', Vals.inj t t']
section
variable {X : Cx} {pins : List (Addr × Obj)} {σ : St} {H : Hp} {s : Shared} {a : Addr} {xs ys : List V}
theorem SqL.of {K : PySem.W.Frag} (h : H a = some (.lst xs)) : SqL K H a xs := .inl (.inl h)
theorem Inv.list (I : Inv X pins σ H s) (h : SqL X.K H a xs) : ∃ its : List Value, Vals xs its ∧ PlainL s.heap a its.toArray ∧ xs.length ≤ sizeLine := by
  rcases h with h | ⟨o, its, n, hk, hc, hd, hs, hz, r⟩
  · obtain ⟨z, its, n, r, e⟩ := h.ok I.hok
    exact ⟨its, r, ⟨_, n, e, rfl, rfl, rfl⟩, z⟩
  · refine ⟨its.toList, r, ⟨o, n, I.kIn a o hk, hc, hd, by simpa using hs⟩, ?_⟩
    have e := r.length
    simp only [Array.length_toList] at e
    omega
theorem Inv.tuple (I : Inv X pins σ H s) (h : SqT X.K H a xs) : ∃ its : List Value, Vals xs its ∧ IsTup s.heap a its.toArray ∧ xs.length ≤ sizeLine := by
  rcases h with h | ⟨o, its, n, hk, hc, hs, hz, r⟩
  · obtain ⟨z, its, r, p⟩ := h.ok I.hok
    exact ⟨its, r, p, z⟩
  · refine ⟨its.toList, r, ⟨o, I.kIn a o hk, hc, n, by simpa using hs⟩, ?_⟩
    have e := r.length
    simp only [Array.length_toList] at e
    omega
theorem Inv.list_inj (I : Inv X pins σ H s) (h : SqL X.K H a xs) (h' : SqL X.K H a ys) : xs = ys := by
  obtain ⟨its, r, ⟨o, n, e, _, _, d⟩, _⟩ := I.list h
  obtain ⟨its', r', ⟨o', n', e', _, _, d'⟩, _⟩ := I.list h'
  rw [e] at e'; cases e'
  rw [d] at d'
  injection d' with d1 _
  have : its = its' := by simpa using congrArg Array.toList d1
  subst this
  exact r.inj r'
theorem Inv.tuple_inj (I : Inv X pins σ H s) (h : SqT X.K H a xs) (h' : SqT X.K H a ys) : xs = ys := by
  obtain ⟨its, r, ⟨o, e, _, n, d⟩, _⟩ := I.tuple h
  obtain ⟨its', r', ⟨o', e', _, n', d'⟩, _⟩ := I.tuple h'
  rw [e] at e'; cases e'
  rw [d] at d'
  injection d' with d1 _
  have : its = its' := by simpa using congrArg Array.toList d1
  subst this
  exact r.inj r'
end
abbrev Cx.wish (X : Cx) (E : Value → Shared → Prop) : Cx := { X with xe := E }
abbrev Cx.nox (X : Cx) : Cx := X.wish fun _ _ => False
theorem Cx.Ok.wish {X : Cx} (ok : X.Ok) (E : Value → Shared → Prop) : (X.wish E).Ok :=
  ⟨ok.mod, ok.kind, ok.glob, ok.blt, ok.above, ok.inj, ok.has, ok.cab, ok.hd, ok.frames, ok.stk, ok.exf, ok.bs, ok.bsz, ok.noex, ok.exfs, ok.funs, ok.frf⟩
theorem Cx.Ok.unwish {X : Cx} {E : Value → Shared → Prop} (ok : (X.wish E).Ok) : X.Ok :=
  ⟨ok.mod, ok.kind, ok.glob, ok.blt, ok.above, ok.inj, ok.has, ok.cab, ok.hd, ok.frames, ok.stk, ok.exf, ok.bs, ok.bsz, ok.noex, ok.exfs, ok.funs, ok.frf⟩
section
variable {X : Cx} {pins : List (Addr × Obj)} {σ : St} {H : Hp} {s : Shared} {E : Value → Shared → Prop}
theorem Inv.wish (I : Inv X pins σ H s) (E : Value → Shared → Prop) : Inv (X.wish E) pins σ H s := ⟨I.ok.wish E, I.os, I.bare, I.base, I.loc, I.cell, I.free, I.freeC, I.pin, I.hok, I.len⟩
theorem Inv.unwish (I : Inv (X.wish E) pins σ H s) : Inv X pins σ H s := ⟨I.ok.unwish, I.os, I.bare, I.base, I.loc, I.cell, I.free, I.freeC, I.pin, I.hok, I.len⟩
theorem SP.unwish {D : Ends} {f : Flow} {s' : Shared} (h : SP (X.wish E) pins D f s') : SP X pins D f s' := by
  cases f with
  | next => obtain ⟨σ', H', I, q⟩ := h; exact ⟨σ', H', I.unwish, q⟩
  | brk => obtain ⟨σ', H', I, q⟩ := h; exact ⟨σ', H', I.unwish, q⟩
  | cont => obtain ⟨σ', H', I, q⟩ := h; exact ⟨σ', H', I.unwish, q⟩
  | ret u => obtain ⟨v, σ', H', I, r, q⟩ := h; exact ⟨v, σ', H', I.unwish, r, q⟩
theorem PSs.nox {st : List Stmt} {t : TS} (h : PSs X.nox st t) : PSs X st t := fun pins s σ H D I hw =>
  wpAny_mono (h pins s σ H D (I.wish _) hw) (fun _ _ q => q.unwish) fun _ _ z => False.elim z
end
section
variable {X : Cx} {st : Stmt} {rest : List Stmt} {t u : TS} {e : Expr} {te : TE} {pos : Pos}
def tNext : TS := fun D σ H => D.nx σ H
def tSeq (t u : TS) : TS := fun D σ H => t { D with nx := u D } σ H
theorem pss_nil : PSs X [] tNext := fun _ _ σ H _ I h => wpAny_execs_nil ⟨σ, H, I, h⟩
theorem pss_cons (h1 : PS X st t) (h2 : PSs X rest u) : PSs X (st :: rest) (tSeq t u) := by
  intro pins s σ H D I h
  refine wpAny_execs_cons (thn (h1 pins s σ H { D with nx := u D } I h) fun f s1 q => ?_)
  cases f with
  | next =>
    obtain ⟨σ', H', I', q⟩ := q
    exact h2 pins s1 σ' H' D I' q
  | ret v => exact q
  | brk => exact q
  | cont => exact q
theorem pss_one (h1 : PS X st t) : PSs X [st] t := by
  intro pins s σ H D I h
  refine wpAny_execs_cons (thn (h1 pins s σ H D I h) fun f s1 q => ?_)
  cases f with
  | next => exact wpAny_execs_nil q
  | ret v => exact q
  | brk => exact q
  | cont => exact q
theorem Inv.quiet {pins : List (Addr × Obj)} {σ : St} {H : Hp} {s : Shared} (I : Inv X pins σ H s) : interactive X.env = false := by simp [interactive, I.ok.kind]
def tDrop (te : TE) : TS := fun D σ H => te σ H fun _ H1 => D.nx σ H1
theorem ps_expr (he : PE X e te) (hs : swapsWith e none pos.line X.env = pure false := by rfl) : PS X (.Expr e pos) (tDrop te) := by
  intro pins s σ H D I h
  exact wpAny_Expr_any (thn (he pins s σ H _ I h) fun v s1 ⟨x, H1, I1, r1, q1⟩ => ⟨σ, H1, I1, q1⟩) I.quiet hs
def tRet (te : TE) : TS := fun D σ H => te σ H D.rt
theorem ps_ret (he : PE X e te) : PS X (.Return (some e) pos) (tRet te) := by
  intro pins s σ H D I h
  exact wpAny_Return_some (thn (he pins s σ H _ I h) fun v s1 ⟨x, H1, I1, r1, q1⟩ => ⟨x, σ, H1, I1, r1, q1⟩)
def tIfS (c : TT) (t u : TS) : TS := fun D σ H => c σ H fun b H1 => if b = true then t D σ H1 else u D σ H1
theorem ps_if {c : Expr} {a b : List Stmt} {tc : TT} (hc : PT X c tc) (ha : PSs X a t) (hb : PSs X b u) : PS X (.If c a b pos) (tIfS tc t u) := by
  intro pins s σ H D I h
  refine wpAny_If (thn (hc pins s σ H _ I h) fun d s1 ⟨H1, I1, q1⟩ => ?_)
  cases d with
  | true => exact ha pins s1 σ H1 D I1 q1
  | false => exact hb pins s1 σ H1 D I1 q1
def tNever : TS := fun _ _ _ => False
theorem pss_never {sts : List Stmt} : PSs X sts tNever := fun _ _ _ _ _ _ h => h.elim
end
abbrev TG := V → St → Hp → (St → Hp → Prop) → Prop
abbrev TGs := List V → St → Hp → (St → Hp → Prop) → Prop
def PG (X : Cx) (target : Expr) (t : TG) : Prop :=
  ∀ (pins : List (Addr × Obj)) (s : Shared) (σ : St) (H : Hp) (v : V) (u : Value) (Q : St → Hp → Prop), Inv X pins σ H s → RelV v u → t v σ H Q →
    wpAny (model X.prog X.w) X.A (assign target X.env u) (fun _ s' => ∃ σ' H', Inv X pins σ' H' s' ∧ Q σ' H') X.xe s
def PGs (X : Cx) (ts : List Expr) (t : TGs) : Prop :=
  ∀ (pins : List (Addr × Obj)) (s : Shared) (σ : St) (H : Hp) (vs : List V) (us : List Value) (Q : St → Hp → Prop), Inv X pins σ H s → Vals vs us → t vs σ H Q →
    wpAny (model X.prog X.w) X.A (assignInOrder ((assignEach ts X.env).map (·.2)) us) (fun _ s' => ∃ σ' H', Inv X pins σ' H' s' ∧ Q σ' H') X.xe s
abbrev TSet := V → V → V → Hp → (Hp → Prop) → Prop
def PSet (X : Cx) (t : TSet) : Prop :=
  ∀ (pins : List (Addr × Obj)) (s : Shared) (σ : St) (H : Hp) (o i v : V) (ov iv u : Value) (Q : Hp → Prop), Inv X pins σ H s → RelV o ov → RelV i iv → RelV v u → t o i v H Q →
    wpAny (model X.prog X.w) X.A (setItem ov iv u) (fun _ s' => ∃ H', Inv X pins σ H' s' ∧ Q H') X.xe s
section
variable {X : Cx} {pos : Pos}
def gName (i : Nat) : TG := fun v σ H Q => Q (σ.set i (some v)) H
theorem pg_name {i : Nat} {x : Str} (hN : X.N.Nodup) (hi : X.N[i]? = some x) (hx : Loc X.env.scope x) (hf : X.fn x = true ∨ X.env.scope.names.lookup x = some .local := by first | exact .inl rfl | exact .inr rfl | assumption) : PG X (.Name x pos) (gName i) := by
  intro pins s σ H v u Q I r h
  exact wpAny_assign_Name (store_ok I hN hi hx r (fun s' I' => ⟨_, H, I', h⟩) hf)
def gNil : TGs := fun vs σ H Q => vs = [] ∧ Q σ H
def gCons (t : TG) (u : TGs) : TGs := fun vs σ H Q => ∃ v r, vs = v :: r ∧ t v σ H fun σ' H' => u r σ' H' Q
theorem pgs_nil : PGs X [] gNil := by
  intro pins s σ H vs us Q I r h
  obtain ⟨e, h⟩ := h
  subst e
  cases r
  exact assignInOrder_nil ⟨σ, H, I, h⟩
theorem pgs_cons {e : Expr} {es : List Expr} {t : TG} {u : TGs} (h1 : PG X e t) (h2 : PGs X es u)
    (hs : (assignEach (e :: es) X.env).map (·.2) = assign e X.env :: (assignEach es X.env).map (·.2) := by rfl) : PGs X (e :: es) (gCons t u) := by
  intro pins s σ H vs us Q I r h
  obtain ⟨v, vr, e1, h⟩ := h
  subst e1
  cases r with
  | cons r rr =>
    rw [hs]
    refine assignInOrder_cons (thn (h1 pins s σ H _ _ _ I r h) fun _ s1 ⟨σ1, H1, I1, q1⟩ => ?_)
    exact h2 pins s1 σ1 H1 _ _ Q I1 rr q1
def gTup (K : PySem.W.Frag) (n : Nat) (t : TGs) : TG := fun v σ H Q => ∃ a xs, v = .ref a ∧ SqT K H a xs ∧ xs.length = n ∧ t xs σ H Q
theorem pg_tup {es : List Expr} {k : Nat} {t : TGs} {n : Nat} (hc : X.calm = true) (h : PGs X es t)
    (hn : (assignEach es X.env).length = n := by rfl) (hst : (assignEach es X.env).findIdx? (·.1) = none := by rfl) : PG X (.Tuple es k pos) (gTup X.K n t) := by
  intro pins s σ H v u Q I r hw
  obtain ⟨a, xs, e1, hq, hl, hw⟩ := hw
  subst e1
  cases r
  obtain ⟨its, rv, ht, hz⟩ := I.tuple hq
  refine assign_Tuple_tuple (I.ok.hd hc) ht (by simp [hn, ← hl, rv.length]) hst fun h' hx => ?_
  have I1 : Inv X pins σ H { s with heap := h' } := I.kept (t' := s.toks) fun b o e => hx b o (Nat.ne_of_lt (Heap.lt_size e)) e
  exact h pins _ σ H xs _ Q I1 (by simpa using rv) hw
def gSub (to ti : TE) (t : TSet) : TG := fun v σ H Q => to σ H fun o H1 => ti σ H1 fun i H2 => t o i v H2 fun H3 => Q σ H3
theorem pg_sub {o i : Expr} {to ti : TE} {t : TSet} (ho : PE X o to) (hi : PE X i ti) (hs : PSet X t)
    (ha : ∀ v, assign (.Subscript o i pos) X.env v = (do
      let ov ← holding [v] (eval o X.env)
      let iv ← holding [v, ov] (eval i X.env)
      standAt pos
      holding [v, ov, iv] (setItem ov iv v)
      release [v, ov, iv] []) := by intro _; rfl) : PG X (.Subscript o i pos) (gSub to ti t) := by
  intro pins s σ H v u Q I r h
  rw [ha]
  refine wpAny_bind (wpAny_holding (thn (ho pins s σ H _ I h) fun ov s1 ⟨x, H1, I1, r1, q1⟩ => ?_))
  refine wpAny_bind (wpAny_holding (thn (hi pins s1 σ H1 _ I1 q1) fun iv s2 ⟨y, H2, I2, r2, q2⟩ => ?_))
  refine wpAny_bind (wpAny_standAt (wpAny_bind (wpAny_holding (thn (hs pins s2 σ H2 x y v ov iv u _ I2 r1 r2 r q2) fun _ s3 ⟨H3, I3, q3⟩ => ?_))))
  exact wpAny_release ⟨σ, H3, I3, q3⟩
def tAsg (te : TE) (g : TG) : TS := fun D σ H => te σ H fun x H1 => g x σ H1 D.nx
theorem ps_asg {tg e : Expr} {te : TE} {g : TG} (he : PE X e te) (hg : PG X tg g) (hs : swapsWithSole [tg] e pos.line X.env = pure false := by rfl) (hw : swappedStores [tg] e X.env = pure none := by rfl)
    (h1 : (assignEach [tg] X.env).map (·.2) = [assign tg X.env] := by rfl) : PS X (.Assign [tg] e pos) (tAsg te g) := by
  intro pins s σ H D I h
  refine wpAny_Assign_stores (thn (he pins s σ H _ I h) fun v s1 ⟨x, H1, I1, r1, q1⟩ => ?_) hs hw
  rw [h1]
  exact thn (hg pins s1 σ H1 x v _ I1 r1 q1) fun _ s2 q => q
theorem ps_set {i : Nat} {x : Str} {e : Expr} {te : TE} {pos' : Pos} (hN : X.N.Nodup) (hi : X.N[i]? = some x) (hx : Loc X.env.scope x) (he : PE X e te) (hs : swapsWith e (some (.Name x pos')) pos.line X.env = pure false := by rfl) (hf : X.fn x = true ∨ X.env.scope.names.lookup x = some .local := by first | exact .inl rfl | exact .inr rfl | assumption) :
    PS X (.Assign [.Name x pos'] e pos) (tAsg te (gName i)) := by
  intro pins s σ H D I h
  refine wpAny_Assign_Name (thn (he pins s σ H _ I h) fun v s1 ⟨y, H1, I1, r1, q1⟩ => ?_) hs
  exact store_ok I1 hN hi hx r1 (fun s2 I2 => ⟨_, H1, I2, q1⟩) hf
end
section
variable {X : Cx} {pos : Pos}
def tWhile (c : TT) (tb : TS) : TS := fun D σ H => ∃ W : Nat → St → Hp → Prop, (∃ m, W m σ H) ∧ ∀ m σ H, W m σ H →
  c σ H fun b H1 => if b = true then ∃ N : St → Hp → Prop, (∀ σ' H', N σ' H' → ∃ m', m' < m ∧ W m' σ' H') ∧ tb { D with nx := N, ct := N, bk := D.nx } σ H1 else D.nx σ H1
theorem ps_while {c : Expr} {body : List Stmt} {tc : TT} {tb : TS} (hp : PassesOwn (model X.prog X.w) X.A X.env X.xe) (hc : PT X c tc) (hb : PSs X body tb) : PS X (.While c body [] pos) (tWhile tc tb) := by
  intro pins s σ H D I h
  obtain ⟨W, ⟨m0, w0⟩, turn⟩ := h
  refine wpAny_While (codeAny_whileLoop (fun n s' => ∃ σ' H', Inv X pins σ' H' s' ∧ W n σ' H') ?_ m0 ⟨σ, H, I, w0⟩)
  rintro n s1 ⟨σ1, H1, I1, w1⟩
  refine wpAny_passesOwn hp (thn (hc pins s1 σ1 H1 _ I1 (turn n σ1 H1 w1)) fun b s2 ⟨H2, I2, q2⟩ => ?_)
  cases b with
  | true =>
    obtain ⟨N, hN, q2⟩ := q2
    rw [if_pos rfl]
    refine wpAny_passesOwn hp (thn (hb pins s2 σ1 H2 _ I2 q2) fun f s3 q3 => ?_)
    cases f with
    | next =>
      obtain ⟨σ3, H3, I3, n3⟩ := q3
      obtain ⟨m', hm, w3⟩ := hN σ3 H3 n3
      exact ⟨m', hm, σ3, H3, I3, w3⟩
    | cont =>
      obtain ⟨σ3, H3, I3, n3⟩ := q3
      obtain ⟨m', hm, w3⟩ := hN σ3 H3 n3
      exact ⟨m', hm, σ3, H3, I3, w3⟩
    | brk => exact q3
    | ret v => exact q3
  | false =>
    rw [if_neg Bool.false_ne_true]
    exact wpAny_execs_nil ⟨σ1, H2, I2, q2⟩
end
structure It where
  go : Nat → Hp → Prop
  yld : Nat → Hp → V → Hp → Prop
  stop : Nat → Hp → Prop
def FpOk (X : Cx) (pins : List (Addr × Obj)) (H : Hp) (b : Addr) : Prop :=
  H b = none ∧ b ≠ X.env.locals ∧ b ∉ X.fs ∧ (b ∈ X.ex ∨ X.s₀.heap.objs.size ≤ b) ∧ (∀ x c, X.env.cells.lookup x = some c → c ≠ b) ∧ ∀ p ∈ X.pn ++ pins, p.1 ≠ b
theorem Inv.fpOk {X : Cx} {pins : List (Addr × Obj)} {σ : St} {H H' : Hp} {s : Shared} {b : Addr} (I : Inv X pins σ H s) (hb : s.heap.objs.size ≤ b) (hn : H' b = none) : FpOk X pins H' b := by
  refine ⟨hn, Nat.ne_of_gt (Nat.lt_of_lt_of_le I.lt hb), I.nofs hb, .inr (Nat.le_trans I.sz hb), fun x c e z => ?_, fun p hp z => ?_⟩
  · obtain ⟨v, q⟩ := I.cell x c e
    exact absurd (Nat.lt_of_lt_of_le q.lt (by rw [z]; exact hb)) (Nat.lt_irrefl _)
  · exact absurd (Nat.lt_of_lt_of_le (Heap.lt_size (I.pin p hp).1) (by rw [z]; exact hb)) (Nat.lt_irrefl _)
structure Turn (P : Program) (w : World) (K : PySem.W.Frag) (tg : Expr) (J : It) (fp : List Addr) (it : Addr) (tn : Nat → Heap → Prop) : Prop where
  mem : it ∈ fp
  obj : ∀ i h, tn i h → ∀ b ∈ fp, ∃ o, h.get? b = some o ∧ ∀ v, o.data ≠ .cell v
  keep : ∀ i h h', tn i h → (∀ b ∈ fp, ∀ o, h.get? b = some o → h'.get? b = some o) → tn i h'
  item : ∀ (X : Cx), X.prog = P → X.w = w → X.K = K → X.calm = true → ∀ (i : Nat) (pins : List (Addr × Obj)) (s : Shared) (σ : St) (H : Hp) (E : Value → Shared → Prop), Inv X pins σ H s → (∀ b ∈ fp, FpOk X pins H b) → tn i s.heap → J.go i H →
    wpAny (model P w) X.A (pyNext (.ref it)) (fun r s1 => ∃ u, r = some u ∧
      wpAny (model P w) X.A (letOwnedTupleGo tg (.ref it) u) (fun _ s2 => ∃ x H', Inv X pins σ H' s2 ∧ RelV x u ∧ J.yld i H x H' ∧ tn (i + 1) s2.heap ∧ ∀ b ∈ fp, H' b = none) E s1) E s
  done : ∀ (X : Cx), X.prog = P → X.w = w → X.K = K → X.calm = true → ∀ (i : Nat) (pins : List (Addr × Obj)) (s : Shared) (σ : St) (H : Hp) (E : Value → Shared → Prop), Inv X pins σ H s → (∀ b ∈ fp, FpOk X pins H b) → tn i s.heap → J.stop i H →
    wpAny (model P w) X.A (pyNext (.ref it)) (fun r s1 => r = none ∧ Inv X pins σ H s1) E s
  self : ∀ (A : Around) (i : Nat) (s : Shared) (Q : Value → Shared → Prop) (E : Value → Shared → Prop), tn i s.heap → Q (.ref it) s → wpAny (model P w) A (pyIter (.ref it)) Q E s
abbrev TI := St → Hp → (It → Hp → Prop) → Prop
def PIE (X : Cx) (pins : List (Addr × Obj)) (σ : St) (tg : Expr) (R : It → Hp → Prop) (itv : Value) (s2 : Shared) : Prop :=
  ∃ (it : Addr) (fp : List Addr) (tn : Nat → Heap → Prop) (J : It) (H' : Hp), itv = .ref it ∧ Inv X pins σ H' s2 ∧ Turn X.prog X.w X.K tg J fp it tn ∧ tn 0 s2.heap ∧ (∀ b ∈ fp, FpOk X pins H' b) ∧ R J H'
def PI (X : Cx) (tg iter : Expr) (wi : TI) : Prop :=
  ∀ (pins : List (Addr × Obj)) (s : Shared) (σ : St) (H : Hp) (R : It → Hp → Prop), Inv X pins σ H s → wi σ H R →
    wpAny (model X.prog X.w) X.A (eval iter X.env) (fun v s1 => wpAny (model X.prog X.w) X.A (pyIter v) (PIE X pins σ tg R) X.xe s1) X.xe s
theorem go_of {M : Model} {A : Around} {E : Value → Shared → Prop} {s : Shared} {tg : Expr} {it : Addr} {u : Value} {o : Obj} {n : String} {vs : Array Value} {Q : Unit → Shared → Prop} (ho : s.heap.get? it = some o) (hc : o.cls = .type n) (hd : o.data = .fields vs)
    (hn : ["enumerate", "zip", "dict_itemiterator", "dict_reverseitemiterator", "odict_iterator", "itertools.zip_longest", "itertools.pairwise"].contains n = false) (hQ : Q () s) : wpAny M A (letOwnedTupleGo tg (.ref it) u) Q E s := by
  unfold letOwnedTupleGo
  cases tg <;> first
    | exact wpAny_pure hQ
    | (cases u <;> first
        | exact wpAny_pure hQ
        | (refine wpAny_bind (wpAny_load ho ?_)
           rw [hc, hd]
           show wpAny M A (if (["enumerate", "zip", "dict_itemiterator", "dict_reverseitemiterator", "odict_iterator", "itertools.zip_longest", "itertools.pairwise"].contains n && vs[0]? == some (rawInt _)) = true then _ else _) Q E s
           rw [if_neg (by intro h; rw [hn, Bool.false_and] at h; cases h)]
           exact wpAny_pure hQ))
def Itl (K : PySem.W.Frag) (a : Addr) : It :=
  ⟨fun i H => ∃ xs x, SqL K H a xs ∧ xs[i]? = some x, fun i H x H' => H' = H ∧ ∀ xs, SqL K H a xs → xs[i]? = some x, fun i H => ∃ xs, SqL K H a xs ∧ xs.length ≤ i⟩
def Itr (lo : Int) (n : Nat) : It := ⟨fun i _ => i < n, fun i H x H' => H' = H ∧ x = .int (lo + i), fun i _ => n ≤ i⟩
theorem turn_list {P : Program} {w : World} {K : PySem.W.Frag} {tg : Expr} (a it : Addr) : Turn P w K tg (Itl K a) [it] it (fun i h => h.IsListIter it a i) where
  mem := by simp
  obj := fun i h st b hb => by
    have e : b = it := by simpa using hb
    subst e
    obtain ⟨o, e, c, d⟩ := st
    exact ⟨o, e, fun v z => by rw [d] at z; cases z⟩
  keep := fun i h h' st k => st.at fun o e => k it (by simp) o e
  item := by
    intro X hP hw hK hc i pins s σ H E I hf st hg
    subst hP hw hK
    obtain ⟨xs, x, hq, hx⟩ := hg
    obtain ⟨its, rv, p, hz⟩ := I.list hq
    obtain ⟨u, hu, ru⟩ := rv.get hx
    obtain ⟨f0, f1, f2, f3, f4, f5⟩ := hf it (by simp)
    refine wpAny_pyNext_list_item st p.isList (x := u) (by simpa using hu) fun h' st' sb => ?_
    have I1 : Inv X pins σ H { s with heap := h' } := I.turned (t' := s.toks) (fun b o hb e => (sb.2 b hb).trans e) f0 f1 f3 f4 f5
    obtain ⟨o, e, c, d⟩ := id st'
    exact ⟨u, rfl, go_of (s := { s with heap := h' }) e c d (by decide) ⟨x, H, I1, ru, ⟨rfl, fun ys hy => by rw [I.list_inj hy hq]; exact hx⟩, st', fun b hb => (hf b hb).1⟩⟩
  done := by
    intro X hP hw hK hc i pins s σ H E I hf st hg
    subst hP hw hK
    obtain ⟨xs, hq, hx⟩ := hg
    obtain ⟨its, rv, p, hz⟩ := I.list hq
    obtain ⟨f0, f1, f2, f3, f4, f5⟩ := hf it (by simp)
    have hl := rv.length
    exact wpAny_pyNext_list_end (I.ok.hd hc) st p.isList (by simp; omega) fun h' eb => ⟨rfl, I.turned (t' := s.toks) (fun b o hb e => eb b o hb e) f0 f1 f3 f4 f5⟩
  self := fun _ _ _ _ _ st h => wpAny_pyIter_listiter st h
theorem turn_range {P : Program} {w : World} {K : PySem.W.Frag} {tg : Expr} (it : Addr) (lo : Int) (n : Nat) : Turn P w K tg (Itr lo n) [it] it (fun i h => IsRangeIter h it (lo + (i : Nat) * 1) ((n : Int) - (i : Nat)) 1) where
  mem := by simp
  obj := fun i h st b hb => by
    have e : b = it := by simpa using hb
    subst e
    exact ⟨_, st, fun v z => by
      have z' : Data.fields _ = Data.cell v := z
      cases z'⟩
  keep := fun i h h' st k => k it (by simp) _ st
  item := by
    intro X hP hw hK hc i pins s σ H E I hf st hg
    subst hP hw hK
    obtain ⟨f0, f1, f2, f3, f4, f5⟩ := hf it (by simp)
    have W := Walks.range (prog := X.prog) (w := X.w) (I.ok.hd hc) it lo 1 n
    refine W.item i s _ _ hg st fun v h' tk hv st' kk => ?_
    obtain ⟨t, rfl⟩ := hv
    have I1 : Inv X pins σ H { s with heap := h', toks := tk } := I.turned (fun b o hb e => kk b o (by simpa using hb) e) f0 f1 f3 f4 f5
    refine ⟨_, rfl, go_of (s := { s with heap := h', toks := tk }) (n := "range_iterator") st' rfl rfl (by decide) ⟨.int (lo + i), H, I1, ⟨t, ?_⟩, ⟨rfl, rfl⟩, st', fun b hb => (hf b hb).1⟩⟩
    rw [Int.mul_one]
  done := by
    intro X hP hw hK hc i pins s σ H E I hf st hg
    subst hP hw hK
    obtain ⟨f0, f1, f2, f3, f4, f5⟩ := hf it (by simp)
    exact wpAny_pyNext_range_end (I.ok.hd hc) st (by have : n ≤ i := hg; omega) fun h' eb => ⟨rfl, I.turned (t' := s.toks) (fun b o hb e => eb b o hb e) f0 f1 f3 f4 f5⟩
  self := fun _ _ _ _ _ st h => wpAny_pyIter_rangeiter st h
end L2
namespace L2
open PySem PySem.Spec PyProof.Rows
section
variable {X : Cx} {tg : Expr}
def iList (K : PySem.W.Frag) (tl : TE) : TI := fun σ H R => tl σ H fun x H1 => ∃ a, x = .ref a ∧ (∃ xs, SqL K H1 a xs) ∧ R (Itl K a) H1
theorem pi_list {l : Expr} {tl : TE} (hl : PE X l tl) : PI X tg l (iList X.K tl) := by
  intro pins s σ H R I h
  refine thn (hl pins s σ H _ I h) fun v s1 ⟨x, H1, I1, r1, q1⟩ => ?_
  obtain ⟨a, e, ⟨xs, hq⟩, q⟩ := q1
  subst e
  cases r1
  obtain ⟨its, rv, p, hz⟩ := I1.list hq
  refine wpAny_pyIter_list p.isList ?_
  refine ⟨s1.heap.objs.size, [s1.heap.objs.size], _, _, H1, rfl, I1.kept (t' := s1.toks) fun b o e => Heap.get?_push_of_some _ e, turn_list a _, ⟨_, Heap.get?_push_size _ rfl, rfl, rfl⟩, fun b hb => ?_, q⟩
  have e : b = s1.heap.objs.size := by simpa using hb
  subst e
  exact I1.fpOk (Nat.le_refl _) (I1.hok.fresh (Nat.le_refl _))
theorem range_it {pins : List (Addr × Obj)} {σ : St} {H : Hp} {s : Shared} {R : It → Hp → Prop} {E : Value → Shared → Prop} {lo hi : Int} {t u v : Tok} {tk : Nat} (I : Inv X pins σ H s) (h1 : -(2 ^ 62) ≤ lo) (h2 : lo < 2 ^ 62) (h3 : -(2 ^ 62) ≤ hi) (h4 : hi < 2 ^ 62)
    (q : R (Itr lo (hi - lo).toNat) H) : wpAny (model X.prog X.w) X.A (pyIter (.ref s.heap.objs.size)) (PIE X pins σ tg R) E { s with heap := s.heap.push { cls := .type "range", data := .fields #[.int lo t, .int hi u, .int 1 v] }, toks := tk } := by
  refine wpAny_pyIter_range (IsRange.new ..) (small_one h1 h2 h3 h4) ?_
  have I1 : Inv X pins σ H { s with heap := s.heap.push { cls := .type "range", data := .fields #[.int lo t, .int hi u, .int 1 v] }, toks := tk } := I.kept fun b o e => Heap.get?_push_of_some _ e
  refine ⟨(s.heap.push { cls := .type "range", data := .fields #[.int lo t, .int hi u, .int 1 v] }).objs.size, [(s.heap.push { cls := .type "range", data := .fields #[.int lo t, .int hi u, .int 1 v] }).objs.size], _, _, H, rfl,
    I1.kept (t' := tk) fun b o e => Heap.get?_push_of_some _ e, turn_range _ lo (hi - lo).toNat, ?_, fun b hb => ?_, q⟩
  · have e1 : lo + ((0 : Nat) : Int) * 1 = lo := by simp
    have e2 : (((hi - lo).toNat : Nat) : Int) - ((0 : Nat) : Int) = Builtin.Range.rangeSize lo hi 1 := by rw [rangeSize_one]; split <;> omega
    show IsRangeIter _ _ (lo + ((0 : Nat) : Int) * 1) ((((hi - lo).toNat : Nat) : Int) - ((0 : Nat) : Int)) 1
    rw [e1, e2]
    exact Heap.get?_push_size _ rfl
  · have e : b = (s.heap.push { cls := .type "range", data := .fields #[.int lo t, .int hi u, .int 1 v] }).objs.size := by simpa using hb
    subst e
    exact I1.fpOk (Nat.le_refl _) (I1.hok.fresh (Nat.le_refl _))
def iRng1 (ta : TA) : TI := fun σ H R => ta σ H fun vs H1 => ∃ j : Int, vs = [.int j] ∧ -(2 ^ 62) ≤ j ∧ j < 2 ^ 62 ∧ R (Itr 0 j.toNat) H1
def iRng2 (ta : TA) : TI := fun σ H R => ta σ H fun vs H1 => ∃ i j : Int, vs = [.int i, .int j] ∧ (-(2 ^ 62) ≤ i ∧ i < 2 ^ 62 ∧ -(2 ^ 62) ≤ j ∧ j < 2 ^ 62) ∧ R (Itr i (j - i).toNat) H1
theorem pi_range1 {a : Expr} {ta : TA} {p pos : Pos} (hg : Gl X "range") (hm : X.mg "range" = none) (ha : PA X [a] ta) (hs : starEach [a] X.env = [(false, eval a X.env)] := by rfl) : PI X tg (.Call (.Name "range" p) [a] [] pos) (iRng1 ta) := by
  intro pins s σ H R I h
  refine Call_ (ld_blt I hg hm boot_range (PyProof.Rows.callWith_type1 (thn (ha pos pins s σ H _ I h) fun us s1 ⟨vs, H1, I1, r1, q1⟩ => ?_) hs rfl))
  obtain ⟨j, e, q1, q2, q⟩ := q1
  subst e
  cases r1 with
  | cons r rr =>
    cases rr
    obtain ⟨t, rfl⟩ := r
    exact call_range_1 (range_it I1 (by omega) (by omega) q1 q2 (by simpa using q))
theorem pi_range2 {a b : Expr} {ta : TA} {p pos : Pos} (hg : Gl X "range") (hm : X.mg "range" = none) (ha : PA X [a, b] ta) (hs : starEach [a, b] X.env = [(false, eval a X.env), (false, eval b X.env)] := by rfl) (hs2 : starEach [b] X.env = [(false, eval b X.env)] := by rfl) :
    PI X tg (.Call (.Name "range" p) [a, b] [] pos) (iRng2 ta) := by
  intro pins s σ H R I h
  refine Call_ (ld_blt I hg hm boot_range (PyProof.Rows.callWith_type1 (thn (ha pos pins s σ H _ I h) fun us s1 ⟨vs, H1, I1, r1, q1⟩ => ?_) (by rw [hs, hs2]) (by rw [hs2]; rfl)))
  obtain ⟨i, j, e, ⟨q1, q2, q3, q4⟩, q⟩ := q1
  subst e
  cases r1 with
  | cons r rr =>
    cases rr with
    | cons r' rr =>
      cases rr
      obtain ⟨t, rfl⟩ := r
      obtain ⟨t', rfl⟩ := r'
      exact call_range_2 (range_it I1 q1 q2 q3 q4 q)
def tFor (wi : TI) (g : TG) (tb : TS) : TS := fun D σ H => wi σ H fun J H1 => ∃ W : Nat → Nat → St → Hp → Prop, (∃ m, W 0 m σ H1) ∧ ∀ i m σ H, W i m σ H →
  (J.stop i H ∧ D.nx σ H) ∨ (J.go i H ∧ ∃ N : St → Hp → Prop, (∀ σ' H', N σ' H' → ∃ m', m' < m ∧ W (i + 1) m' σ' H') ∧ ∀ x H', J.yld i H x H' → g x σ H' fun σ2 H2 => tb { D with nx := N, ct := N, bk := D.nx } σ2 H2)
def pinsAt (fp : List Addr) (h : Heap) : List (Addr × Obj) := fp.filterMap fun b => (h.get? b).map fun o => (b, o)
theorem mem_pinsAt {fp : List Addr} {h : Heap} {b : Addr} {o : Obj} (hb : b ∈ fp) (e : h.get? b = some o) : (b, o) ∈ pinsAt fp h := List.mem_filterMap.mpr ⟨b, hb, by rw [e]; rfl⟩
theorem of_pinsAt {fp : List Addr} {h : Heap} {p : Addr × Obj} (hp : p ∈ pinsAt fp h) : p.1 ∈ fp ∧ h.get? p.1 = some p.2 := by
  obtain ⟨b, hb, e⟩ := List.mem_filterMap.mp hp
  cases q : h.get? b with
  | none => rw [q] at e; cases e
  | some o =>
    rw [q] at e
    have e' : (b, o) = p := Option.some.inj e
    subst e'
    exact ⟨hb, q⟩
theorem Inv.pinned {pins : List (Addr × Obj)} {σ : St} {H : Hp} {s : Shared} {fp : List Addr} (I : Inv X pins σ H s) (hf : ∀ b ∈ fp, FpOk X pins H b) (ho : ∀ b ∈ fp, ∃ o, s.heap.get? b = some o ∧ ∀ v, o.data ≠ .cell v) : Inv X (pins ++ pinsAt fp s.heap) σ H s :=
  I.pins_of fun p hp => (List.mem_append.mp hp).elim (fun z => I.pin p (List.mem_append_right _ z)) fun z => by
    obtain ⟨hb, e⟩ := of_pinsAt z
    obtain ⟨f0, f1, f2, _⟩ := hf p.1 hb
    obtain ⟨o, e', d⟩ := ho p.1 hb
    rw [e] at e'; cases e'
    exact ⟨e, f0, f1, f2, d⟩
theorem Inv.unpinned {pins pl : List (Addr × Obj)} {σ : St} {H : Hp} {s : Shared} (I : Inv X (pins ++ pl) σ H s) : Inv X pins σ H s := I.pins_of fun p hp => I.pin p (List.mem_append_right _ (List.mem_append_left _ hp))
theorem ps_for {iter : Expr} {body : List Stmt} {wi : TI} {g : TG} {tb : TS} {pos : Pos} (hp : PassesOwn (model X.prog X.w) X.A X.env X.xe) (hc : X.calm = true) (hi : PI X tg iter wi) (hg : PG X tg g) (hb : PSs X body tb)
    (hs : ∀ x, foldedSetIterable iter X.env x = pure x := by intro _; rfl) : PS X (.For tg iter body [] pos) (tFor wi g tb) := by
  intro pins s σ H D I h
  refine wpAny_For (thn (hi pins s σ H _ I h) fun v s1 h1 => thn h1 fun itv s2 h2 => ?_) hs
  obtain ⟨it, fp, tn, J, H2, e, I2, T, st2, f2, W, ⟨m0, w0⟩, turn⟩ := h2
  subst e
  -- what stays true of the iterator's objects through the loop
  have stat : ∀ {H' : Hp}, (∀ b ∈ fp, H' b = none) → ∀ b ∈ fp, FpOk X pins H' b := fun hn b hb => ⟨hn b hb, (f2 b hb).2⟩
  refine codeAny_forLoop_any (fun n s' => ∃ i σ' H', Inv X pins σ' H' s' ∧ tn i s'.heap ∧ (∀ b ∈ fp, H' b = none) ∧ W i n σ' H') ?_ m0 ⟨0, σ, H2, I2, st2, fun b hb => (f2 b hb).1, w0⟩
  rintro n s3 ⟨i, σ3, H3, I3, st3, fr3, w3⟩
  rcases turn i n σ3 H3 w3 with ⟨stop, qn⟩ | ⟨go, N, hN, step⟩
  · refine wpAny_passesOwn hp (thn (T.done X rfl rfl rfl hc i pins s3 σ3 H3 X.xe I3 (stat fr3) st3 stop) fun r s4 ⟨hr, I4⟩ => ?_)
    subst hr
    exact wpAny_execs_nil ⟨σ3, H3, I4, qn⟩
  · refine wpAny_passesOwn hp (thn (T.item X rfl rfl rfl hc i pins s3 σ3 H3 X.xe I3 (stat fr3) st3 go) fun r s4 ⟨u, hr, h4⟩ => ?_)
    subst hr
    refine wpAny_passesOwn hp (thn h4 fun _ s5 ⟨x, H5, I5, r5, y5, st5, fr5⟩ => ?_)
    have I5' := I5.pinned (stat fr5) (T.obj _ _ st5)
    refine wpAny_passesOwn hp (thn (hg _ s5 σ3 H5 x u _ I5' r5 (step x H5 y5)) fun _ s6 ⟨σ6, H6, I6, q6⟩ => ?_)
    refine wpAny_passesOwn hp (thn (hb _ s6 σ6 H6 _ I6 q6) fun f s7 q7 => ?_)
    have again : ∀ {σ7 : St} {H7 : Hp}, Inv X (pins ++ pinsAt fp s5.heap) σ7 H7 s7 → N σ7 H7 → ∃ m, m < n ∧ ∃ i σ' H', Inv X pins σ' H' s7 ∧ tn i s7.heap ∧ (∀ b ∈ fp, H' b = none) ∧ W i m σ' H' := fun {σ7 H7} I7 n7 => by
      obtain ⟨m', hm, w7⟩ := hN σ7 H7 n7
      refine ⟨m', hm, i + 1, σ7, H7, I7.unpinned, T.keep _ _ _ st5 fun b hb o e => (I7.pin (b, o) (List.mem_append_right _ (List.mem_append_right _ (mem_pinsAt hb e)))).1, fun b hb => ?_, w7⟩
      obtain ⟨o, e, d⟩ := T.obj _ _ st5 b hb
      exact (I7.pin (b, o) (List.mem_append_right _ (List.mem_append_right _ (mem_pinsAt hb e)))).2.1
    cases f with
    | next => obtain ⟨σ7, H7, I7, n7⟩ := q7; exact again I7 n7
    | cont => obtain ⟨σ7, H7, I7, n7⟩ := q7; exact again I7 n7
    | brk => obtain ⟨σ7, H7, I7, q7⟩ := q7; exact ⟨σ7, H7, I7.unpinned, q7⟩
    | ret v => obtain ⟨x7, σ7, H7, I7, r7, q7⟩ := q7; exact ⟨x7, σ7, H7, I7.unpinned, r7, q7⟩
end
end L2
namespace L2
open PySem PySem.Spec PyProof.Rows
abbrev R2 := V → V → Hp → VK → Prop
def OpR (X : Cx) (f : Value → Value → Sem Value) (r : R2) : Prop :=
  ∀ (pins : List (Addr × Obj)) (s : Shared) (σ : St) (H : Hp) (x y : V) (v u : Value) (Q : VK), Inv X pins σ H s → RelV x v → RelV y u → r x y H Q →
    wpAny (model X.prog X.w) X.A (f v u) (EP X pins σ Q) X.xe s
def CallR (X : Cx) (f : Value) (r : List V → Hp → VK → Prop) : Prop :=
  ∀ (pins : List (Addr × Obj)) (s : Shared) (σ : St) (H : Hp) (xs : List V) (us : List Value) (Q : VK), Inv X pins σ H s → Vals xs us → r xs H Q →
    wpAny (model X.prog X.w) X.A (call f us) (EP X pins σ Q) X.xe s
def tOp (r : R2) (ta tb : TE) : TE := fun σ H Q => ta σ H fun x H1 => tb σ H1 fun y H2 => r x y H2 Q
def rI (C : Int → Int → Prop) (g : Int → Int → V) : R2 := fun x y H Q => ∃ i j, x = .int i ∧ y = .int j ∧ C i j ∧ Q (g i j) H
def rI0 (g : Int → Int → V) : R2 := fun x y H Q => ∃ i j, x = .int i ∧ y = .int j ∧ Q (g i j) H
section
variable {X : Cx} {a b c : Expr} {ta tb tc : TE} {pos : Pos}
theorem binT (ha : PE X a ta) (hb : PE X b tb) {pins : List (Addr × Obj)} {s : Shared} {σ : St} {H : Hp} {R : V → V → Hp → Prop} (I : Inv X pins σ H s)
    (h : ta σ H fun x H1 => tb σ H1 fun y H2 => R x y H2) {Q : Value → Shared → Prop} {f : Value → Value → Sem Value}
    (hf : ∀ v u s2 x y H2, Inv X pins σ H2 s2 → RelV x v → RelV y u → R x y H2 → wpAny (model X.prog X.w) X.A (f v u) Q X.xe s2) :
    wpAny (model X.prog X.w) X.A (eval a X.env) (fun v s₁ => wpAny (model X.prog X.w) X.A (eval b X.env) (fun u s₂ => wpAny (model X.prog X.w) X.A (f v u) Q X.xe s₂) X.xe s₁) X.xe s := by
  refine thn (ha pins s σ H _ I h) fun v s1 ⟨x, H1, I1, r1, q1⟩ => ?_
  refine thn (hb pins s1 σ H1 _ I1 q1) fun u s2 ⟨y, H2, I2, r2, q2⟩ => ?_
  exact hf v u s2 x y H2 I2 r1 r2 q2
theorem pe_op {op : Operator} {r : R2} (ho : OpR X (binaryOp op) r) (ha : PE X a ta) (hb : PE X b tb) : PE X (.BinOp a op b pos) (tOp r ta tb) := by
  intro pins s σ H Q I h
  exact wpAny_BinOp (binT ha hb I h fun v u s2 x y H2 I2 rx ry q => ho pins s2 σ H2 x y v u Q I2 rx ry q)
theorem opI {f : Value → Value → Sem Value} {C : Int → Int → Prop} {g : Int → Int → Int}
    (rule : ∀ (i j : Int) (t u : Tok) (s : Shared) (Q : Value → Shared → Prop) (E : Value → Shared → Prop), C i j → Q (.int (g i j) s.toks) { s with toks := s.toks + 1 } → wpAny (model X.prog X.w) X.A (f (.int i t) (.int j u)) Q E s) :
    OpR X f (rI C fun i j => .int (g i j)) := by
  intro pins s σ H x y v u Q I rx ry h
  obtain ⟨i, j, rfl, rfl, hc, q⟩ := h
  obtain ⟨t, rfl⟩ := rx
  obtain ⟨t', rfl⟩ := ry
  exact rule i j t t' s _ _ hc ⟨.int (g i j), H, I.tok _, ⟨_, rfl⟩, q⟩
theorem opI0 {f : Value → Value → Sem Value} {g : Int → Int → Int}
    (rule : ∀ (i j : Int) (t u : Tok) (s : Shared) (Q : Value → Shared → Prop) (E : Value → Shared → Prop), Q (.int (g i j) s.toks) { s with toks := s.toks + 1 } → wpAny (model X.prog X.w) X.A (f (.int i t) (.int j u)) Q E s) :
    OpR X f (rI0 fun i j => .int (g i j)) := by
  intro pins s σ H x y v u Q I rx ry h
  obtain ⟨i, j, rfl, rfl, q⟩ := h
  obtain ⟨t, rfl⟩ := rx
  obtain ⟨t', rfl⟩ := ry
  exact rule i j t t' s _ _ ⟨.int (g i j), H, I.tok _, ⟨_, rfl⟩, q⟩
theorem opB0 {f : Value → Value → Sem Value} {g : Int → Int → Bool}
    (rule : ∀ (i j : Int) (t u : Tok) (s : Shared) (Q : Value → Shared → Prop) (E : Value → Shared → Prop), Q (.bool (g i j)) s → wpAny (model X.prog X.w) X.A (f (.int i t) (.int j u)) Q E s) :
    OpR X f (rI0 fun i j => .bl (g i j)) := by
  intro pins s σ H x y v u Q I rx ry h
  obtain ⟨i, j, rfl, rfl, q⟩ := h
  obtain ⟨t, rfl⟩ := rx
  obtain ⟨t', rfl⟩ := ry
  exact rule i j t t' s _ _ ⟨.bl (g i j), H, I, rfl, q⟩
def CDiv (i j : Int) : Prop := 0 < j ∧ j < 1073741824
theorem op_add : OpR X (binaryOp .Add) (rI0 fun i j => .int (i + j)) := opI0 fun _ _ _ _ _ _ _ q => add_int q
theorem op_sub : OpR X (binaryOp .Sub) (rI0 fun i j => .int (i - j)) := opI0 fun _ _ _ _ _ _ _ q => sub_int q
theorem op_fdiv : OpR X (binaryOp .FloorDiv) (rI CDiv fun i j => .int (i / j)) := opI fun i j _ _ _ _ _ hc q => by
  have h1 : (0 : Int) < j := hc.1
  have h2 : j < 1073741824 := hc.2
  exact floordiv_int (by omega) (by rw [Int.fdiv_eq_ediv_of_nonneg i (by omega)]; exact q) (.inl (PyProof.noPylong_small (by omega)))
theorem op_mod : OpR X (binaryOp .Mod) (rI (fun _ j => 0 < j) fun i j => .int (i % j)) := opI fun i j _ _ _ _ _ hc q => by
  have h1 : (0 : Int) < j := hc
  exact mod_int' (by omega) (by rw [Int.fmod_eq_emod_of_nonneg i (by omega)]; exact q)
end
def scal : V → V → Bool
  | .non, .non => true | .non, .int _ => true | .int _, .non => true | .non, .bl _ => true | .bl _, .non => true | .non, .str _ => true | .str _, .non => true
  | .int _, .int _ => true | .bl _, .bl _ => true | .str _, .str _ => true | .byt _, .byt _ => true
  | .int _, .str _ => true | .str _, .int _ => true | .bl _, .str _ => true | .str _, .bl _ => true
  | _, _ => false
def rEq : R2 := fun x y H Q => scal x y = true ∧ Q (.bl (decide (x = y))) H
def rNe : R2 := fun x y H Q => scal x y = true ∧ Q (.bl (!decide (x = y))) H
theorem dec_int {i j : Int} : decide (V.int i = V.int j) = (i == j) := by
  rw [Bool.eq_iff_iff]
  simp
theorem dec_bl {i j : Bool} : decide (V.bl i = V.bl j) = (i == j) := by
  rw [Bool.eq_iff_iff]
  simp
theorem dec_str {i j : Str} : decide (V.str i = V.str j) = (i == j) := by
  rw [Bool.eq_iff_iff]
  simp
theorem dec_byt {i j : Array UInt8} : decide (V.byt i = V.byt j) = (i.toList == j.toList) := by
  rw [Bool.eq_iff_iff]
  cases i
  cases j
  simp
section
variable {X : Cx} {a b c : Expr} {ta tb tc : TE} {pos : Pos}
theorem fin_bl {pins : List (Addr × Obj)} {σ : St} {H : Hp} {s : Shared} {Q : VK} {k k' : Bool} (I : Inv X pins σ H s) (q : Q (.bl k) H) (e : k = k') : EP X pins σ Q (.bool k') s := by
  subst e
  exact ⟨.bl k, H, I, rfl, q⟩
theorem op_eq : OpR X (compareOp .Eq) rEq := by
  intro pins s σ H x y v u Q I rx ry h
  obtain ⟨hs, q⟩ := h
  cases x with
  | non =>
    cases rx
    cases y with
    | non => cases ry; exact PySem.EqNone.eq_none_none (fin_bl I q (by simp))
    | bl j => cases ry; exact PySem.EqNone.eq_none_bool (fin_bl I q (by simp))
    | int j => obtain ⟨t', rfl⟩ := ry; exact PySem.EqNone.eq_none_int (fin_bl I q (by simp))
    | str j => obtain ⟨t', rfl⟩ := ry; exact PySem.EqNone.eq_none_str (fin_bl I q (by simp))
    | _ => exact absurd (show false = true from hs) Bool.false_ne_true
  | bl i =>
    cases rx
    cases y with
    | non => cases ry; exact PySem.EqNone.eq_bool_none (fin_bl I q (by simp))
    | bl j => cases ry; exact eq_bool (fin_bl I q dec_bl)
    | str j => obtain ⟨t', rfl⟩ := ry; exact PySem.EqMixed.eq_bool_str (fin_bl I q (by simp))
    | _ => exact absurd (show false = true from hs) Bool.false_ne_true
  | int i =>
    obtain ⟨t, rfl⟩ := rx
    cases y with
    | non => cases ry; exact PySem.EqNone.eq_int_none (fin_bl I q (by simp))
    | int j => obtain ⟨t', rfl⟩ := ry; exact eq_int (fin_bl I q dec_int)
    | str j => obtain ⟨t', rfl⟩ := ry; exact PySem.EqMixed.eq_int_str (fin_bl I q (by simp))
    | _ => exact absurd (show false = true from hs) Bool.false_ne_true
  | str i =>
    obtain ⟨t, rfl⟩ := rx
    cases y with
    | non => cases ry; exact PySem.EqNone.eq_str_none (fin_bl I q (by simp))
    | bl j => cases ry; exact PySem.EqMixed.eq_str_bool (fin_bl I q (by simp))
    | int j => obtain ⟨t', rfl⟩ := ry; exact PySem.EqMixed.eq_str_int (fin_bl I q (by simp))
    | str j => obtain ⟨t', rfl⟩ := ry; exact eq_str (fin_bl I q dec_str)
    | _ => exact absurd (show false = true from hs) Bool.false_ne_true
  | byt i =>
    obtain ⟨t, rfl⟩ := rx
    cases y with
    | byt j => obtain ⟨t', rfl⟩ := ry; exact PySem.W.eq_bytes (fin_bl I q dec_byt)
    | _ => exact absurd (show false = true from hs) Bool.false_ne_true
  | _ => cases y <;> exact absurd (show false = true from hs) Bool.false_ne_true
theorem op_ne : OpR X (compareOp .NotEq) rNe := by
  intro pins s σ H x y v u Q I rx ry h
  obtain ⟨hs, q⟩ := h
  cases x with
  | non =>
    cases rx
    cases y with
    | non => cases ry; exact PySem.EqNone.ne_none_none (fin_bl I q (by simp))
    | bl j => cases ry; exact PySem.EqNone.ne_none_bool (fin_bl I q (by simp))
    | int j => obtain ⟨t', rfl⟩ := ry; exact PySem.EqNone.ne_none_int (fin_bl I q (by simp))
    | str j => obtain ⟨t', rfl⟩ := ry; exact PySem.EqNone.ne_none_str (fin_bl I q (by simp))
    | _ => exact absurd (show false = true from hs) Bool.false_ne_true
  | bl i =>
    cases rx
    cases y with
    | non => cases ry; exact PySem.EqNone.ne_bool_none (fin_bl I q (by simp))
    | bl j => cases ry; exact ne_bool (fin_bl I q (congrArg not dec_bl))
    | str j => obtain ⟨t', rfl⟩ := ry; exact PySem.EqMixed.ne_bool_str (fin_bl I q (by simp))
    | _ => exact absurd (show false = true from hs) Bool.false_ne_true
  | int i =>
    obtain ⟨t, rfl⟩ := rx
    cases y with
    | non => cases ry; exact PySem.EqNone.ne_int_none (fin_bl I q (by simp))
    | int j => obtain ⟨t', rfl⟩ := ry; exact ne_int (fin_bl I q (congrArg not dec_int))
    | str j => obtain ⟨t', rfl⟩ := ry; exact PySem.EqMixed.ne_int_str (fin_bl I q (by simp))
    | _ => exact absurd (show false = true from hs) Bool.false_ne_true
  | str i =>
    obtain ⟨t, rfl⟩ := rx
    cases y with
    | non => cases ry; exact PySem.EqNone.ne_str_none (fin_bl I q (by simp))
    | bl j => cases ry; exact PySem.EqMixed.ne_str_bool (fin_bl I q (by simp))
    | int j => obtain ⟨t', rfl⟩ := ry; exact PySem.EqMixed.ne_str_int (fin_bl I q (by simp))
    | str j => obtain ⟨t', rfl⟩ := ry; exact ne_str (fin_bl I q (congrArg not dec_str))
    | _ => exact absurd (show false = true from hs) Bool.false_ne_true
  | byt i =>
    obtain ⟨t, rfl⟩ := rx
    cases y with
    | byt j => obtain ⟨t', rfl⟩ := ry; exact PySem.W.ne_bytes (fin_bl I q (congrArg not dec_byt))
    | _ => exact absurd (show false = true from hs) Bool.false_ne_true
  | _ => cases y <;> exact absurd (show false = true from hs) Bool.false_ne_true
theorem op_lt : OpR X (compareOp .Lt) (rI0 fun i j => .bl (decide (i < j))) := opB0 fun _ _ _ _ _ _ _ q => lt_int q
theorem op_gt : OpR X (compareOp .Gt) (rI0 fun i j => .bl (decide (j < i))) := opB0 fun _ _ _ _ _ _ _ q => gt_int q
theorem op_ge : OpR X (compareOp .GtE) (rI0 fun i j => .bl (decide (j ≤ i))) := opB0 fun _ _ _ _ _ _ _ q => ge_int q
theorem nomark (b : Expr) {op : CmpOp} (h : op ≠ .In := by decide) (h2 : op ≠ .NotIn := by decide) : behindInMarks op b = false := by
  have e1 : (op == CmpOp.In) = false := by cases op <;> first | rfl | exact absurd rfl h
  have e2 : (op == CmpOp.NotIn) = false := by cases op <;> first | rfl | exact absurd rfl h2
  cases b <;> simp [behindInMarks, e1, e2]
theorem pe_cmpR {op : CmpOp} {r : R2} (ho : OpR X (compareOp op) r) (ha : PE X a ta) (hb : PE X b tb) (hm : behindInMarks op b = false) : PE X (.Compare a [op] [b] pos) (tOp r ta tb) := by
  intro pins s σ H Q I h
  exact wpAny_Compare1 (binT ha hb I h fun v u s2 x y H2 I2 rx ry q => ho pins s2 σ H2 x y v u Q I2 rx ry q) hm
def tTest (t : TE) : TT := fun σ H Q => t σ H fun x H' => ∃ k, x = .bl k ∧ Q k H'
theorem pt_cmpR {op : CmpOp} {r : R2} (ho : OpR X (compareOp op) r) (ha : PE X a ta) (hb : PE X b tb) (hm : behindInMarks op b = false) : PT X (.Compare a [op] [b] pos) (tTest (tOp r ta tb)) := by
  intro pins s σ H Q I h
  refine wpAny_isTrue_Compare1 (thn (ha pins s σ H _ I h) fun v s1 ⟨x, H1, I1, r1, q1⟩ => thn (hb pins s1 σ H1 _ I1 q1) fun u s2 ⟨y, H2, I2, r2, q2⟩ =>
    thn (ho pins s2 σ H2 x y v u _ I2 r1 r2 q2) fun c s3 ⟨z, H3, I3, r3, k, e, q3⟩ => ?_) hm
  subst e
  cases r3
  exact wpAny_truthy_bool ⟨H3, I3, q3⟩
theorem line63 : (sizeLine : Nat) < 2 ^ 63 := by rw [sizeLine_eq]; decide
theorem vals1 {x : V} {us : List Value} (r : Vals [x] us) : ∃ u, us = [u] ∧ RelV x u := by
  cases r with
  | cons r1 r2 => cases r2; exact ⟨_, rfl, r1⟩
theorem vals2 {x y : V} {us : List Value} (r : Vals [x, y] us) : ∃ u w', us = [u, w'] ∧ RelV x u ∧ RelV y w' := by
  cases r with
  | cons r1 r2 =>
    cases r2 with
    | cons r3 r4 => cases r4; exact ⟨_, _, rfl, r1, r3⟩
end
end L2
namespace L2
open PySem PySem.Spec PyProof.Rows
structure ObjM (h : Heap) (x dx C : Addr) (mA : Str → Option Value) : Prop where
  obj : h.get? x = some (PySem.W.instObj C dx)
  ns : h.Ns1 dx mA
  ne : dx ≠ x
theorem lookIn_ns {h : Heap} {dx : Addr} {mA : Str → Option Value} (n : h.Ns1 dx mA) : ∃ od, h.get? dx = some od ∧ ∀ name, PySem.W.lookIn name od = some (mA name) := by
  obtain ⟨o, es, ep, ho, hd, hk, _, hm⟩ := n
  refine ⟨o, ho, fun name => ?_⟩
  have e := hm name
  unfold nsFind findBy at e
  rw [← Array.find?_toList] at e
  unfold PySem.W.lookIn
  rw [hd]
  dsimp only
  split
  · rename_i y q
    rw [q] at e
    exact congrArg some e
  · rename_i q
    rw [q] at e
    have a : es.toList.any (·.refKey) = false := by
      rw [List.any_eq_false]
      intro y hy
      obtain ⟨z, t, hkey⟩ := hk y (Array.mem_toList_iff.mp hy)
      simp [DictEntry.refKey, hkey]
    have a' : ¬ es.toList.any (·.refKey) = true := by rw [a]; exact Bool.false_ne_true
    rw [if_neg a']
    exact congrArg some e
theorem ObjM.look {h : Heap} {x dx C : Addr} {mA : Str → Option Value} (I : ObjM h x dx C mA) : ∃ od, PySem.W.InstAt h x (PySem.W.instObj C dx) C (some od) ∧ ∀ name, PySem.W.lookIn name od = some (mA name) :=
  let ⟨od, ho, hl⟩ := lookIn_ns I.ns
  ⟨od, ⟨I.obj, rfl, rfl, ho⟩, hl⟩
section
variable {prog : Program} {w : World} {A : Around} {E : Value → Shared → Prop} {s : Shared} {K : PySem.W.Frag} {x dx C f : Addr} {mA : Str → Option Value} {name : Str} {v : Value}
end
section
variable {P : Program} {w : World} {H H' : Hp} {h h' : Heap} {a C dx : Addr} {fs fs' : List (Str × V)}
theorem ins_get (hok : HOk P w H h) (e : H a = some (.ins C dx fs)) : ∃ mA, ObjM h a dx C mA ∧ (∀ f, RelO (fs.lookup f) (mA f)) ∧ PySem.Within mA (fs.map (·.1)) ∧ fs.length ≤ 1000 ∧ H dx = some (.own a) := by
  obtain ⟨d, z, ne, ob, mA, n, r, q⟩ := (show ObjOk P w H h a (.ins C dx fs) from hok a _ e)
  exact ⟨mA, ⟨ob, n, ne⟩, r, q, z, d⟩
end
structure Cls (K : PySem.W.Frag) (C : Addr) : Prop where
  pg : PySem.W.plainGet K C Str.empty = true
  hd : PySem.W.hasDictIn K C = true
  po : PySem.W.plainOver K C = true
  sa : PySem.W.findIn K (.ref C) "__setattr__" = some (some (.builtin "object.__setattr__"))
theorem Cls.get {K : PySem.W.Frag} {C : Addr} (c : Cls K C) (f : Str) : PySem.W.plainGet K C f = true := c.pg
section
variable {X : Cx} {pins : List (Addr × Obj)} {σ : St} {H : Hp} {s : Shared} {a C dx : Addr} {fs : List (Str × V)} {f : Str} {v : V} {A : Around} {E : Value → Shared → Prop}
end
section
variable {X : Cx} {o e value : Expr} {f : Str} {pos pos' tpos : Pos} {ta tv : TE}
end
section
variable {X : Cx} {pins : List (Addr × Obj)} {σ : St} {H : Hp} {s : Shared} {A : Around} {E : Value → Shared → Prop} {Q : Value → Shared → Prop} {c : Value} {b : Bool}
inductive TyOf (K : PySem.W.Frag) (H : Hp) : V → Value → Prop where
  | non : TyOf K H .non (.type "NoneType")
  | bl (x : Bool) : TyOf K H (.bl x) (.type "bool")
  | int (i : Int) : TyOf K H (.int i) (.type "int")
  | str (x : Str) : TyOf K H (.str x) (.type "str")
  | flt (x : UInt64) : TyOf K H (.flt x) (.type "float")
  | lst {a : Addr} {xs : List V} (e : H a = some (.lst xs)) : TyOf K H (.ref a) (.type "list")
  | frz {a : Addr} {o : Obj} {xs : List V} (e : H a = some (.frz o (.lst xs))) : TyOf K H (.ref a) (.type "list")
  | tup {a : Addr} {xs : List V} (e : H a = some (.tup xs)) : TyOf K H (.ref a) (.type "tuple")
  | dK {a : Addr} {kvs : List (Key × V)} (e : H a = some (.dK kvs)) : TyOf K H (.ref a) (.type "dict")
  | dT {a : Addr} {kvs : List (List Key × V)} (e : H a = some (.dT kvs)) : TyOf K H (.ref a) (.type "dict")
  | ins {a C dx : Addr} {fs : List (Str × V)} (e : H a = some (.ins C dx fs)) (cl : Cls K C) (ha : PySem.W.findIn K (.ref C) "__class__" = some (some (.builtin "object.__class__")))
      (hn : PySem.W.specialIn K (.builtin "object.__class__") "__get__" = some (some (.builtin "getset_descriptor.__get__"))) (htk : PySem.W.takesIn K (.builtin "object.__class__") = some true)
      (hm : PySem.W.mroIn K C (.type "object") = some true) : TyOf K H (.ref a) (.ref C)
theorem isinst_ok {x : V} {u t : Value} (I : Inv X pins σ H s) (rx : RelV x u) (ty : TyOf X.K H x t) (e : PySem.W.kitOne X.K t c = some b) (h : ∀ tk, Q (.bool b) { s with toks := tk }) :
    wpAny (model X.prog X.w) A (call (.builtin "isinstance") [u, c]) Q E s := by
  cases ty with
  | non => cases (show u = Value.none from rx); exact PySem.W.kia_one PySem.W.kitx_none I.kIn True.intro e (fun z => nomatch z) h
  | bl y => cases (show u = Value.bool y from rx); exact PySem.W.kia_one PySem.W.kitx_bool I.kIn True.intro e (fun z => nomatch z) h
  | int i => obtain ⟨t, q⟩ := (show ∃ t, u = Value.int i t from rx); cases q; exact PySem.W.kia_one PySem.W.kitx_int I.kIn True.intro e (fun z => nomatch z) h
  | str y => obtain ⟨t, q⟩ := (show ∃ t, u = Value.str y t from rx); cases q; exact PySem.W.kia_one PySem.W.kitx_str I.kIn True.intro e (fun z => nomatch z) h
  | flt y => obtain ⟨t, q⟩ := (show ∃ t, u = Value.float y t from rx); cases q; exact PySem.W.kia_one PySem.W.kitx_float I.kIn True.intro e (fun z => nomatch z) h
  | @lst a xs ea =>
    cases (show u = Value.ref a from rx)
    obtain ⟨_, _, n, _, h1⟩ := (show ObjOk X.prog X.w H s.heap a (.lst xs) from I.hok a _ ea)
    exact PySem.W.kia_one PySem.W.kitx_list I.kIn ⟨_, h1, rfl⟩ e (fun z => nomatch z) h
  | @frz a ob xs ea =>
    cases (show u = Value.ref a from rx)
    obtain ⟨_, _, _, n, _, h1⟩ := (show ObjOk X.prog X.w H s.heap a (.frz ob (.lst xs)) from I.hok a _ ea)
    exact PySem.W.kia_one PySem.W.kitx_list I.kIn ⟨_, h1, rfl⟩ e (fun z => nomatch z) h
  | @tup a xs ea =>
    cases (show u = Value.ref a from rx)
    obtain ⟨_, _, _, p⟩ := (show ObjOk X.prog X.w H s.heap a (.tup xs) from I.hok a _ ea)
    obtain ⟨o, h1, h2, _⟩ := p
    exact PySem.W.kia_one PySem.W.kitx_tuple I.kIn ⟨o, h1, h2⟩ e (fun z => nomatch z) h
  | @dK a kvs ea =>
    cases (show u = Value.ref a from rx)
    obtain ⟨_, _, vs, _, p⟩ := (show ObjOk X.prog X.w H s.heap a (.dK kvs) from I.hok a _ ea)
    obtain ⟨o, es, ep, h1, h2, _⟩ := p
    exact PySem.W.kia_one PySem.W.kitx_dict I.kIn ⟨o, h1, h2.1⟩ e (fun z => nomatch z) h
  | @dT a kvs ea =>
    cases (show u = Value.ref a from rx)
    obtain ⟨_, _, xs, _, o, es, ep, h1, h2, _⟩ := (show ObjOk X.prog X.w H s.heap a (.dT kvs) from I.hok a _ ea)
    exact PySem.W.kia_one PySem.W.kitx_dict I.kIn ⟨o, h1, h2.1⟩ e (fun z => nomatch z) h
  | @ins a C dx fs ea cl ha hn htk hm =>
    cases (show u = Value.ref a from rx)
    obtain ⟨mA, O, _⟩ := ins_get I.hok ea
    obtain ⟨od, J, _⟩ := O.look
    exact PySem.W.kia_one (PySem.W.kitx_own (cl.get _) cl.hd ha hn htk hm) I.kIn J e (fun z => nomatch z) h
end
end L2
namespace L2
open PySem PySem.Spec PyProof.Rows
structure Room (k : Nat) (A : Around) : Prop where
  hd : A.handled = none
  dp : A.depth + 3 * k + 5 < recursionLimit
  un : A.units + 16 * k + 200 < cLine
theorem Room.mono {j k : Nat} {A : Around} (r : Room k A) (h : j ≤ k) : Room j A := ⟨r.hd, by have := r.dp; omega, by have := r.un; omega⟩
theorem Room.deeper {k : Nat} {A : Around} (r : Room (k + 1) A) (env : Env) : Room k (A.deeper env) :=
  ⟨r.hd, by have := r.dp; show A.depth + 1 + 3 * k + 5 < _; omega, by have := r.un; show A.units + 3 + 16 * k + 200 < _; omega⟩
theorem Room.depth {k : Nat} {A : Around} (r : Room k A) : A.depth < recursionLimit := by have := r.dp; omega
theorem Room.units {k : Nat} {A : Around} (r : Room k A) : A.units + 64 < cLine := by have := r.un; omega
def tNil : TA := fun _ H Q => Q [] H
def tCons (ta : TE) (tr : TA) : TA := fun σ H Q => ta σ H fun x H1 => tr σ H1 fun xs H2 => Q (x :: xs) H2
section
variable {X : Cx} {e : Expr} {es : List Expr} {te : TE} {t : TA} {pos : Pos}
theorem pa_nil : PA X [] tNil := fun _ _ _ _ H Q I h => Calls.spliced_nil ⟨[], H, I, .nil, h⟩
theorem pa_cons (ha : PE X e te) (hr : PA X es t) (hs : starEach (e :: es) X.env = (false, eval e X.env) :: starEach es X.env := by rfl) : PA X (e :: es) (tCons te t) := by
  intro pos pins s σ H Q I h
  rw [hs]
  show wpAny _ _ (spliced ((false, eval e X.env) :: backTo pos (starEach es X.env))) _ _ s
  refine Calls.spliced_cons (thn (ha pins s σ H _ I h) fun u s1 ⟨x, H1, I1, r1, q1⟩ => ?_)
  exact thn (hr pos pins s1 σ H1 _ I1 q1) fun us s2 ⟨xs, H2, I2, r2, q2⟩ => ⟨x :: xs, H2, I2, .cons r1 r2, q2⟩
def tTup (t : TA) : TE := fun σ H Q => t σ H fun xs H1 => xs.length ≤ sizeLine ∧ ∀ p, H1 p = none → Q (.ref p) (upd H1 p (.tup xs))
def tLst (t : TA) : TE := fun σ H Q => t σ H fun xs H1 => xs.length ≤ sizeLine ∧ ∀ p, H1 p = none → Q (.ref p) (upd H1 p (.lst xs))
theorem pe_tup {x1} (h : PA X es t) : PE X (.Tuple es x1 pos) (tTup t) := by
  intro pins s σ H Q I hq
  refine wpAny_Tuple_spliced (thn (h pos pins s σ H _ I hq) fun us s1 ⟨xs, H1, I1, r, z, q⟩ => ⟨by rw [← r.length]; exact z, ?_⟩)
  have hf : H1 s1.heap.objs.size = none := I1.hok.fresh (Nat.le_refl _)
  refine ⟨.ref s1.heap.objs.size, upd H1 s1.heap.objs.size (.tup xs), I1.laid (t' := s1.toks) (fun b u e => Heap.get?_push_of_some _ e) (Nat.le_refl _) ?_, rfl, q _ hf⟩
  exact ⟨z, us, r, ⟨_, Heap.get?_push_size _ rfl, rfl, _, rfl⟩⟩
theorem pe_lst (h : PA X es t) : PE X (.List es pos) (tLst t) := by
  intro pins s σ H Q I hq
  refine wpAny_List_spliced (thn (h pos pins s σ H _ I hq) fun us s1 ⟨xs, H1, I1, r, z, q⟩ => ⟨by rw [← r.length]; exact z, ?_⟩)
  have hf : H1 s1.heap.objs.size = none := I1.hok.fresh (Nat.le_refl _)
  refine ⟨.ref s1.heap.objs.size, upd H1 s1.heap.objs.size (.lst xs), I1.laid (t' := s1.toks) (fun b u e => Heap.get?_push_of_some _ e) (Nat.le_refl _) ?_, rfl, q _ hf⟩
  exact ⟨z, us, 0, r, Heap.get?_push_size _ rfl⟩
end
abbrev Sp := List V → Hp → VK → XK → Prop
abbrev CXT := List Env → Hp → Shared → XK → Value → Shared → Prop
structure Env0 (P : Program) (w : World) (K : PySem.W.Frag) (mg : Str → Option Value) (base : Heap) (A : Around) (outer : List Env) (s : Shared) (H : Hp) : Prop where
  frames : A.frames = some outer
  mod : Mod K mg base
  bs : ∀ b o, base.get? b = some o → s.heap.get? b = some o ∧ H b = none
  bsz : base.objs.size ≤ s.heap.objs.size
  funs : s.heap.FunFrames base outer
  frf : ∀ b ∈ frs outer, H b = none
  hok : HOk P w H s.heap
  bare : AllBare s.gens
def CE (outer : List Env) (P : Program) (w : World) (H : Hp) (s : Shared) (Q : VK) (u : Value) (s' : Shared) : Prop :=
  ∃ v H', s'.os = s.os ∧ AllBare s'.gens ∧ Un (frs outer) [] H H' s.heap s'.heap ∧ HOk P w H' s'.heap ∧ RelV v u ∧ Q v H'
def CR (CX : CXT) (outer : List Env) (P : Program) (w : World) (H : Hp) (s : Shared) (Q : VK) (E : XK) (r : Result) (s' : Shared) : Prop :=
  match r with
  | .ok (.ret u) => CE outer P w H s Q u s'
  | .ok _ => False
  | .error e => CX outer H s E e s'
structure FnOk (P : Program) (w : World) (K : PySem.W.Frag) (mg : Str → Option Value) (base : Heap) (CX : CXT) (k : Nat) (f : Addr) (fd : FuncData) (ps : List Str) (sp : Sp) : Prop where
  len : ∀ vs H Q E, sp vs H Q E → vs.length = ps.length
  run : ∀ (A : Around) (outer : List Env) (s : Shared) (H : Hp) (args : Args) (us : List Value) (vs : List V) (Q : VK) (E : XK), Room k A → Env0 P w K mg base A outer s H → BindsTo s fd args (ps.zip us) → Vals vs us → sp vs H Q E →
    codeAny (model P w) A (.call (.ref f) args) (CR CX outer P w H s Q E) s
section
variable {X : Cx} {pins : List (Addr × Obj)} {σ : St} {H : Hp} {s s' : Shared}
theorem Inv.env0 (I : Inv X pins σ H s) : Env0 X.prog X.w X.K X.mg X.base X.A X.stack s H :=
  ⟨I.ok.frames, I.ok.mod, I.bs, Nat.le_trans I.ok.bsz I.sz, I.stack, I.stkFree, I.hok, I.bare⟩
theorem Inv.after {Q : VK} {u : Value} (I : Inv X pins σ H s) (h : CE X.stack X.prog X.w H s Q u s') : EP X pins σ Q u s' := by
  obtain ⟨v, H', os, bare, un, hok, r, q⟩ := h
  obtain ⟨hh, g, d, t, os'⟩ := s'
  obtain rfl : os' = s.os := os
  exact ⟨v, H', I.call (h' := hh) (g' := g) (d' := d) (t' := t) (ch := []) un hok bare (fun b z => absurd z (by simp)), r, q⟩
end
def tCall (sp : Sp) (dvs : List V) (E : XK) (t : TA) : TE := fun σ H Q => t σ H fun vs H1 => sp (vs ++ dvs) H1 Q E
def Binds (K : PySem.W.Frag) (fd : FuncData) (ps : List Str) (ds : List Value) : Prop :=
  ∀ (s : Shared) (us : List Value), K.In s.heap → (us ++ ds).length = ps.length → BindsTo s fd ⟨us, []⟩ (ps.zip (us ++ ds))
theorem Binds.all {K : PySem.W.Frag} {fd : FuncData} {ps : List Str} (h : ∀ us : List Value, us.length = ps.length → bindArgs fd ⟨us, []⟩ = pure (ps.zip us)) : Binds K fd ps [] := fun s us _ hl => by
  rw [List.append_nil] at hl ⊢
  exact .of_eq (h us hl)
def Passes (CX : CXT) (X : Cx) (E : XK) : Prop := ∀ (pins : List (Addr × Obj)) (σ : St) (H : Hp) (s : Shared) (e : Value) (s' : Shared), Inv X pins σ H s → CX X.stack H s E e s' → X.xe e s'
section
variable {X : Cx} {CX : CXT} {k : Nat} {f C : Addr} {fd : FuncData} {ps : List Str} {sp : Sp} {dvs : List V} {ds : List Value} {E : XK} {x m : Str} {p pos apos : Pos} {e o : Expr} {es : List Expr} {ta : TE} {t : TA}
theorem run_fn {pins : List (Addr × Obj)} {σ : St} {H : Hp} {s : Shared} {Q : VK} {us : List Value} {vs : List V} (F : FnOk X.prog X.w X.K X.mg X.base CX k f fd ps sp) (hr : Room k X.A) (hb : Binds X.K fd ps ds) (hd : Vals dvs ds) (hx : Passes CX X E)
    (I : Inv X pins σ H s) (r : Vals vs us) (h : sp (vs ++ dvs) H Q E) : wpAny (model X.prog X.w) X.A (call (.ref f) us) (EP X pins σ Q) X.xe s := by
  have r2 : Vals (vs ++ dvs) (us ++ ds) := r.append hd
  have hl : (us ++ ds).length = ps.length := by rw [← r2.length]; exact F.len _ _ _ _ h
  refine wpAny_call (codeAny_mono (F.run X.A X.stack s H ⟨us, []⟩ (us ++ ds) (vs ++ dvs) Q E hr I.env0 (hb s us I.kIn hl) r2 h) fun r s' hq => ?_)
  cases r with
  | error e => exact hx pins σ H s e s' I hq
  | ok fl =>
    cases fl with
    | ret u => exact I.after hq
    | next => exact False.elim hq
    | brk => exact False.elim hq
    | cont => exact False.elim hq
theorem pe_call (F : FnOk X.prog X.w X.K X.mg X.base CX k f fd ps sp) (hr : Room k X.A) (hg : Gl X x) (hm : X.mg x = some (.ref f)) (hk : PySem.W.keepIn X.K (.ref f) = true) (hb : Binds X.K fd ps ds) (hd : Vals dvs ds) (hx : Passes CX X E)
    (ha : PA X (e :: es) t) (hdb : (x == ("__debug__" : Str)) = false := by decide) (he : starEach (e :: es) X.env = (false, eval e X.env) :: starEach es X.env := by rfl) (hpl : (backTo pos (starEach es X.env)).any (·.1) = false := by rfl) :
    PE X (.Call (.Name x p) (e :: es) [] pos) (tCall sp dvs E t) := by
  intro pins s σ H Q I h
  refine wpAny_Call_Name_kw (ld_glob I hg hm ?_ hdb)
  refine PySem.W.callWith_K (h₀ := X.base) I.ok.mod.kin hk (thn (ha pos pins s σ H _ I h) fun us s1 ⟨vs, H1, I1, r, q⟩ => ⟨I1.kIn, ?_⟩) he hpl
  exact run_fn F hr hb hd hx I1 r q
end
section
variable {X : Cx} {CX : CXT} {k : Nat} {f C : Addr} {fd : FuncData} {ps ks : List Str} {sp : Sp} {E : XK} {x m : Str} {p pos apos kpos : Pos} {e o : Expr} {es : List Expr} {kws : List Keyword} {te ta : TE} {t tk : TA} {nm : Option Str}
variable {g : List Value → List Value → List Value} {gV : List V → List V → List V}
end
structure FnScope (N P : List Str) (sc : Scope) : Prop where
  kind : sc.kind = .function
  co : sc.isCoroutine = false
  gen : sc.isGenerator = false
  nd : N.Nodup
  pre : N.take P.length = P
  par : ∀ x ∈ P, sc.names.lookup x = some .local ∨ sc.names.lookup x = some .cell
  nofree : ∀ y ∈ sc.names, y.2 ≠ .free
theorem bindL_out {kindOf : Str → Option NameKind} {x : Str} : ∀ {binds : List (Str × Value)} {m : Str → Option Value}, (∀ v, (x, v) ∉ binds) → bindL kindOf binds m x = m x
  | [], _, _ => rfl
  | (n, v) :: r, m, h => by
    unfold bindL
    rw [bindL_out fun w hw => h w (List.mem_cons_of_mem _ hw)]
    split
    · have : x ≠ n := by rintro rfl; exact h v List.mem_cons_self
      simp [this]
    · rfl
theorem bindC_out {kindOf : Str → Option NameKind} {x : Str} : ∀ {binds : List (Str × Value)} {m : Str → Option Value}, (∀ v, (x, v) ∉ binds) → bindC kindOf binds m x = m x
  | [], _, _ => rfl
  | (n, v) :: r, m, h => by
    unfold bindC
    rw [bindC_out fun w hw => h w (List.mem_cons_of_mem _ hw)]
    split
    · rfl
    · have : x ≠ n := by rintro rfl; exact h v List.mem_cons_self
      simp [this]
theorem bindL_get {kindOf : Str → Option NameKind} {x : Str} {v : Value} : ∀ {P : List Str} {vs : List Value} {i : Nat} {m : Str → Option Value}, P.Nodup → P[i]? = some x → vs[i]? = some v → kindOf x = some .local →
    bindL kindOf (P.zip vs) m x = some v
  | [], _, _, _, _, h, _, _ => by simp at h
  | _ :: _, [], _, _, _, _, h, _ => by simp at h
  | p :: P, w :: vs, 0, m, nd, h1, h2, hk => by
    simp at h1 h2; subst h1; subst h2
    show bindL kindOf ((p, w) :: P.zip vs) m p = _
    unfold bindL
    rw [bindL_out fun v hv => (List.nodup_cons.mp nd).1 (List.of_mem_zip hv).1, if_pos hk]
    simp
  | p :: P, w :: vs, i + 1, m, nd, h1, h2, hk => by
    show bindL kindOf ((p, w) :: P.zip vs) m x = _
    unfold bindL
    exact bindL_get (i := i) (List.nodup_cons.mp nd).2 (by simpa using h1) (by simpa using h2) hk
theorem bindC_get {kindOf : Str → Option NameKind} {x : Str} {v : Value} : ∀ {P : List Str} {vs : List Value} {i : Nat} {m : Str → Option Value}, P.Nodup → P[i]? = some x → vs[i]? = some v → kindOf x ≠ some .local →
    bindC kindOf (P.zip vs) m x = some v
  | [], _, _, _, _, h, _, _ => by simp at h
  | _ :: _, [], _, _, _, _, h, _ => by simp at h
  | p :: P, w :: vs, 0, m, nd, h1, h2, hk => by
    simp at h1 h2; subst h1; subst h2
    show bindC kindOf ((p, w) :: P.zip vs) m p = _
    unfold bindC
    rw [bindC_out fun v hv => (List.nodup_cons.mp nd).1 (List.of_mem_zip hv).1, if_neg hk]
    simp
  | p :: P, w :: vs, i + 1, m, nd, h1, h2, hk => by
    show bindC kindOf ((p, w) :: P.zip vs) m x = _
    unfold bindC
    exact bindC_get (i := i) (List.nodup_cons.mp nd).2 (by simpa using h1) (by simpa using h2) hk
def start (N : List Str) (vs : List V) : St := vs.map some ++ List.replicate (N.length - vs.length) none
def cxOf (CX : CXT) (P : Program) (w : World) (K : PySem.W.Frag) (mg : Str → Option Value) (base : Heap) (N : List Str) (qual : Str) (scope : Scope) (f : Addr) (cd : Value) (A : Around) (outer : List Env) (s : Shared) (H : Hp) (E : XK) : Cx where
  prog := P
  w := w
  K := K
  mg := mg
  base := base
  A := A.deeper (envOfC qual scope s.heap.objs.size f cd)
  N := N
  s₀ := s
  H₀ := H
  env := envOfC qual scope s.heap.objs.size f cd
  outer := outer
  stack := envOfC qual scope s.heap.objs.size f cd :: outer
  ex := []
  calm := true
  fn := fun _ => true
  pn := []
  xe := fun e s' => wpAny (model P w) (A.deeper (envOfC qual scope s.heap.objs.size f cd)) (leaving (envOfC qual scope s.heap.objs.size f cd) e) (fun _ s'' => CX outer H s E e s'') (fun e' s'' => CX outer H s E e' s'') s'
theorem cell_has {sc : Scope} {n : Nat} {x : Str} (h : sc.names.lookup x = some .cell) : ∃ c, (cellsFrom n sc.names []).lookup x = some c := by
  have q := PySem.W.cellsFrom_some sc.names n [] (.inl h)
  exact Option.isSome_iff_exists.mp q
theorem inv_start {CX : CXT} {P : Program} {w : World} {K : PySem.W.Frag} {mg : Str → Option Value} {base : Heap} {N ps : List Str} {qual : Str} {scope : Scope} {f : Addr} {cd : Value} {A : Around} {outer : List Env} {s s1 : Shared} {H : Hp} {E : XK} {us : List Value} {vs : List V}
    (S : FnScope N ps scope) (hd : A.handled = none) (e0 : Env0 P w K mg base A outer s H) (hl : vs.length = ps.length) (r : Vals vs us)
    (x : InCallC s s.heap.objs.size (bindL (envOfC qual scope s.heap.objs.size f cd).kindOf (ps.zip us) fun _ => none) (cellsFrom (s.heap.objs.size + 1) scope.names []) (bindC (envOfC qual scope s.heap.objs.size f cd).kindOf (ps.zip us) fun _ => none) s1) :
    Inv (cxOf CX P w K mg base N qual scope f cd A outer s H E) [] (start N vs) H s1 := by
  have hpl : ps.length ≤ N.length := by have := congrArg List.length S.pre; rw [List.length_take] at this; omega
  obtain ⟨h1, tk, rfl, hk⟩ := x.done
  have noA : ∀ b : Addr, b ∉ (cxOf CX P w K mg base N qual scope f cd A outer s H E).ex := fun b z => absurd (show b ∈ ([] : List Addr) from z) (by simp)
  refine ⟨⟨e0.mod, S.kind, rfl, rfl, Nat.le_refl _, fun y z c h1 h2 => ?_, fun y hy => ?_, fun y c _ h => ?_, fun _ => hd, Around.frames_deeper e0.frames, .inr ⟨rfl, rfl⟩, fun b z => absurd z (noA b), e0.bs, e0.bsz, fun b _ _ => noA b, fun b z => absurd z (noA b), e0.funs, e0.frf⟩,
    rfl, e0.bare, Un.kept hk, ⟨_, x.toInCall.ns, fun i y v h1 h2 h3 => ?_⟩, fun y c h => ⟨_, x.cell y c h⟩, e0.hok.fresh (Nat.le_refl _), fun y c h => ?_, fun p hp => absurd (show p ∈ ([] : List (Addr × Obj)) from hp) (by simp), e0.hok.kept hk, ?_⟩
  · exact name_of_addr x.apart (PySem.mem_of_lookup h1) (PySem.mem_of_lookup h2)
  · have hy : scope.names.lookup y = some .cell ∨ scope.names.lookup y = some .free := hy
    rcases hy with hy | hy
    · exact cell_has hy
    · exact absurd rfl (S.nofree _ (PySem.mem_of_lookup hy))
  · exact Nat.le_of_lt (x.above y c (PySem.mem_of_lookup h))
  · have hi : i < vs.length := by
      unfold start at h2
      by_cases hi : i < vs.length
      · exact hi
      · rw [List.getElem?_append_right (by simpa using hi)] at h2
        rw [List.getElem?_replicate] at h2
        split at h2 <;> cases h2
    have ha : vs[i]? = some v := by
      unfold start at h2
      rw [List.getElem?_append_left (by simpa using hi), List.getElem?_map] at h2
      cases e : vs[i]? with
      | none => rw [e] at h2; cases h2
      | some a => rw [e] at h2; cases h2; rfl
    obtain ⟨u, hu, rv⟩ := r.get ha
    have hp : ps[i]? = some y := by
      rw [← S.pre, List.getElem?_take_of_lt (by omega)]; exact h1
    have ndP : ps.Nodup := by rw [← S.pre]; exact S.nd.sublist (List.take_sublist _ _)
    refine ⟨u, rv, ?_⟩
    rcases S.par y (List.mem_of_getElem? hp) with k | k
    · exact .inl ⟨k, bindL_get ndP hp hu k⟩
    · obtain ⟨c, e⟩ := cell_has (n := s.heap.objs.size + 1) k
      refine .inr ⟨.inl k, c, e, ?_⟩
      have q := x.cell y c e
      rw [bindC_get ndP hp hu (by show scope.names.lookup y ≠ _; rw [k]; decide)] at q
      exact q
  · exact e0.hok.fresh (Nat.le_of_lt (x.above y c (PySem.mem_of_lookup h)))
  · unfold start
    show _ = N.length
    rw [List.length_append, List.length_map, List.length_replicate]
    omega
theorem fn_of {CX : CXT} {P : Program} {w : World} {K : PySem.W.Frag} {mg : Str → Option Value} {base : Heap} {k : Nat} {f : Addr} {name qual : Str} {params : Arguments} {body : List Stmt} {scope : Scope} {dV kV doc pm cdv ct oc : Value} {an od : Option Addr}
    {osl : Array (Option Value)} {N ps : List Str} {sp : Sp} (lk : K.lookup f = some ⟨oc, od, .func (PySem.W.fnOf name qual params body scope dV kV doc pm an cdv ct), osl⟩) (hcd : PySem.W.codeIn K cdv qual = true) (S : FnScope N ps scope)
    (len : ∀ vs H Q E, sp vs H Q E → vs.length = ps.length)
    (hbody : ∀ (A : Around) (outer : List Env) (s : Shared) (H : Hp) (vs : List V) (Q : VK) (E : XK), Room k (A.deeper (envOfC qual scope s.heap.objs.size f cdv)) → sp vs H Q E →
      ∃ t, PSs (cxOf CX P w K mg base N qual scope f cdv A outer s H E) body t ∧ t { nx := fun _ H' => Q .non H', rt := Q } (start N vs) H) :
    FnOk P w K mg base CX (k + 1) f (PySem.W.fnOf name qual params body scope dV kV doc pm an cdv ct) ps sp := by
  refine ⟨len, fun A outer s H args us vs Q E hr e0 hb r hsp => ?_⟩
  have hl := len _ _ _ _ hsp
  have KX : K.In s.heap := e0.mod.kin.keeps fun b o e => (e0.bs b o e).1
  have lim : s.heap.NoLimit := e0.mod.nolimit.keeps fun b o e => (e0.bs b o e).1
  have hkind : ∀ y ∈ ps.zip us, scope.names.lookup y.1 = some .local ∨ (scope.names.lookup y.1 = some .cell ∧ ((cellsFrom (s.heap.objs.size + 1) scope.names []).lookup y.1).isSome = true) := fun ⟨n, v⟩ hy => by
    rcases S.par n (List.of_mem_zip hy).1 with q | q
    · exact .inl q
    · exact .inr ⟨q, PySem.W.cellsFrom_some _ _ _ (.inl q)⟩
  refine codeAny_call_function hr.depth (KX _ _ lk) rfl S.co S.gen rfl (PySem.W.codeRec_of KX hcd) (hb _ _ _ _ ?_)
  refine wpAny_newFunctionEnv_cells S.kind hkind fun env he s1 x => ?_
  subst he
  refine ⟨lim.keeps x.toInCall.keep, codeAny_func ?_⟩
  obtain ⟨t, ht, hq⟩ := hbody A outer s H vs Q E (hr.deeper _) hsp
  have I : Inv (cxOf CX P w K mg base N qual scope f cdv A outer s H E) [] (start N vs) H s1 := inv_start S hr.hd e0 hl r x
  refine wpAny_mono (ht [] s1 (start N vs) H _ I hq) (fun fl s' hs => ?_) fun e s' hs => hs
  have fin : ∀ {σ' : St} {H' : Hp} {v : V} {u : Value}, Inv (cxOf CX P w K mg base N qual scope f cdv A outer s H E) [] σ' H' s' → RelV v u → Q v H' → CE outer P w H s Q u s' :=
    fun {σ' H' v u} J rv q => ⟨v, H', J.os, J.bare, J.base, J.hok, rv, q⟩
  cases fl with
  | ret u =>
    obtain ⟨v, σ', H', J, rv, q⟩ := hs
    exact fin J rv q
  | next =>
    obtain ⟨σ', H', J, q⟩ := hs
    exact fin (v := V.non) (u := Value.none) J rfl q
  | brk =>
    obtain ⟨_, _, _, q⟩ := hs
    exact False.elim q
  | cont =>
    obtain ⟨_, _, _, q⟩ := hs
    exact False.elim q
end L2
namespace L2
open PySem PySem.Spec PyProof.Rows
section
variable {X : Cx} {x : Str} {p pos : Pos} {e : Expr} {es : List Expr} {t : TA} {id T : String} {r : List V → Hp → VK → Prop}
def tCB (r : List V → Hp → VK → Prop) (t : TA) : TE := fun σ H Q => t σ H fun vs H1 => r vs H1 Q
theorem pe_callB (hc : CallR X (.builtin id) r) (hg : Gl X x) (hm : X.mg x = none) (hv : bootBuiltins x = some (.builtin id)) (ha : PA X (e :: es) t) (hn : x ≠ "__name__" := by decide) (hdb : (x == ("__debug__" : Str)) = false := by decide)
    (he : starEach (e :: es) X.env = (false, eval e X.env) :: starEach es X.env := by rfl) (hpl : (backTo pos (starEach es X.env)).any (·.1) = false := by rfl) : PE X (.Call (.Name x p) (e :: es) [] pos) (tCB r t) := by
  intro pins s σ H Q I h
  refine wpAny_Call_Name_kw (ld_blt I hg hm hv ?_ hn hdb)
  exact PyProof.Rows.callWith_builtin1 (thn (ha pos pins s σ H _ I h) fun us s1 ⟨vs, H1, I1, r1, q1⟩ => hc pins s1 σ H1 vs us Q I1 r1 q1) he hpl
theorem pe_callTy (hc : CallR X (.type T) r) (hg : Gl X x) (hm : X.mg x = none) (hv : bootBuiltins x = some (.type T)) (ha : PA X (e :: es) t) (hn : x ≠ "__name__" := by decide) (hdb : (x == ("__debug__" : Str)) = false := by decide)
    (he : starEach (e :: es) X.env = (false, eval e X.env) :: starEach es X.env := by rfl) (hpl : (backTo pos (starEach es X.env)).any (·.1) = false := by rfl) : PE X (.Call (.Name x p) (e :: es) [] pos) (tCB r t) := by
  intro pins s σ H Q I h
  refine wpAny_Call_Name_kw (ld_blt I hg hm hv ?_ hn hdb)
  exact PyProof.Rows.callWith_type1 (thn (ha pos pins s σ H _ I h) fun us s1 ⟨vs, H1, I1, r1, q1⟩ => hc pins s1 σ H1 vs us Q I1 r1 q1) he hpl
end
end L2
namespace HT
open PySem PyProof.Rows
section
open PySem.SeqAt
open PySem.AutoSeq1 (wpAny_loadPart')
open PySem.MeetsSeq PySem.MeetsSeq2 PySem.MeetsSeq3
end
section
variable {prog : Program} {w : World} {A : Around} {E : Value → Shared → Prop} {s : Shared}
def sIx (n d : Nat) : Option Int → Nat
  | none => d
  | some v => if v < 0 then (v + (n : Int)).toNat else min v.toNat n
theorem sIx_none (n d : Nat) : sIx n d none = d := rfl
theorem sIx_nat (n d k : Nat) : sIx n d (some (k : Int)) = min k n := by
  show (if (k : Int) < 0 then ((k : Int) + (n : Int)).toNat else min (k : Int).toNat n) = min k n
  rw [if_neg (by omega), Int.toNat_natCast]
end
end HT
namespace L2
open PySem PySem.Spec PyProof.Rows
abbrev TO := St → Hp → (Option Int → Hp → Prop) → Prop
def PO (X : Cx) (e : Option Expr) (t : TO) : Prop :=
  ∀ (pins : List (Addr × Obj)) (s : Shared) (σ : St) (H : Hp) (Q : Option Int → Hp → Prop), Inv X pins σ H s → t σ H Q →
    wpAny (model X.prog X.w) X.A (evalPart e X.env) (fun u s' => ∃ o H', Inv X pins σ H' s' ∧ IsPart u o ∧ Q o H') X.xe s
def tNoPart : TO := fun _ H Q => Q none H
def tPart (t : TE) : TO := fun σ H Q => t σ H fun x H1 => ∃ i, x = .int i ∧ Q (some i) H1
theorem intsAre_of {ns : List Int} : ∀ {us : List Value}, Vals (ns.map V.int) us → IntsAre us ns := by
  induction ns with
  | nil => intro us r; rw [List.map_nil] at r; cases r; exact .nil
  | cons n ns ih =>
    intro us r
    rw [List.map_cons] at r
    cases r with
    | cons r1 r2 =>
      obtain ⟨t, e⟩ := r1
      subst e
      exact .cons n t (ih r2)
section
variable {X : Cx} {e : Expr} {te : TE} {lo hi : Option Expr} {tl th : TO} {pos p2 : Pos}
theorem po_none : PO X none tNoPart := by
  intro pins s σ H Q I h
  rw [evalPart_none]
  exact wpAny_pure ⟨none, H, I, .none, h⟩
theorem po_some (h : PE X e te) : PO X (some e) (tPart te) := by
  intro pins s σ H Q I hw
  rw [evalPart_some]
  refine thn (h pins s σ H _ I hw) fun u s1 ⟨x, H1, I1, r1, q1⟩ => ?_
  obtain ⟨i, rfl, q⟩ := q1
  obtain ⟨t, rfl⟩ := r1
  exact ⟨some i, H1, I1, .int i t, q⟩
def SlR (X : Cx) (r : V → Option Int → Option Int → Hp → VK → Prop) : Prop :=
  ∀ (pins : List (Addr × Obj)) (s : Shared) (σ : St) (H : Hp) (x : V) (v vl vu : Value) (lo hi : Option Int) (sl : Addr) (Q : VK), Inv X pins σ H s → RelV x v → s.heap.IsSliceOf sl vl vu .none → IsPart vl lo → IsPart vu hi → r x lo hi H Q →
    ∃ T id, typeLookup (.type T) "__getitem__" = pure (some (.builtin id)) ∧ s.TypeIs v T ∧ wpAny (model X.prog X.w) X.A (getItem v (.ref sl)) (EP X pins σ Q) X.xe s
def tSl (r : V → Option Int → Option Int → Hp → VK → Prop) (te : TE) (tl th : TO) : TE := fun σ H Q => te σ H fun x H1 => tl σ H1 fun l H2 => th σ H2 fun u H3 => r x l u H3 Q
theorem pe_slice {r : V → Option Int → Option Int → Hp → VK → Prop} (hr : SlR X r) (he : PE X e te) (hl : PO X lo tl) (hu : PO X hi th) : PE X (.Subscript e (.Slice lo hi none p2) pos) (tSl r te tl th) := by
  intro pins s σ H Q I h
  refine Subscript_ (thn (he pins s σ H _ I h) fun v s1 ⟨x, H1, I1, r1, q1⟩ => ?_)
  refine wpAny_Slice (thn (hl pins s1 σ H1 _ I1 q1) fun vl s2 ⟨l, H2, I2, pl, q2⟩ => thn (hu pins s2 σ H2 _ I2 q2) fun vu s3 ⟨u, H3, I3, pu, q3⟩ => ?_)
  rw [evalPart_none]
  refine wpAny_pure ?_
  have I4 : Inv X pins σ H3 { s3 with heap := s3.heap.push { cls := .type "slice", data := .fields #[vl, vu, .none] } } := I3.kept (t' := s3.toks) fun b ob q => Heap.get?_push_of_some _ q
  obtain ⟨T, id, hT, ht, hg⟩ := hr pins { s3 with heap := s3.heap.push { cls := .type "slice", data := .fields #[vl, vu, .none] } } σ H3 x v vl vu l u s3.heap.objs.size Q I4 r1 (Heap.IsSliceOf.new ..) pl pu q3
  show wpAny (model X.prog X.w) X.A (subscriptTail e (.Slice lo hi none p2) v (.ref s3.heap.objs.size)) (EP X pins σ Q) X.xe { s3 with heap := s3.heap.push { cls := .type "slice", data := .fields #[vl, vu, .none] } }
  exact tail_any (ops := [.ref s3.heap.objs.size, v]) ht hT hg (by with_unfolding_all rfl)
def cutV (xs : List V) (lo hi : Option Int) : List V := (xs.drop (HT.sIx xs.length 0 lo)).take (HT.sIx xs.length xs.length hi - HT.sIx xs.length 0 lo)
theorem cutV_length (xs : List V) (lo hi : Option Int) : (cutV xs lo hi).length ≤ xs.length := by
  unfold cutV
  rw [List.length_take, List.length_drop]
  omega
end
end L2
namespace L2
open PySem PySem.Spec PyProof.Rows
def ixN (n : Nat) (i : Int) : Option Nat := if 0 ≤ i then (if i < n then some i.toNat else none) else if -(n : Int) ≤ i then some (i + n).toNat else none
def atI {α : Type} (xs : List α) (i : Int) : Option α := (ixN xs.length i).bind fun j => xs[j]?
theorem ixN_seq {n : Nat} {i : Int} {j : Nat} (h : ixN n i = some j) : seqIndex? i n = some j ∧ j < n ∧ -(n : Int) ≤ i ∧ i < n := by
  unfold ixN at h
  by_cases h0 : 0 ≤ i
  · rw [if_pos h0] at h
    by_cases h1 : i < n
    · rw [if_pos h1] at h
      have e : i.toNat = j := Option.some.inj h
      exact ⟨by rw [seqIndex_of h0 h1, e], by omega, by omega, h1⟩
    · rw [if_neg h1] at h; cases h
  · rw [if_neg h0] at h
    by_cases h1 : -(n : Int) ≤ i
    · rw [if_pos h1] at h
      have e : (i + n).toNat = j := Option.some.inj h
      exact ⟨by rw [seqIndex_neg (by omega) h1, e], by omega, h1, by omega⟩
    · rw [if_neg h1] at h; cases h
theorem atI_get {α : Type} {xs : List α} {i : Int} {v : α} (h : atI xs i = some v) : ∃ j, seqIndex? i xs.length = some j ∧ xs[j]? = some v ∧ j < xs.length ∧ -(xs.length : Int) ≤ i ∧ i < xs.length := by
  unfold atI at h
  cases e : ixN xs.length i with
  | none => rw [e] at h; cases h
  | some j =>
    rw [e] at h
    obtain ⟨h1, h2, h3, h4⟩ := ixN_seq e
    exact ⟨j, h1, h, h2, h3, h4⟩
theorem atI_nat {α : Type} {xs : List α} {j : Nat} {v : α} (h : xs[j]? = some v) : atI xs (j : Int) = some v := by
  have hj : j < xs.length := (List.getElem?_eq_some_iff.mp h).1
  have e : ixN xs.length (j : Int) = some j := by
    unfold ixN
    rw [if_pos (by omega), if_pos (by omega)]; simp
  unfold atI; rw [e]; exact h
def PlainIx (b : Expr) : Prop := ∀ o i, subscripted b false o i = operate [o, i] (getItem o i)
def IxR (X : Cx) (r : R2) : Prop :=
  ∀ (value slice : Expr) (pins : List (Addr × Obj)) (s : Shared) (σ : St) (H : Hp) (x y : V) (v u : Value) (Q : VK), Inv X pins σ H s → RelV x v → RelV y u → r x y H Q →
    subscripted slice false v u = operate [v, u] (getItem v u) → wpAny (model X.prog X.w) X.A (subscriptTail value slice v u) (EP X pins σ Q) X.xe s
def MtR (X : Cx) (id : String) (r : V → List V → Hp → VK → Prop) : Prop :=
  ∀ (pins : List (Addr × Obj)) (s : Shared) (σ : St) (H : Hp) (x : V) (xs : List V) (v : Value) (us : List Value) (Q : VK), Inv X pins σ H s → RelV x v → Vals xs us → r x xs H Q →
    wpAny (model X.prog X.w) X.A (call (.builtin id) (v :: us)) (EP X pins σ Q) X.xe s
section
variable {X : Cx} {a b : Expr} {ta tb : TE} {pos : Pos}
theorem pe_ix {r : R2} (hr : IxR X r) (ha : PE X a ta) (hb : PE X b tb) (hs : PlainIx b) : PE X (.Subscript a b pos) (tOp r ta tb) := by
  intro pins s σ H Q I h
  exact Subscript_ (binT ha hb I h fun v u s2 x y H2 I2 rx ry q => hr a b pins s2 σ H2 x y v u Q I2 rx ry q (hs _ _))
def rIxL (K : PySem.W.Frag) : R2 := fun x y H Q => ∃ p xs i v, x = .ref p ∧ y = .int i ∧ SqL K H p xs ∧ atI xs i = some v ∧ Q v H
def rIxT (K : PySem.W.Frag) : R2 := fun x y H Q => ∃ p xs i v, x = .ref p ∧ y = .int i ∧ SqT K H p xs ∧ atI xs i = some v ∧ Q v H
theorem ix_list : IxR X (rIxL X.K) := by
  intro value slice pins s σ H x y v u Q I rx ry h hs
  obtain ⟨p, xs, i, z, rfl, rfl, hq, he, q⟩ := h
  cases rx
  obtain ⟨t, rfl⟩ := ry
  obtain ⟨its, r, pl, hz⟩ := I.list hq
  obtain ⟨j, h1, h2, h3, h4, h5⟩ := atI_get he
  obtain ⟨w, ew, rw'⟩ := r.get h2
  have hl := r.length
  have hn := line63
  have fin : EP X pins σ Q w s := ⟨z, H, I, rw', q⟩
  by_cases h0 : 0 ≤ i
  · have hj : i.toNat = j := by
      rw [seqIndex_of h0 h5] at h1
      exact Option.some.inj h1
    exact item_listR pl.isList h0 (by omega) (by rw [hj]; simpa using ew) fin hs
  · have hj : (i + (its.toArray.size : Int)).toNat = j := by
      rw [seqIndex_neg (by omega) h4] at h1
      rw [List.size_toArray, ← hl]
      exact Option.some.inj h1
    exact subscriptTail_builtinR (x := w) pl.isList.typeIs slot_list_getitem.lookup
      (wpAny_getItem_list_neg (Q := fun r s' => r = w ∧ EP X pins σ Q r s') pl.isList (by omega) (by rw [List.size_toArray] <;> omega) (by omega) (by rw [hj]; simpa using ew) ⟨rfl, fin⟩) hs
theorem ix_tup : IxR X (rIxT X.K) := by
  intro value slice pins s σ H x y v u Q I rx ry h hs
  obtain ⟨p, xs, i, z, rfl, rfl, hq, he, q⟩ := h
  cases rx
  obtain ⟨t, rfl⟩ := ry
  obtain ⟨its, r, pl, hz⟩ := I.tuple hq
  obtain ⟨j, h1, h2, h3, h4, h5⟩ := atI_get he
  obtain ⟨w, ew, rw'⟩ := r.get h2
  have hl := r.length
  have hn := line63
  have fin : EP X pins σ Q w s := ⟨z, H, I, rw', q⟩
  exact subscriptTail_builtinR (x := w) pl.typeIs slot_tuple_getitem.lookup
    (getItem_tuple (j := j) (Q := fun r s' => r = w ∧ EP X pins σ Q r s') pl (by omega) (by omega) (by rw [List.size_toArray, ← hl]; exact h1) (by simpa using ew) ⟨rfl, fin⟩) hs
theorem mapSeq_set (its : List Value) (n j : Nat) (u : Value) : Obj.mapSeq (·.setIfInBounds j u) { cls := .type "list", data := .seq its.toArray n } = { cls := .type "list", data := .seq (its.set j u).toArray n } := by
  simp [Obj.mapSeq]
theorem Inv.lst {pins : List (Addr × Obj)} {σ : St} {H : Hp} {s : Shared} {p : Addr} {xs : List V} (I : Inv X pins σ H s) (h : H p = some (.lst xs)) :
    ∃ (its : List Value) (n : Nat), Vals xs its ∧ s.heap.get? p = some { cls := .type "list", data := .seq its.toArray n } ∧ xs.length ≤ sizeLine := by
  obtain ⟨z, its, n, r, e⟩ := I.hok p _ h
  exact ⟨its, n, r, e, z⟩
theorem Inv.lstUpd {pins : List (Addr × Obj)} {σ : St} {H : Hp} {s : Shared} {p : Addr} {xs ys : List V} {its its' : List Value} {n n' : Nat} {f : Obj → Obj} (I : Inv X pins σ H s) (h : H p = some (.lst xs))
    (ho : s.heap.get? p = some { cls := .type "list", data := .seq its.toArray n }) (hf : f { cls := .type "list", data := .seq its.toArray n } = { cls := .type "list", data := .seq its'.toArray n' }) (r : Vals ys its') (hz : ys.length ≤ sizeLine) (t : Nat) :
    Inv X pins σ (upd H p (.lst ys)) { s with heap := s.heap.update p f, toks := t } := by
  have e : (s.heap.update p f).get? p = some { cls := .type "list", data := .seq its'.toArray n' } := by
    rw [Heap.get?_update_self f ho (by rw [hf] <;> rfl), hf]
  refine I.write (x := p) (e := p) (by rw [h]; trivial) (.inl rfl) (fun b u hb q => (Heap.get?_update_other _ _ (Ne.symm hb)).trans q) ⟨_, e⟩ ?_
  exact ⟨hz, its', n', r, e⟩
def rSetL : V → V → V → Hp → (Hp → Prop) → Prop := fun o i v H Q => ∃ p xs k j, o = .ref p ∧ i = .int k ∧ H p = some (.lst xs) ∧ ixN xs.length k = some j ∧ Q (upd H p (.lst (xs.set j v)))
theorem set_list : PSet X rSetL := by
  intro pins s σ H o i v ov iv u Q I ro ri rv h
  obtain ⟨p, xs, k, j, rfl, rfl, hp, hj, q⟩ := h
  cases ro
  obtain ⟨t, rfl⟩ := ri
  obtain ⟨its, n, r, ho, hz⟩ := I.lst hp
  obtain ⟨h1, h2, h3, h4⟩ := ixN_seq hj
  have hl := r.length
  have hn := line63
  have I' : Inv X pins σ (upd H p (.lst (xs.set j v))) { s with heap := s.heap.update p (Obj.mapSeq (·.setIfInBounds j u)) } :=
    I.lstUpd hp ho (mapSeq_set its n j u) (r.set rv j) (by rw [List.length_set]; exact hz) s.toks
  by_cases h0 : 0 ≤ k
  · have hk : k.toNat = j := by
      rw [seqIndex_of h0 h4] at h1
      exact Option.some.inj h1
    exact PySem.W.ki_setAt ho h0 (by omega) (by rw [List.size_toArray, ← hl]; exact h4) (by rw [hk]; exact ⟨_, I', q⟩)
  · have hk : (k + (its.toArray.size : Int)).toNat = j := by
      rw [seqIndex_neg (by omega) h3] at h1
      rw [List.size_toArray, ← hl]
      exact Option.some.inj h1
    exact PySem.W.ki_setBack ho (by omega) (by rw [List.size_toArray, ← hl]; exact h3) (by omega) (by rw [hk]; exact ⟨_, I', q⟩)
theorem slice_bounds (lo hi : Option Int) (n : Nat) : (sliceBounds lo hi none n).1 = ((HT.sIx n 0 lo : Nat) : Int) ∧ (sliceBounds lo hi none n).2.1 = ((HT.sIx n n hi : Nat) : Int) ∧ (sliceBounds lo hi none n).2.2 = 1 := by
  refine ⟨?_, ?_, rfl⟩
  · cases lo with
    | none => simp [sliceBounds, HT.sIx]
    | some i =>
      simp only [sliceBounds, HT.sIx, Option.getD_none, show (1 : Int) > 0 by decide, if_true]
      by_cases h : i < 0
      · simp only [h, if_true] <;> omega
      · simp only [h, if_false] <;> omega
  · cases hi with
    | none => simp [sliceBounds, HT.sIx]
    | some i =>
      simp only [sliceBounds, HT.sIx, Option.getD_none, show (1 : Int) > 0 by decide, if_true]
      by_cases h : i < 0
      · simp only [h, if_true] <;> omega
      · simp only [h, if_false] <;> omega
theorem slicePick_cut (its : List Value) (lo hi : Option Int) : slicePick its.toArray lo hi none = ((its.drop (HT.sIx its.length 0 lo)).take (HT.sIx its.length its.length hi - HT.sIx its.length 0 lo)).toArray := by
  obtain ⟨h1, h2, h3⟩ := slice_bounds lo hi its.toArray.size
  unfold slicePick
  rw [h1, h2, h3]
  simp only [sliceRange_one, pick_run, List.size_toArray] <;> rfl
def rSlL (K : PySem.W.Frag) : V → Option Int → Option Int → Hp → VK → Prop := fun x lo hi H Q => ∃ a xs, x = .ref a ∧ SqL K H a xs ∧ ∀ p, H p = none → Q (.ref p) (upd H p (.lst (cutV xs lo hi)))
theorem sl_list : SlR X (rSlL X.K) := by
  intro pins s σ H x v vl vu lo hi sl Q I rx hs pl pu h
  obtain ⟨a, xs, rfl, hx, q⟩ := h
  cases rx
  obtain ⟨its, r, ht, hz⟩ := I.list hx
  have hlen := r.length
  refine ⟨"list", _, slot_list_getitem.lookup, ht.isList.typeIs, ?_⟩
  refine wpAny_getItem_list_slice ht.isList hs pl pu .none (by simp) ?_ (by rw [List.size_toArray] <;> omega)
  rw [slicePick_cut, ← hlen]
  refine ⟨.ref s.heap.objs.size, _, I.laid (t' := s.toks) (o := .lst (cutV xs lo hi)) (fun b ob q => Heap.get?_push_of_some _ q) (Nat.le_refl _) ?_, rfl, q _ (I.hok.fresh (Nat.le_refl _))⟩
  exact ⟨Nat.le_trans (cutV_length xs lo hi) hz, _, 0, (r.drop (HT.sIx xs.length 0 lo)).take (HT.sIx xs.length xs.length hi - HT.sIx xs.length 0 lo), Heap.get?_push_size _ rfl⟩
theorem call_len_seq : CallR X (.builtin "len") (fun xs H Q => ∃ p ys, xs = [.ref p] ∧ (SqL X.K H p ys ∨ SqT X.K H p ys) ∧ Q (.int ys.length) H) := by
  intro pins s σ H xs us Q I r h
  obtain ⟨p, ys, rfl, hq, q⟩ := h
  obtain ⟨u, rfl, rx⟩ := vals1 r
  cases rx
  have hn := line63
  rcases hq with hq | hq
  · obtain ⟨its, r', pl, hz⟩ := I.list hq
    have hlen := r'.length
    exact Calls.call_len_list pl.isList (by simp only [List.size_toArray] <;> omega) ⟨.int ys.length, H, I.tok _, ⟨s.toks + 1, by rw [List.size_toArray, hlen]⟩, q⟩
  · obtain ⟨its, r', pl, hz⟩ := I.tuple hq
    have hlen := r'.length
    exact len_tuple pl (by simp only [List.size_toArray] <;> omega) ⟨.int ys.length, H, I.tok _, ⟨s.toks + 1, by rw [List.size_toArray, hlen]⟩, q⟩
theorem call_list_of : CallR X (.type "list") (fun xs H Q => ∃ p ys, xs = [.ref p] ∧ (SqL X.K H p ys ∨ SqT X.K H p ys) ∧ ∀ l, H l = none → Q (.ref l) (upd H l (.lst ys))) := by
  intro pins s σ H xs us Q I r h
  obtain ⟨p, ys, rfl, hq, q⟩ := h
  obtain ⟨u, rfl, rx⟩ := vals1 r
  cases rx
  have fin : ∀ (its : List Value), Vals ys its → ys.length ≤ sizeLine → ∀ (h' : Heap) (c' : Nat), (∀ b o', s.heap.get? b = some o' → h'.get? b = some o') →
      h'.get? s.heap.objs.size = some { cls := .type "list", dict := none, data := .seq its.toArray c', slots := #[] } → EP X pins σ Q (.ref s.heap.objs.size) { s with heap := h' } := fun its r' hz h' c' kp e =>
    ⟨.ref s.heap.objs.size, _, I.laid (t' := s.toks) kp (Nat.le_refl _) (show ObjOk X.prog X.w _ h' _ (.lst ys) from ⟨hz, its, c', r', e⟩), rfl, q _ (I.hok.fresh (Nat.le_refl _))⟩
  rcases hq with hq | hq
  · obtain ⟨its, r', pl, hz⟩ := I.list hq
    have hlen := r'.length
    obtain ⟨o, ho, hc, n, hd⟩ := pl.isList
    exact call_list_seq p (.inl rfl) ho hc hd (fun h' c' kp e => fin its r' hz h' c' kp e) (by simp only [List.size_toArray] <;> omega)
  · obtain ⟨its, r', pl, hz⟩ := I.tuple hq
    have hlen := r'.length
    obtain ⟨o, ho, hc, n, hd⟩ := pl
    exact call_list_seq p (.inr rfl) ho hc hd (fun h' c' kp e => fin its r' hz h' c' kp e) (by simp only [List.size_toArray] <;> omega)
def tyV (K : PySem.W.Frag) (T : String) (x : V) (H : Hp) : Prop := match x with
  | .str _ => T = "str"
  | .int _ => T = "int"
  | .ref p => (T = "list" ∧ ∃ xs, SqL K H p xs) ∨ (T = "tuple" ∧ ∃ o, K.lookup p = some o ∧ o.cls = .type "tuple" ∧ o.dict = none) ∨
      (T = "dict" ∧ ((∃ kvs, H p = some (.dK kvs)) ∨ ∃ kvs, H p = some (.dT kvs))) ∨ (T = "set" ∧ ∃ S n, H p = some (.set S n))
  | _ => False
theorem tyV_is {pins : List (Addr × Obj)} {σ : St} {H : Hp} {s : Shared} {T : String} {x : V} {v : Value} (I : Inv X pins σ H s) (r : RelV x v) (ty : tyV X.K T x H) :
    s.TypeIs v T ∧ ∀ a, v = .ref a → ∃ ob, s.heap.get? a = some ob ∧ ob.dict = none := by
  cases x with
  | str z =>
    obtain ⟨t, rfl⟩ := r
    cases (show T = "str" from ty)
    exact ⟨typeIs_str s z t, fun _ e => nomatch e⟩
  | int i =>
    obtain ⟨t, rfl⟩ := r
    cases (show T = "int" from ty)
    exact ⟨typeIs_int s i t, fun _ e => nomatch e⟩
  | ref p =>
    cases r
    rcases ty with ⟨rfl, xs, hq⟩ | ⟨rfl, o, hk, hc, hd⟩ | ⟨rfl, hk⟩ | ⟨rfl, S, n, hk⟩
    · obtain ⟨its, _, pl, _⟩ := I.list hq
      refine ⟨pl.isList.typeIs, fun a e => ?_⟩
      cases e
      obtain ⟨o, n, e, c, hd, _⟩ := pl
      exact ⟨o, e, hd⟩
    · refine ⟨⟨o, I.kIn p o hk, hc⟩, fun a e => ?_⟩
      cases e
      exact ⟨o, I.kIn _ o hk, hd⟩
    · have z : ∃ o, s.heap.get? p = some o ∧ o.ExactDict := by
        rcases hk with ⟨kvs, hk⟩ | ⟨kvs, hk⟩
        · obtain ⟨_, _, _, _, o, _, _, e, ex, _⟩ := I.hok p _ hk
          exact ⟨o, e, ex⟩
        · obtain ⟨_, _, _, _, o, _, _, e, ex, _⟩ := I.hok p _ hk
          exact ⟨o, e, ex⟩
      obtain ⟨o, e, ex⟩ := z
      refine ⟨⟨o, e, ex.1⟩, fun a e2 => ?_⟩
      cases e2
      exact ⟨o, e, ex.2.1⟩
    · obtain ⟨o, _, _, _, e, ex, _⟩ := I.hok p _ hk
      refine ⟨⟨o, e, ex.1⟩, fun a e2 => ?_⟩
      cases e2
      exact ⟨o, e, ex.2.1⟩
  | _ => exact False.elim ty
def tBM (K : PySem.W.Frag) (T : String) (r : V → List V → Hp → VK → Prop) (to : TE) (t : TA) : TE := fun σ H Q => to σ H fun x H1 => tyV K T x H1 ∧ t σ H1 fun xs H2 => r x xs H2 Q
variable {o e : Expr} {es : List Expr} {to : TE} {t : TA} {name : Str} {apos cpos : Pos} {T id : String} {r : V → List V → Hp → VK → Prop}
theorem pe_bm (pa : PlainAttrs T) (slot : Slot T name id) (hty : typeOf (.builtin id) = pure (.type "method_descriptor")) (hm : MtR X id r) (ho : PE X o to) (ha : PA X (e :: es) t)
    (hbase : attributeBase o name X.env (eval o X.env) = eval o X.env := by rfl)
    (hfew : ((backTo cpos (starEach (e :: es) X.env)).all (fun x => !x.1) && (backToKw cpos (keywordEach [] X.env)).all (fun x => x.1.isSome)
      && decide ((e :: es).length + ([] : List Keyword).length + (if ([] : List Keyword).isEmpty then 0 else 1) < 30)) = true := by rfl)
    (hline : (apos.endLine == cpos.line) = true := by rfl) (hs : starEach (e :: es) X.env = (false, eval e X.env) :: starEach es X.env := by rfl) (hplain : (backTo cpos (starEach es X.env)).any (·.1) = false := by rfl) :
    PE X (.Call (.Attribute o name apos) (e :: es) [] cpos) (tBM X.K T r to t) := by
  intro pins s σ H Q I h
  refine wpAny_Call_method_late hbase hfew hline rfl (thn (ho pins s σ H _ I h) fun v s1 ⟨x, H1, I1, r1, ty, q1⟩ => ?_)
  obtain ⟨h1, h2⟩ := tyV_is I1 r1 ty
  refine ⟨T, id, pa, slot, hty, h1, h2, ?_⟩
  have hA := ha cpos pins s1 σ H1 _ I1 q1
  rw [hs] at hA ⊢
  refine Calls.callWith_builtin (by show (false || (backTo cpos (starEach es X.env)).any (·.1)) = false; rw [hplain] <;> rfl) (Calls.evalArgs_plain ?_)
  exact thn hA fun us s2 ⟨vs, H2, I2, r2, q2⟩ => hm pins s2 σ H2 x vs v us Q I2 r1 r2 q2
/- xs.append(e), list.index on a module's tuple .. are MtR facts of 06m -/
end
end L2
namespace L2
open PySem PySem.Spec PyProof.Rows
def MtM (X : Cx) (id : String) (r : V → List V → Hp → VK → Prop) : Prop :=
  ∀ (pins : List (Addr × Obj)) (s : Shared) (σ : St) (H : Hp) (x : V) (xs : List V) (v : Value) (us : List Value) (Q : VK), Inv X pins σ H s → RelV x v → Vals xs us → r x xs H Q →
    wpAny (model X.prog X.w) X.A (call (.builtin id) (v :: us)) (EP X pins σ Q) X.xe s
theorem Vals.one : ∀ {x : V} {us : List Value}, Vals [x] us → ∃ u, us = [u] ∧ RelV x u
  | _, _, .cons r .nil => ⟨_, rfl, r⟩
section
variable {X : Cx} {pins : List (Addr × Obj)} {σ : St} {H : Hp} {s : Shared} {l b : Addr} {xs ys zs : List V}
theorem Inv.lset {its its' : List Value} {n : Nat} {f : Array Value → Array Value} {t' : Nat} (I : Inv X pins σ H s) (hH : H l = some (.lst xs))
    (e : s.heap.get? l = some { cls := .type "list", data := .seq its.toArray n }) (hf : f its.toArray = its'.toArray) (hv : Vals ys its') (hz : ys.length ≤ sizeLine) :
    Inv X pins σ (upd H l (.lst ys)) { s with heap := s.heap.update l (Obj.mapSeq f), toks := t' } := by
  have q := PySem.IsL.update e f
  rw [hf] at q
  refine I.write (x := l) (e := l) (by rw [hH]; exact trivial) (.inl rfl) (fun b' u hb hu => (Heap.get?_update_other s.heap (Obj.mapSeq f) (Ne.symm hb)).trans hu) ⟨_, q⟩ ?_
  exact ⟨hz, its', _, hv, q⟩
theorem Inv.lnew {its : List Value} {t' : Nat} (I : Inv X pins σ H s) (hv : Vals ys its) (hz : ys.length ≤ sizeLine) :
    Inv X pins σ (upd H s.heap.objs.size (.lst ys)) { s with heap := s.heap.push { cls := .type "list", data := .seq its.toArray }, toks := t' } :=
  I.laid (fun _ _ q => Heap.get?_push_of_some _ q) (Nat.le_refl _) ⟨hz, its, 0, hv, Heap.get?_push_size _ rfl⟩
theorem Inv.fresh (I : Inv X pins σ H s) : H s.heap.objs.size = none := I.hok.fresh (Nat.le_refl _)
theorem Inv.lstM (I : Inv X pins σ H s) (hH : H l = some (.lst xs)) : xs.length ≤ sizeLine ∧ ∃ (its : List Value) (n : Nat), Vals xs its ∧ xs.length = its.length ∧ s.heap.get? l = some { cls := .type "list", data := .seq its.toArray n } := by
  obtain ⟨z, its, n, r, e⟩ := I.hok l _ hH
  exact ⟨z, its, n, r, r.length, e⟩
end
section
variable {X : Cx}
def rAppend : V → List V → Hp → VK → Prop := fun x vs H Q => ∃ l xs y, x = .ref l ∧ vs = [y] ∧ H l = some (.lst xs) ∧ xs.length < sizeLine ∧ Q .non (upd H l (.lst (xs ++ [y])))
theorem mt_append : MtM X "list.append" rAppend := by
  intro pins s σ H x vs v us Q I rx rv h
  obtain ⟨l, xs, y, rfl, rfl, hH, hz, q⟩ := h
  cases rx
  obtain ⟨u, rfl, ru⟩ := rv.one
  obtain ⟨z, its, n, r, hl, e⟩ := I.lstM hH
  refine call_meets F.slot_list_append ⟨_, e, rfl⟩ F.entry_list_append (F.args_list_append_2 _ _) (PySem.list_append l its.toArray n u (by rw [List.size_toArray]; omega)) ⟨e, ?_⟩
  refine ⟨.non, _, I.lset (its' := its ++ [u]) hH e (by simp) (r.append (.cons ru .nil)) ?_, rfl, q⟩
  rw [List.length_append, List.length_singleton]
  omega
end
section
variable {prog : Program} {w : World} {A : Around} {E : Value → Shared → Prop} {s : Shared}
end
section
variable {X : Cx}
end
end L2
namespace Att
open PySem PySem.W PySem.Calls PyProof.Rows
theorem ints_of_wellAll {P : Params} {h : Heap} : ∀ (ns : List Int) (vs : List Value), WellAll P h vs (ns.map WData.int) → IntsAre vs ns := by
  intro ns
  induction ns with
  | nil =>
    intro vs w
    rw [List.map_nil] at w
    cases w
    exact .nil
  | cons n ns ih =>
    intro vs w
    rw [List.map_cons] at w
    cases w with
    | cons a b =>
      cases a
      exact .cons _ _ (ih _ b)
theorem script_of {l : OpenLaw} {n : Nat} (hn : l.most = some n) {P : Params} {h : Heap} {args : List WData} {vals : List Value}
    (hpre : l.row.toRowW.claim.pre args = true) (hwl : WellAll P h vals args) :
    ∃ a vs ns, vals = [Value.ref a] ∧ args = [WData.list (ns.map WData.int)] ∧ h.get? a = some { cls := .type "list", data := .seq vs.toArray } ∧ IntsAre vs ns ∧ ns.length ≤ n := by
  have hsh : WShape.hasAll [] args [.list .int] = true := (pre_splitW hpre).1
  have hc : l.pre.holds [] { args := args } = true := (pre_splitW hpre).2
  obtain ⟨d, r, rfl, h1, h2⟩ := hasAllW_cons hsh
  obtain rfl := hasAllW_nil h2
  obtain ⟨xs, rfl, h3⟩ := hasW_list h1
  obtain ⟨ns, rfl⟩ := items_int h3
  have hlen : ns.length ≤ n := by
    unfold OpenLaw.pre at hc
    have h4 : (WTm.not (.lt (.lit (.int (n : Int))) (.len (.arg 0)))).holds [] { args := [.list (ns.map .int)] } = true := by
      have h4 := (holds_andW hc).1
      rw [hn] at h4
      exact h4
    have h5 := condW_of h4 (w_not (w_lt w_lit (w_len_list (w_arg rfl))))
    rw [List.length_map] at h5
    refine Nat.le_of_not_lt fun q => ?_
    have q' : (n : Int) < ((ns.length : Nat) : Int) := by omega
    first
      | (rw [decide_eq_true q'] at h5; exact absurd h5 (by decide))
      | (simp at h5; omega)
  cases hwl with
  | cons w1 w2 =>
    cases w2
    cases w1 with
    | list ho hall => exact ⟨_, _, ns, rfl, rfl, ho, ints_of_wellAll ns _ hall, hlen⟩
theorem post_true (l : OpenLaw) (args : List WData) : l.row.toRowW.claim.post args (.bool true) args = true :=
  postW_of (r := l.row.toRowW) (X := (true == true))
    (show WShape.has [] (.bool true) .bool = true by first | rfl | decide | simp [WShape.has, WShape.arms, WShape.armsAll])
    (show (WTm.eq .res (.lit (.bool true))).value [] { args := args, res := some (.bool true), after := args } = some (.bool (true == true)) from w_eq_bool (w_res rfl) w_lit) rfl
theorem attach_call {l : OpenLaw} {n : Nat} {q : Program} {loose : List Str} {XP : (Str → Option Value) → Heap → Prop} {YP : World → Heap → Prop} {d : DefRec}
    (hn : l.most = some n) (hdf : d.params.defaults = [])
    (call : ∀ (w : World) (s₀ s₁ : Shared) (mg mb : Str → Option Value) (fa : Addr) (o : Obj) (pm cd doc : Value) (a : Addr) (vs : List Value) (ns : List Int),
      Ground q loose [] XP w s₀ mg mb s₁.heap → YP w s₁.heap →
      s₁.heap.get? fa = some o → o.data = .func (docDef d.name d.params d.body d.scope pm cd doc) → s₁.heap.CodeRec cd d.name → mg d.name = some (.ref fa) →
      s₁.heap.get? a = some { cls := .type "list", data := .seq vs.toArray } → IntsAre vs ns → ns.length ≤ n → s₁.gens = #[] →
      codeAny (model l.prog w) callerA (.call (.ref fa) ⟨[.ref a], []⟩) (fun r s' => r = .ok (.ret (.bool true)) ∧ OldK s₁.heap s'.heap ∧ s'.os = s₁.os ∧ AllBare s'.gens) s₁) :
    WalkO q loose XP YP l.row.toRowW d [] (fun f vs => PySem.call f vs) := by
  intro w s₀ s₁ mg mb G Y fa o pm cd doc dV kV ho hd hcd hD hmg hg args vals as hpre hlay hrd hwl hlo
  obtain rfl : dV = .none := Dflts.none hD hdf
  obtain rfl : kV = .none := Dflts.noKw hD
  obtain ⟨a, vs, ns, rfl, rfl, hobj, hints, hlen⟩ := script_of hn hpre hwl
  refine enter_call (codeAny_mono (call w s₀ s₁ mg mb fa o pm cd doc a vs ns G Y ho (fd_plain hd) hcd hmg hobj hints hlen hg) fun r s' hq => ?_)
  obtain ⟨rfl, h2, h3, h4⟩ := hq
  exact ⟨.inl ⟨.bool true, .bool true, [], rfl, fun _ => rfl, .bool true, post_true l _, fun _ => ⟨List.Pairwise.nil, fun _ hm => (nomatch hm)⟩⟩, h2, h3, h4⟩
section
variable {prog : Program} {w : World} {A : Around} {E : Value → Shared → Prop} {s : Shared} {K : Frag}
end
end Att
namespace L2
open PySem PySem.Spec PyProof.Rows
theorem vals_ints : ∀ {vs : List Value} {ns : List Int}, IntsAre vs ns → Vals (ns.map V.int) vs
  | _, _, .nil => .nil
  | _, _, .cons n t h => .cons ⟨t, rfl⟩ (vals_ints h)
def Only (H : Hp) : Prop := ∀ b, H b = none ∨ ∃ o xs, H b = some (.frz o (.lst xs))
theorem law_call {P : Program} {w : World} {K : PySem.W.Frag} {mg mb : Str → Option Value} {CX : CXT} {k : Nat} {fa a : Addr} {fd : FuncData} {x : Str} {sp : Sp} {s₁ : Shared} {vs : List Value} {ns : List Int}
    (KX : K.In s₁.heap) (hns : s₁.heap.Ns mainGlobals mg) (hb : s₁.heap.Ns builtinsNs mb) (hbb : ∀ x : Str, x ≠ "__name__" → mb x = bootBuiltins x) (hlim : s₁.heap.NoLimit) (hsee : s₁.heap.NoSeer) (hg : s₁.gens = #[])
    (ha : s₁.heap.get? a = some { cls := .type "list", data := .seq vs.toArray }) (hi : IntsAre vs ns) (hl : ns.length ≤ sizeLine) (hr : Room k callerA)
    (F : ∀ base : Heap, K.In base → base.Ns mainGlobals mg → FnOk P w K mg base CX k fa fd [x] sp) (hbind : ∀ (s : Shared) (u : Value), BindsTo s fd ⟨[u], []⟩ [(x, u)])
    (hsp : ∀ H : Hp, Only H → SqL K H a (ns.map V.int) → sp [.ref a] H (fun v _ => v = .bl true) fun _ _ _ => False)
    (hCX : ∀ H e s', CX [] H s₁ (fun _ _ _ => False) e s' → False) :
    codeAny (model P w) callerA (.call (.ref fa) ⟨[.ref a], []⟩) (fun r s' => r = .ok (.ret (.bool true)) ∧ OldK s₁.heap s'.heap ∧ s'.os = s₁.os ∧ AllBare s'.gens) s₁ := by
  have rv := vals_ints hi
  have lenV := hi.length
  -- from an abstract heap in which nothing but the script may be tracked
  have core : ∀ H : Hp, Only H → SqL K H a (ns.map V.int) → HOk P w H s₁.heap → (∀ b, H b ≠ none → b = a) → (H a ≠ none → K.lookup a = none) →
      codeAny (model P w) callerA (.call (.ref fa) ⟨[.ref a], []⟩) (fun r s' => r = .ok (.ret (.bool true)) ∧ OldK s₁.heap s'.heap ∧ s'.os = s₁.os ∧ AllBare s'.gens) s₁ := by
    intro H hO hS hok hA hK
    have base_of : ∀ {b : Addr} {o : Obj}, s₁.heap.get? b = some o → H b = none → (hidT s₁.heap H).get? b = some o := fun e n => hidT_get e n
    have noA : ∀ {b : Addr} {o : Obj} {es : Array DictEntry} {ep : Nat}, s₁.heap.get? b = some o → o.data = .dict es ep → H b = none := fun {b o es ep} e d => by
      cases q : H b with
      | none => rfl
      | some u =>
        have e' : b = a := hA b (by rw [q]; simp)
        subst e'
        rw [ha] at e; cases e
        have d' : Data.seq vs.toArray _ = Data.dict es ep := d
        cases d'
    have noM : ∀ {b : Addr} {o : Obj}, s₁.heap.get? b = some o → o.cls = .type "module" → H b = none := fun {b o} e d => by
      cases q : H b with
      | none => rfl
      | some u =>
        have e' : b = a := hA b (by rw [q]; simp)
        subst e'
        rw [ha] at e; cases e
        have d' : Value.type "list" = Value.type "module" := d
        injection d' with z
        exact absurd z (by decide)
    have nsK : ∀ {b : Addr} {m : Str → Option Value}, s₁.heap.Ns b m → (hidT s₁.heap H).Ns b m := fun {b m} ⟨o, es, ep, e, d, r⟩ => ⟨o, es, ep, base_of e (noA e d), d, r⟩
    have hKb : K.In (hidT s₁.heap H) := fun b o e => base_of (KX b o e) (by
      cases q : H b with
      | none => rfl
      | some u =>
        have e' : b = a := hA b (by rw [q]; simp)
        subst e'
        rw [hK (by rw [q]; simp)] at e; cases e)
    have hM : Mod K mg (hidT s₁.heap H) := ⟨hKb, nsK hns, ⟨mb, nsK hb, hbb⟩, (let ⟨mc, h1, h2⟩ := hlim; ⟨mc, nsK h1, h2⟩), ⟨(let ⟨mc, a1, b1⟩ := hsee.statics; ⟨mc, nsK a1, b1⟩), (let ⟨mc, a1, b1⟩ := hsee.mods; ⟨mc, nsK a1, b1⟩), (let ⟨mc, a1, b1⟩ := hsee.imp; ⟨mc, nsK a1, b1⟩), (let ⟨mg', bm, ob, a1, b1, c1, d1, f1⟩ := hsee.main; ⟨mg', bm, ob, nsK a1, b1, base_of c1 (noM c1 d1), d1, f1⟩)⟩⟩
    have e0 : Env0 P w K mg (hidT s₁.heap H) callerA [] s₁ H := ⟨rfl, hM, fun b o e => of_hidT e, Nat.le_of_eq (hidT_size _ _), trivial, fun b hb => absurd (show b ∈ ([] : List Addr) from hb) (by simp), hok, .of_eq hg⟩
    refine codeAny_mono ((F _ hKb (nsK hns)).run callerA [] s₁ H ⟨[.ref a], []⟩ [.ref a] [.ref a] _ _ hr e0 (hbind s₁ (.ref a)) (.cons rfl .nil) (hsp H hO hS)) fun r s' h => ?_
    cases r with
    | error e => exact (hCX H e s' h).elim
    | ok fl =>
      cases fl with
      | next => exact False.elim h
      | brk => exact False.elim h
      | cont => exact False.elim h
      | ret u =>
        obtain ⟨v, H', os, bare, un, hok', r', q⟩ := h
        have q' : v = .bl true := q
        subst q'
        obtain rfl : u = Value.bool true := r'
        refine ⟨rfl, OldK.of_keep fun b o e => ?_, os, bare⟩
        cases q : H b with
        | none => exact un.keep b o e q (by intro z; exact absurd (show b ∈ ([] : List Addr) from z) (by simp)) (by simp)
        | some u =>
          rcases hO b with z | ⟨ob, xs, z⟩
          · rw [q] at z; cases z
          · have z2 := un.frzs b ob _ z
            obtain ⟨e1, _⟩ := hok b _ z
            obtain ⟨e2, _⟩ := hok' b _ z2
            rw [e] at e1; cases e1
            exact e2
  cases hk : K.lookup a with
  | some o =>
    -- the script is one of the module's own objects
    have e := KX a o hk
    rw [ha] at e
    cases e
    refine core (fun _ => none) (fun _ => .inl rfl) (.inr ⟨_, vs.toArray, _, hk, rfl, rfl, rfl, by rw [List.size_toArray, lenV]; exact hl, by simpa using rv⟩) (fun b u z => by have z' : (none : Option HO) = some u := z; cases z') (fun b z => absurd rfl z) fun z => absurd rfl z
  | none =>
    refine core (fun b => if b = a then some (.frz { cls := .type "list", data := .seq vs.toArray } (.lst (ns.map V.int))) else none) (fun b => ?_) (.inl (.inr ⟨{ cls := .type "list", data := .seq vs.toArray }, if_pos rfl⟩)) (fun b u z => ?_) (fun b z => ?_) fun _ => hk
    · by_cases hb : b = a
      · exact .inr ⟨_, _, if_pos hb⟩
      · exact .inl (if_neg hb)
    · by_cases hb : b = a
      · have z' := (if_pos hb).symm.trans z
        cases z'
        subst hb
        exact ⟨ha, by rw [List.length_map]; exact hl, vs, _, rv, ha⟩
      · have z' := (if_neg hb).symm.trans z
        cases z'
    · by_cases hb : b = a
      · exact hb
      · exact absurd (if_neg hb) z
end L2
namespace L2
open PySem PySem.Spec PyProof.Rows
abbrev KOf {K : PySem.W.Frag} {h : Heap} (_ : K.In h) : PySem.W.Frag := K
theorem walk_of {l : PySem.W.OpenLaw} {n k : Nat} {q : Program} {loose : List Str} {XP : (Str → Option Value) → Heap → Prop} {YP : World → Heap → Prop} {d : DefRec} {K : Params → PySem.W.Frag} {CX : World → CXT} {sp : World → Sp} {x : Str}
    (hn : l.most = some n) (hn2 : n ≤ sizeLine) (hi : importsNone q = true) (hdf : d.params.defaults = []) (hr : Room k callerA)
    (hY : ∀ (w : World) (h : Heap), YP w h → (K w.params).In h)
    (F : ∀ (w : World) (mg : Str → Option Value) (fa : Addr) (h : Heap), (K w.params).In h → h.Ns mainGlobals mg → mg d.name = some (.ref fa) →
      ∃ fd : FuncData, (∀ (s : Shared) (u : Value), BindsTo s fd ⟨[u], []⟩ [(x, u)]) ∧
        ∀ base : Heap, (K w.params).In base → base.Ns mainGlobals mg → FnOk l.prog w (K w.params) mg base (CX w) k fa fd [x] (sp w))
    (hsp : ∀ (w : World) (H : Hp) (a : Addr) (ns : List Int), ns.length ≤ n → Only H → SqL (K w.params) H a (ns.map V.int) → sp w [.ref a] H (fun v _ => v = .bl true) fun _ _ _ => False)
    (hCX : ∀ (w : World) (H : Hp) (s : Shared) (e : Value) (s' : Shared), CX w [] H s (fun _ _ _ => False) e s' → False) :
    PySem.W.WalkO q loose XP YP l.row.toRowW d [] (fun f vs => PySem.call f vs) := by
  refine Att.attach_call hn hdf fun w s₀ s₁ mg mb fa o pm cd doc a vs ns G Y ho hd hcd hmg hobj hints hlen hg => ?_
  have KX := hY w _ Y
  obtain ⟨fd, hb, hF⟩ := F w mg fa _ KX G.T.g hmg
  exact law_call KX G.T.g G.T.b G.T.builtins G.T.nolimit (G.T.seer hi) hg hobj hints (Nat.le_trans hlen hn2) hr hF hb (fun H hO hS => hsp w H a ns hlen hO hS) fun H e s' => hCX w H s₁ e s'
end L2
namespace L2
open PySem PySem.Spec PyProof.Rows
def defArgs (s : Stmt) : Arguments := match s with
  | .FunctionDef _ a _ _ _ _ _ _ _ _ => a
  | _ => { posonlyargs := [], args := [], vararg := none, kwonlyargs := [], kw_defaults := [], kwarg := none, defaults := [] }
def defBody (s : Stmt) : List Stmt := match s with
  | .FunctionDef _ _ b _ _ _ _ _ _ _ => b
  | _ => []
def defScope (s : Stmt) : Scope := match s with
  | .FunctionDef _ _ _ _ _ _ sc _ _ _ => sc
  | _ => { kind := .function, names := [], isGenerator := false, isCoroutine := false }
abbrev CX0 : CXT := fun _ _ _ _ _ _ => False
abbrev E0 : XK := fun _ _ _ => False
theorem pass0 {X : Cx} : Passes CX0 X E0 := fun _ _ _ _ _ _ _ h => h.elim
structure Fun (K : PySem.W.Frag) (x qual : Str) (st : Stmt) (f : Addr) (fd : FuncData) : Prop where
  ex : ∃ (oc : Value) (od : Option Addr) (kV doc pm : Value) (an : Option Addr) (cdv ct : Value) (osl : Array (Option Value)),
    fd = PySem.W.fnOf x qual (defArgs st) (defBody st) (defScope st) .none kV doc pm an cdv ct ∧ K.lookup f = some ⟨oc, od, .func fd, osl⟩ ∧ PySem.W.codeIn K cdv qual = true
  kp : PySem.W.keepIn K (.ref f) = true
section
variable {P : Program} {w : World} {K : PySem.W.Frag} {mg : Str → Option Value} {base : Heap}
theorem Fun.ok {x qual : Str} {st : Stmt} {f : Addr} {fd : FuncData} {N ps : List Str} {k : Nat} {sp : Sp} (F : Fun K x qual st f fd) (S : FnScope N ps (defScope st)) (len : ∀ vs H Q E, sp vs H Q E → vs.length = ps.length)
    (hbody : ∀ (cdv : Value) (A : Around) (outer : List Env) (s : Shared) (H : Hp) (vs : List V) (Q : VK) (E : XK), Room k (A.deeper (envOfC qual (defScope st) s.heap.objs.size f cdv)) → sp vs H Q E →
      ∃ t, PSs (cxOf CX0 P w K mg base N qual (defScope st) f cdv A outer s H E).nox (defBody st) t ∧ t { nx := fun _ H' => Q .non H', rt := Q } (start N vs) H) : FnOk P w K mg base CX0 (k + 1) f fd ps sp := by
  obtain ⟨oc, od, kV, doc, pm, an, cdv, ct, osl, rfl, lk, hcd⟩ := F.ex
  refine fn_of lk hcd S len fun A outer s H vs Q E hr hsp => ?_
  obtain ⟨t, h, q⟩ := hbody cdv A outer s H vs Q E hr hsp
  exact ⟨t, h.nox, q⟩
theorem Fun.binds {x qual : Str} {st : Stmt} {f : Addr} {fd : FuncData} {ps : List Str} (F : Fun K x qual st f fd)
    (h : ∀ (kV doc pm : Value) (an : Option Addr) (cdv ct : Value) (us : List Value), us.length = ps.length → bindArgs (PySem.W.fnOf x qual (defArgs st) (defBody st) (defScope st) .none kV doc pm an cdv ct) ⟨us, []⟩ = pure (ps.zip us)) : Binds K fd ps [] := by
  obtain ⟨oc, od, kV, doc, pm, an, cdv, ct, osl, rfl, lk, hcd⟩ := F.ex
  exact .all (h kV doc pm an cdv ct)
theorem fun_mk {x qual : Str} {st : Stmt} {f : Addr} {oc : Value} {od an : Option Addr} {osl : Array (Option Value)} {kV doc pm cdv ct : Value} (l : K.lookup f = some ⟨oc, od, .func (PySem.W.fnOf x qual (defArgs st) (defBody st) (defScope st) .none kV doc pm an cdv ct), osl⟩)
    (c : PySem.W.codeIn K cdv qual = true) (k : PySem.W.keepIn K (.ref f) = true) : Fun K x qual st f (PySem.W.fnOf x qual (defArgs st) (defBody st) (defScope st) .none kV doc pm an cdv ct) := ⟨⟨oc, od, kV, doc, pm, an, cdv, ct, osl, rfl, l, c⟩, k⟩
end
section
variable {X : Cx}
theorem pv (i : Nat) {x : Str} {pos : Pos} (hN : X.N[i]? = some x := by rfl) (hv : Vis X.env.scope x := by first | exact Or.inl rfl | exact Or.inr (Or.inl rfl) | exact Or.inr (Or.inr rfl)) (hd : (x == ("__debug__" : Str)) = false := by decide)
    (hcd : (x == ("__classdict__" : Str)) = false := by decide) : PE X (.Name x pos) (tVar i) := pe_var hN hv hd hcd
end
theorem iteF {A B : Prop} (h : B) : if false = true then A else B := by
  rw [if_neg Bool.false_ne_true]
  exact h
theorem iteT {A B : Prop} (h : A) : if true = true then A else B := by
  rw [if_pos rfl]
  exact h
def Same (H H' : Hp) : Prop := ∀ b o, H b = some o → H' b = some o
theorem Same.refl (H : Hp) : Same H H := fun _ _ h => h
theorem Same.trans {H H1 H2 : Hp} (a : Same H H1) (b : Same H1 H2) : Same H H2 := fun c o h => b c o (a c o h)
theorem Same.free {H H' : Hp} (e : Same H H') {l : Addr} (h : H' l = Option.none) : H l = Option.none := by
  cases q : H l with
  | none => rfl
  | some o =>
    rw [e l o q] at h
    cases h
theorem Same.seq {K : PySem.W.Frag} {H H' : Hp} {a : Addr} {xs : List V} (e : Same H H') (h : SqL K H a xs) : SqL K H' a xs := by
  rcases h with (h | ⟨o, h⟩) | h
  · exact .inl (.inl (e _ _ h))
  · exact .inl (.inr ⟨o, e _ _ h⟩)
  · exact .inr h
end L2
set_option Elab.async false
set_option linter.all false
namespace My
def G (a b : Int) : Int := ((Int.gcd a b : Nat) : Int)
theorem G_end {a : Int} (ha : 0 ≤ a) : G a 0 = a := by
  show ((Int.gcd a 0 : Nat) : Int) = a
  rw [Int.gcd_zero_right]
  omega
theorem G_turn {a b : Int} (ha : 0 ≤ a) (hb : 0 < b) : G b (Int.fmod a b) = G a b := by
  unfold G
  rw [Int.fmod_eq_emod_of_nonneg a (Int.le_of_lt hb)]
  obtain ⟨m, rfl⟩ := Int.eq_ofNat_of_zero_le ha
  obtain ⟨n, rfl⟩ := Int.eq_ofNat_of_zero_le (Int.le_of_lt hb)
  show ((Nat.gcd (n : Int).natAbs ((m : Int) % (n : Int)).natAbs : Nat) : Int) = ((Nat.gcd (m : Int).natAbs (n : Int).natAbs : Nat) : Int)
  have e : ((m : Int) % (n : Int)).natAbs = m % n := by omega
  rw [e, Int.natAbs_natCast, Int.natAbs_natCast, Nat.gcd_comm m n, Nat.gcd_comm n (m % n), ← Nat.gcd_rec]
theorem G_pos {a b : Int} (hb : 0 < b) : 0 < G a b := by
  have : 0 < Int.gcd a b := Int.gcd_pos_of_ne_zero_right a (by omega)
  unfold G
  omega
theorem num_share {t b : Int} (hb : 0 < b) : Int.fdiv t (G t b) = (Rat.divInt t b).num := by
  rw [Int.fdiv_eq_ediv_of_nonneg _ (Int.le_of_lt (G_pos hb)), Rat.num_divInt, Int.sign_eq_one_of_pos hb, Int.one_mul]
  unfold G
  rw [Int.gcd_comm]
theorem den_share {t b : Int} (hb : 0 < b) : Int.fdiv b (G t b) = ((Rat.divInt t b).den : Int) := by
  rw [Int.fdiv_eq_ediv_of_nonneg _ (Int.le_of_lt (G_pos hb)), Rat.den_divInt, if_neg (show ¬ b = 0 by omega), Int.natCast_ediv, Int.natAbs_of_nonneg (Int.le_of_lt hb)]
  unfold G
  rw [Int.gcd_comm]
theorem den_ne (q : Rat) : (q.den : Int) ≠ 0 := by have := q.den_pos; omega
theorem den_pos' (q : Rat) : (0 : Int) < q.den := by have := q.den_pos; omega
theorem q_add (p q : Rat) : Rat.divInt (p.num * q.den + q.num * p.den) (p.den * q.den) = p + q := by
  rw [← Rat.divInt_add_divInt _ _ (den_ne p) (den_ne q), Rat.num_divInt_den, Rat.num_divInt_den]
theorem q_sub (p q : Rat) : Rat.divInt (p.num * q.den - q.num * p.den) (p.den * q.den) = p - q := by
  rw [← Rat.divInt_sub_divInt _ _ (den_ne p) (den_ne q), Rat.num_divInt_den, Rat.num_divInt_den]
theorem q_mul (p q : Rat) : Rat.divInt (p.num * q.num) (p.den * q.den) = p * q := by
  rw [← Rat.divInt_mul_divInt, Rat.num_divInt_den, Rat.num_divInt_den]
theorem q_div (p q : Rat) : Rat.divInt (p.num * q.den) (p.den * q.num) = p / q := by
  rw [← Rat.divInt_mul_divInt, Rat.num_divInt_den, Rat.div_def, Rat.inv_def]
theorem q_lt (p q : Rat) : p.num * q.den < q.num * p.den ↔ p < q := (Rat.lt_iff p q).symm
theorem q_num_pos {q : Rat} (h : 0 < q) : 0 < q.num := by
  have h2 := (Rat.lt_iff 0 q).mp h
  have e1 : (0 : Rat).num = 0 := rfl
  have e2 : (0 : Rat).den = 1 := rfl
  rw [e1, e2, Int.zero_mul] at h2
  omega
theorem q_num_nn {q : Rat} (h : 0 ≤ q) : 0 ≤ q.num := Rat.num_nonneg.mpr h
theorem q_inj {p q : Rat} (h1 : p.num = q.num) (h2 : (p.den : Int) = q.den) : p = q := Rat.ext h1 (by omega)
end My
set_option Elab.async false
set_option linter.all false
namespace My
theorem mul_num (p q : Rat) : (p * q).num = p.num / ((p.num.natAbs.gcd q.den : Nat) : Int) * (q.num / ((q.num.natAbs.gcd p.den : Nat) : Int)) := by
  show (Rat.mul p q).num = _
  unfold Rat.mul
  simp only [Int.divExact_eq_ediv]
theorem mul_den (p q : Rat) : (p * q).den = q.den / p.num.natAbs.gcd q.den * (p.den / q.num.natAbs.gcd p.den) := by
  show (Rat.mul p q).den = _
  unfold Rat.mul
  simp only [Nat.divExact_eq_div, Nat.mul_comm]
theorem gcd_sum {n1 d1 n2 d2 : Nat} (h1 : Nat.Coprime n1 d1) (h2 : Nat.Coprime n2 d2) (p1 : 0 < d1) (p2 : 0 < d2) :
    Nat.gcd (n1 * d2 + n2 * d1) (d1 * d2) = Nat.gcd d1 d2 * Nat.gcd (n1 * (d2 / Nat.gcd d1 d2) + n2 * (d1 / Nat.gcd d1 d2)) (Nat.gcd d1 d2) := by
  have g0 : 0 < Nat.gcd d1 d2 := Nat.gcd_pos_of_pos_left _ p1
  generalize hg : Nat.gcd d1 d2 = g at *
  obtain ⟨e1, rfl⟩ : g ∣ d1 := hg ▸ Nat.gcd_dvd_left _ _
  obtain ⟨e2, rfl⟩ : g ∣ d2 := hg ▸ Nat.gcd_dvd_right _ _
  have ce : Nat.Coprime e1 e2 := by
    rw [Nat.gcd_mul_left] at hg
    exact Nat.eq_of_mul_eq_mul_left g0 (by rw [hg, Nat.mul_one])
  rw [Nat.mul_div_cancel_left _ g0, Nat.mul_div_cancel_left _ g0]
  have a1 : Nat.Coprime e1 (n1 * e2 + n2 * e1) := by
    show Nat.gcd e1 (n1 * e2 + n2 * e1) = 1
    rw [Nat.mul_comm n2 e1, Nat.gcd_add_mul_left_right]
    exact Nat.Coprime.mul_right ((h1.coprime_dvd_right ⟨g, Nat.mul_comm _ _⟩).symm) ce
  have a2 : Nat.Coprime e2 (n1 * e2 + n2 * e1) := by
    show Nat.gcd e2 (n1 * e2 + n2 * e1) = 1
    rw [Nat.add_comm, Nat.mul_comm n1 e2, Nat.gcd_add_mul_left_right]
    exact Nat.Coprime.mul_right ((h2.coprime_dvd_right ⟨g, Nat.mul_comm _ _⟩).symm) ce.symm
  rw [show n1 * (g * e2) + n2 * (g * e1) = g * (n1 * e2 + n2 * e1) by grind, show g * e1 * (g * e2) = g * (e1 * (e2 * g)) by grind, Nat.gcd_mul_left, a1.gcd_mul_left_cancel_right, a2.gcd_mul_left_cancel_right]
theorem add_num {p q : Rat} (hp : 0 ≤ p.num) (hq : 0 ≤ q.num) : (p + q).num = (p.num * (q.den / G p.den q.den) + q.num * (p.den / G p.den q.den)) / G (p.num * (q.den / G p.den q.den) + q.num * (p.den / G p.den q.den)) (G p.den q.den) ∧
    ((p + q).den : Int) = p.den / G p.den q.den * (q.den / G (p.num * (q.den / G p.den q.den) + q.num * (p.den / G p.den q.den)) (G p.den q.den)) := by
  obtain ⟨n1, e1⟩ := Int.eq_ofNat_of_zero_le hp
  obtain ⟨n2, e2⟩ := Int.eq_ofNat_of_zero_le hq
  have c1 : Nat.Coprime n1 p.den := by have := p.reduced; rw [e1] at this; exact this
  have c2 : Nat.Coprime n2 q.den := by have := q.reduced; rw [e2] at this; exact this
  have d1 := p.den_pos
  have d2 := q.den_pos
  rw [Rat.num_add, Rat.den_add, e1, e2]
  generalize p.den = b1 at *
  generalize q.den = b2 at *
  have gg := gcd_sum c1 c2 d1 d2
  have g0 : 0 < Nat.gcd b1 b2 := Nat.gcd_pos_of_pos_left _ d1
  have hG : G (b1 : Int) b2 = ((Nat.gcd b1 b2 : Nat) : Int) := rfl
  have hN : ((n1 : Int) * b2 + n2 * b1) = ((n1 * b2 + n2 * b1 : Nat) : Int) := by push_cast; rfl
  have ht : (n1 : Int) * ((b2 : Int) / G b1 b2) + n2 * ((b1 : Int) / G b1 b2) = ((n1 * (b2 / Nat.gcd b1 b2) + n2 * (b1 / Nat.gcd b1 b2) : Nat) : Int) := by rw [hG]; push_cast; rfl
  rw [ht, hG]
  rw [hN, Int.natAbs_natCast, gg]
  generalize hgv : Nat.gcd b1 b2 = g at *
  obtain ⟨e1', rfl⟩ : g ∣ b1 := hgv ▸ Nat.gcd_dvd_left _ _
  obtain ⟨e2', rfl⟩ : g ∣ b2 := hgv ▸ Nat.gcd_dvd_right _ _
  rw [Nat.mul_div_cancel_left _ g0, Nat.mul_div_cancel_left _ g0]
  generalize hl : Nat.gcd (n1 * e2' + n2 * e1') g = l
  have l0 : 0 < l := hl ▸ Nat.gcd_pos_of_pos_right _ g0
  have hGl : G ((n1 * e2' + n2 * e1' : Nat) : Int) (g : Int) = (l : Int) := by rw [← hl]; rfl
  obtain ⟨m, hm⟩ : l ∣ g := hl ▸ Nat.gcd_dvd_right _ _
  rw [hGl]
  constructor
  · rw [show n1 * (g * e2') + n2 * (g * e1') = g * (n1 * e2' + n2 * e1') by grind, ← Int.natCast_ediv, ← Int.natCast_ediv, Nat.mul_div_mul_left _ _ g0]
  · subst hm
    rw [← Int.natCast_ediv, ← Int.natCast_ediv, ← Int.natCast_mul]
    congr 1
    rw [Nat.mul_div_cancel_left _ g0, show l * m * e1' * (l * m * e2') = (l * m * l) * (e1' * (m * e2')) by grind, Nat.mul_div_cancel_left _ (Nat.mul_pos g0 l0), show l * m * e2' = l * (m * e2') by grind, Nat.mul_div_cancel_left _ l0]
end My
set_option Elab.async false
set_option linter.all false
set_option maxRecDepth 100000
set_option maxHeartbeats 4000000
namespace L2
open PySem PySem.Spec PyProof.Rows
section
variable {P : Program} {w : World} {H : Hp} {h : Heap} {a : Addr} {o : HO}
theorem ObjOk.there (x : ObjOk P w H h a o) : ∃ ob, h.get? a = some ob := by
  cases o with
  | lst xs => obtain ⟨_, _, _, _, e⟩ := x; exact ⟨_, e⟩
  | tup xs => obtain ⟨_, _, _, ob, e, _⟩ := x; exact ⟨ob, e⟩
  | dK kvs => obtain ⟨_, _, _, _, o, _, _, e, _⟩ := x; exact ⟨o, e⟩
  | dT kvs => obtain ⟨_, _, _, _, o, _, _, e, _⟩ := x; exact ⟨o, e⟩
  | set S n => obtain ⟨o, _, _, _, e, _⟩ := x; exact ⟨o, e⟩
  | ins C dx fs => obtain ⟨_, _, _, e, _⟩ := x; exact ⟨_, e⟩
  | own y => obtain ⟨u, e⟩ := x; exact ⟨u, e⟩
  | xd fs => obtain ⟨_, ⟨u, _, _, e, _⟩, _⟩ := x; exact ⟨u, e⟩
  | rng lo hi => obtain ⟨_, _, _, e⟩ := x; exact ⟨_, e⟩
  | frz ob u => obtain ⟨e, _⟩ := x; exact ⟨_, e⟩
  | tbl ps =>
    have e : h.get? a = some _ := x
    exact ⟨_, e⟩
  | met f y =>
    have e : h.get? a = some _ := x
    exact ⟨_, e⟩
  | ext φ => obtain ⟨_, ⟨u, e⟩, _⟩ := x; exact ⟨u, e⟩
theorem HOk.sub {B : Heap} (x : HOk P w H h) (k : ∀ b u, H b ≠ none → h.get? b = some u → B.get? b = some u) : HOk P w H B := fun a o e =>
  (x a o e).stay (fun b u hb q => k b u (by
    rcases hb with z | z
    · rw [z, e]; simp
    · rw [z]; simp) q) (fun _ q => q) fun _ _ q => q
theorem HOk.not_at (x : HOk P w H h) (e : h.get? a = none) : H a = none := by
  cases q : H a with
  | none => rfl
  | some u =>
    obtain ⟨ob, z⟩ := (x a u q).there
    rw [e] at z; cases z
end
structure Fly (P : Program) (w : World) (outer : List Env) (H : Hp) (s : Shared) (ea : Addr) (cls : Value) (H' : Hp) (B : Heap) (s' : Shared) : Prop where
  os : s'.os = s.os
  bare : AllBare s'.gens
  fly : ∃ t, Heap.FlyingW B outer ea cls (.ref t) s'.heap
  hok : HOk P w H' B
  un : Un (frs outer) [] H H' s.heap s'.heap
  cov : ∀ b o, s.heap.get? b = some o → H b = none → b ∉ frs outer → B.get? b = some o
  cov2 : ∀ b o, s.heap.get? b = some o → b ∉ frs outer → ∃ o', B.get? b = some o'
def CXo (P : Program) (w : World) : CXT := fun outer H s E e s' => ∃ (ea : Addr) (cls : Value) (H' : Hp) (B : Heap), e = .ref ea ∧ Fly P w outer H s ea cls H' B s' ∧ E cls none H'
section
variable {P : Program} {w : World} {outer : List Env} {H H' : Hp} {s s' : Shared} {ea : Addr} {cls : Value} {B : Heap}
theorem Fly.turn (F : Fly P w outer H s ea cls H' B s') {h2 : Heap} {t : Addr} (f2 : Heap.FlyingW B outer ea cls (.ref t) h2) (k : s'.heap.UpToSlots h2) : Fly P w outer H s ea cls H' B { s' with heap := h2 } := by
  obtain ⟨t0, f⟩ := F.fly
  have frm : ∀ b ∈ frs outer, ∃ o, s'.heap.get? b = some o ∧ ∀ vs, o.data ≠ .fields vs := fun b hb => (f.2.2.1.mem hb).2
  refine ⟨F.os, F.bare, ⟨t, f2⟩, F.hok, ⟨fun b o q n hb hx => f2.1 b o (F.cov b o q n hb), fun b o q n hb hx => ?_, F.un.free, fun b o q hx => ?_, F.un.tups, F.un.frzs, F.un.tbls⟩, F.cov, F.cov2⟩
  · obtain ⟨sl, e1⟩ := F.un.slot b o q n hb hx
    obtain ⟨o', e2, nf⟩ := frm b hb
    rw [e1] at e2; cases e2
    obtain ⟨sl2, e3⟩ := k b _ e1 nf
    exact ⟨sl2, e3⟩
  · by_cases hb : b ∈ frs outer
    · obtain ⟨o', e2, nf⟩ := frm b hb
      obtain ⟨sl2, e3⟩ := k b _ e2 nf
      exact ⟨_, e3⟩
    · obtain ⟨o', e⟩ := F.cov2 b o q hb
      exact ⟨o', f2.1 b o' e⟩
theorem Fly.hok' (F : Fly P w outer H s ea cls H' B s') : HOk P w H' s'.heap := by
  obtain ⟨t0, f⟩ := F.fly
  exact F.hok.kept fun b u q => f.1 b u q
theorem Fly.new (F : Fly P w outer H s ea cls H' B s') : H' ea = none := by
  obtain ⟨t0, f⟩ := F.fly
  exact F.hok.not_at f.2.1
end
structure Own (X : Cx) : Prop where
  stk : X.stack = X.env :: X.outer
  fr : X.env.frame = some X.env.locals
  ex : X.ex = []
section
variable {X : Cx} {pins : List (Addr × Obj)} {σ : St} {H : Hp} {s : Shared}
theorem Inv.offFrame (O : Own X) (I : Inv X pins σ H s) {b : Addr} {o : Obj} (e : X.s₀.heap.get? b = some o) (hb : b ∉ frs X.outer) : b ∉ frs X.stack := fun z => by
  rcases List.mem_cons.mp (I.stkSub b z) with q | q
  · exact absurd (Nat.lt_of_lt_of_le (Heap.lt_size e) I.ok.above) (by rw [q]; exact Nat.lt_irrefl _)
  · exact hb q
theorem Inv.fly (O : Own X) (I : Inv X pins σ H s) {h2 B : Heap} {e t : Addr} {cls : Value} (hB : ∀ b o, s.heap.get? b = some o → b ∉ frs X.stack → B.get? b = some o) (hs : ∀ b o, s.heap.get? b = some o → (∀ vs, o.data ≠ .fields vs) → ∃ sl, h2.get? b = some { o with slots := sl })
    (f : Heap.FlyingW B X.outer e cls (.ref t) h2) : Fly X.prog X.w X.outer X.H₀ X.s₀ e cls H B { s with heap := h2 } := by
  have ox : ∀ b : Addr, b ∉ X.ex := fun b z => by rw [O.ex] at z; cases z
  have frm : ∀ b ∈ frs X.stack, ∃ o, s.heap.get? b = some o ∧ ∀ vs, o.data ≠ .fields vs := fun b hb => (I.stack.mem hb).2
  have sub : ∀ b ∈ frs X.outer, b ∈ frs X.stack := fun b hb => by
    rw [O.stk]
    unfold frs
    rw [List.filterMap_cons, O.fr]
    exact List.mem_cons_of_mem _ hb
  have cov : ∀ b o, X.s₀.heap.get? b = some o → X.H₀ b = none → b ∉ frs X.outer → B.get? b = some o := fun b o q n hb => hB b o (I.base.keep b o q n hb (ox b)) (I.offFrame O q hb)
  have cov2 : ∀ b o, X.s₀.heap.get? b = some o → b ∉ frs X.outer → ∃ o', B.get? b = some o' := fun b o q hb => by
    obtain ⟨o', e1⟩ := I.base.there b o q (ox b)
    exact ⟨o', hB b o' e1 (I.offFrame O q hb)⟩
  refine ⟨I.os, I.bare, ⟨t, f⟩, I.hok.sub fun b u hb q => hB b u q fun z => hb (I.stkFree b z), ⟨fun b o q n hb hx => f.1 b o (cov b o q n hb), fun b o q n hb hx => ?_, fun b o q n hx => I.base.free b o q n (ox b), fun b o q hx => ?_, I.base.tups, I.base.frzs, I.base.tbls⟩, cov, cov2⟩
  · obtain ⟨sl, e1⟩ := I.base.slot b o q n hb (ox b)
    obtain ⟨o', e2, nf⟩ := frm b (sub b hb)
    rw [e1] at e2; cases e2
    obtain ⟨sl2, e3⟩ := hs b _ e1 nf
    exact ⟨sl2, e3⟩
  · by_cases hb : b ∈ frs X.outer
    · obtain ⟨o', e2, nf⟩ := frm b (sub b hb)
      obtain ⟨sl2, e3⟩ := hs b _ e2 nf
      exact ⟨_, e3⟩
    · obtain ⟨o', e⟩ := cov2 b o q hb
      exact ⟨o', f.1 b o' e⟩
theorem Fly.on (O : Own X) (I : Inv X pins σ H s) {H' : Hp} {s' : Shared} {ea t : Addr} {cls : Value} {B h2 : Heap} (F : Fly X.prog X.w X.stack H s ea cls H' B s') (f : Heap.FlyingW B X.outer ea cls (.ref t) h2) (k : s'.heap.UpToSlots h2) :
    Fly X.prog X.w X.outer X.H₀ X.s₀ ea cls H' B { s' with heap := h2 } := by
  have ox : ∀ b : Addr, b ∉ X.ex := fun b z => by rw [O.ex] at z; cases z
  obtain ⟨t0, f0⟩ := F.fly
  have frm : ∀ b ∈ frs X.stack, ∃ o, s'.heap.get? b = some o ∧ ∀ vs, o.data ≠ .fields vs := fun b hb => (f0.2.2.1.mem hb).2
  have sub : ∀ b ∈ frs X.outer, b ∈ frs X.stack := fun b hb => by
    rw [O.stk]
    unfold frs
    rw [List.filterMap_cons, O.fr]
    exact List.mem_cons_of_mem _ hb
  have cov : ∀ b o, X.s₀.heap.get? b = some o → X.H₀ b = none → b ∉ frs X.outer → B.get? b = some o := fun b o q n hb =>
    F.cov b o (I.base.keep b o q n hb (ox b)) (I.base.free b o q n (ox b)) (I.offFrame O q hb)
  have cov2 : ∀ b o, X.s₀.heap.get? b = some o → b ∉ frs X.outer → ∃ o', B.get? b = some o' := fun b o q hb => by
    obtain ⟨o', e1⟩ := I.base.there b o q (ox b)
    exact F.cov2 b o' e1 (I.offFrame O q hb)
  refine ⟨F.os.trans I.os, F.bare, ⟨t, f⟩, F.hok, ⟨fun b o q n hb hx => f.1 b o (cov b o q n hb), fun b o q n hb hx => ?_, fun b o q n hx => ?_, fun b o q hx => ?_, fun b xs e => F.un.tups b xs (I.base.tups b xs e),
    fun b o xs e => F.un.frzs b o xs (I.base.frzs b o xs e), fun b ps e => ?_⟩, cov, cov2⟩
  · obtain ⟨sl, e1⟩ := I.base.slot b o q n hb (ox b)
    obtain ⟨sl1, e2⟩ := F.un.slot b _ e1 (I.stkFree b (sub b hb)) (sub b hb) (by simp)
    obtain ⟨o', e3, nf⟩ := frm b (sub b hb)
    rw [e2] at e3; cases e3
    obtain ⟨sl2, e4⟩ := k b _ e2 nf
    exact ⟨sl2, e4⟩
  · obtain ⟨o', e1⟩ := I.base.there b o q (ox b)
    exact F.un.free b o' e1 (I.base.free b o q n (ox b)) (by simp)
  · by_cases hb : b ∈ frs X.outer
    · obtain ⟨o', e2, nf⟩ := frm b (sub b hb)
      obtain ⟨sl2, e3⟩ := k b _ e2 nf
      exact ⟨_, e3⟩
    · obtain ⟨o', e⟩ := cov2 b o q hb
      exact ⟨o', f.1 b o' e⟩
  · obtain ⟨m1, e1⟩ := I.base.tbls b ps e
    obtain ⟨m2, e2⟩ := F.un.tbls b _ e1
    exact ⟨m1 ++ m2, by rw [e2, Array.append_assoc]⟩
end
def Flies (X : Cx) (E : XK) : Prop := ∀ (pins : List (Addr × Obj)) (σ : St) (H : Hp) (s : Shared) (h' : Heap) (e : Addr) (cls : Value) (vs : List Value), Inv X pins σ H s → Heap.MadeExcOf s.heap h' e cls vs → E cls none H → X.xe (.ref e) { s with heap := h' }
section
variable {P : Program} {w : World} {K : PySem.W.Frag} {mg : Str → Option Value} {base : Heap} {N : List Str} {qual : Str} {scope : Scope} {f : Addr} {cd : Value} {A : Around} {outer : List Env} {s : Shared} {H : Hp} {E : XK} {CX : CXT}
theorem own_cx : Own (cxOf CX P w K mg base N qual scope f cd A outer s H E) := ⟨rfl, rfl, rfl⟩
theorem flies_o : Flies (cxOf (CXo P w) P w K mg base N qual scope f cd A outer s H E) E := by
  intro pins σ H1 s1 h' e cls vs I hx hE
  have O : Own (cxOf (CXo P w) P w K mg base N qual scope f cd A outer s H E) := own_cx
  have hin : ∀ env ∈ (cxOf (CXo P w) P w K mg base N qual scope f cd A outer s H E).stack, ∀ b, env.frame = some b → b ∈ frs (cxOf (CXo P w) P w K mg base N qual scope f cd A outer s H E).stack := fun env he b hb => List.mem_filterMap.mpr ⟨env, he, hb⟩
  refine wpAny_leaves_madeW (base := PySem.W.hideAll s1.heap (frs (cxOf (CXo P w) P w K mg base N qual scope f cd A outer s H E).stack)) (h := s1.heap) I.ok.frames rfl (fun b o q => PySem.W.of_hideAll _ q) (PySem.W.funFrames_hide I.stack hin) hx fun h2 t x1 x2 x3 x4 => ?_
  refine ⟨e, cls, H1, _, rfl, I.fly O (fun b o q nm => PySem.W.hideAll_get _ q nm) (fun b o q nf => x4 b o (hx.keeps b o q) nf) x1, hE⟩
theorem pass_o {E' : XK} (hE : ∀ c d H', E' c d H' → E c d H') : Passes (CXo P w) (cxOf (CXo P w) P w K mg base N qual scope f cd A outer s H E) E' := by
  intro pins σ H1 s1 e s' I hc
  have O : Own (cxOf (CXo P w) P w K mg base N qual scope f cd A outer s H E) := own_cx
  obtain ⟨ea, cls, H', B, rfl, F, q⟩ := hc
  obtain ⟨t, fl⟩ := F.fly
  refine wpAny_leaves_onW I.ok.frames rfl fl fun h2 f2 k => ?_
  exact ⟨ea, cls, H', B, rfl, Fly.on O I F f2 k, hE _ _ _ q⟩
end
end L2
set_option Elab.async false
set_option linter.all false
set_option maxRecDepth 100000
set_option maxHeartbeats 4000000
namespace L2
open PySem PySem.Spec PyProof.Rows
structure ExCls (K : PySem.W.Frag) (C : Addr) : Prop where
  ok : PySem.W.excIn K C [.type "ValueError", .type "Exception", .type "BaseException", .type "object"] "ValueError.__new__" = true
theorem ExCls.obj {K : PySem.W.Frag} {C : Addr} (x : ExCls K C) {h : Heap} (X : K.In h) (mg : Str → Option Value) (hm : mg "C" = some (.ref C)) :
    OwnCls "C" C [.type "ValueError", .type "Exception", .type "BaseException", .type "object"] "ValueError.__new__" mg h := by
  refine ⟨hm, ?_⟩
  have q := x.ok
  unfold PySem.W.excIn at q
  split at q
  case h_2 => cases q
  case h_1 dd cd sl ho =>
    split at q
    case h_2 => cases q
    case h_1 C' bm k0 k1 k2 k3 n k5 hmr hs =>
      simp only [Bool.and_eq_true, beq_iff_eq, Bool.not_eq_true'] at q
      obtain ⟨⟨⟨⟨⟨q1, q2⟩, q3⟩, q4⟩, q5⟩, q6⟩ := q
      subst q1 q2
      obtain ⟨nm, bs, mro, ns, qn, hd, sn, sub, ab, col, del⟩ := cd
      dsimp only at hmr q3 q5 q6
      subst hmr q3
      have es : sl = #[k0, k1, k2, k3, some (.builtin "ValueError.__new__"), k5] := Array.toList_inj.mp (by rw [hs])
      subst es
      exact ⟨bm, ns, nm, qn, bs, hd, sn, sub, ab, col, dd, k0, k1, k2, k3, k5, _, X _ _ ho, .of_isNs (PySem.W.isNs_of_in X q5), PySem.W.nsMap_none_of_in X q5 q6, PySem.W.tail_of_in X q4⟩
def tRaise (C : Addr) (t : TA) (E : XK) : TS := fun _ σ H => t σ H fun vs H1 => vs.length ≤ sizeLine ∧ E (.ref C) none H1
section
variable {X : Cx}
theorem ps_raise {x : Str} {C : Addr} {np cpos pos : Pos} {e₀ : Expr} {rest : List Expr} {t : TA} {E : XK} (hc : X.calm = true) (c : ExCls X.K C) (hg : Gl X x) (hm : X.mg x = some (.ref C)) (ha : PA X (e₀ :: rest) t) (hE : Flies X E)
    (he : starEach (e₀ :: rest) X.env = (false, eval e₀ X.env) :: starEach rest X.env := by rfl) (hplain : (backTo cpos (starEach rest X.env)).any (·.1) = false := by rfl)
    (hd : (x == ("__debug__" : Str)) = false := by decide) :
    PS X (.Raise (some (.Call (.Name x np) (e₀ :: rest) [] cpos)) none pos) (tRaise C t E) := by
  intro pins s σ H D I h
  obtain ⟨tl, N, nm, q, bs, hdct, sn, sub, ab, col, dd, k0, k1, k2, k3, k5, mN, hC, hN, hni, T⟩ := (c.obj I.mod.kin (fun _ => some (.ref C)) rfl).obj
  refine wpAny_Raise_call_subT (C := C) (nm := nm) (q := q) (N := N) (bs := bs) (bm := tl) (hdct := hdct) (sn := sn) (sub := sub) (ab := ab) (col := col) (dd := dd) (k0 := k0) (k1 := k1) (k2 := k2) (k3 := k3) (k5 := k5)
    PySem.F.excBase_ValueError (mN := mN) (T.hasType PySem.F.excBase_ValueError.hasBase) (I.ok.hd hc) (by rw [he]; show (false || (backTo cpos (starEach rest X.env)).any (·.1)) = false; rw [hplain]; rfl) hni (ld_glob I hg hm ⟨rfl, ?_⟩ hd)
  have h' := ha cpos pins s σ H _ I h
  rw [he] at h' ⊢
  refine Calls.evalArgs_plain (wpAny_mono h' (fun vs s2 ⟨ws, H2, I2, r, q⟩ => ?_) fun _ _ y => y)
  refine ⟨rfl, by rw [← r.length]; exact q.1, I2.bk _ _ hC, hN.keeps I2.bk, T.keeps I2.bk, fun h' e hx => ?_⟩
  exact hE pins σ H2 s2 h' e _ vs I2 hx q.2
end
abbrev TX := St → Hp → VK → XK → Prop
def PX (X : Cx) (e : Expr) (t : TX) : Prop := ∀ (pins : List (Addr × Obj)) (s : Shared) (σ : St) (H : Hp) (Q : VK) (E : XK), Inv X pins σ H s → t σ H Q E →
  wpAny (model X.prog X.w) X.A (eval e X.env) (EP X pins σ Q) (fun ev s' => ∃ H1 s1, Inv X pins σ H1 s1 ∧ CXo X.prog X.w X.stack H1 s1 E ev s') s
def tCallX (sp : Sp) (t : TA) : TX := fun σ H Q E => t σ H fun vs H1 => sp vs H1 Q E
section
variable {X : Cx}
theorem px_call {k : Nat} {f : Addr} {fd : FuncData} {ps : List Str} {sp : Sp} {x : Str} {p pos : Pos} {e : Expr} {es : List Expr} {t : TA} (F : FnOk X.prog X.w X.K X.mg X.base (CXo X.prog X.w) k f fd ps sp) (hr : Room k X.A) (hg : Gl X x) (hm : X.mg x = some (.ref f)) (hk : PySem.W.keepIn X.K (.ref f) = true)
    (hb : Binds X.K fd ps []) (ha : PA X.nox (e :: es) t) (hdb : (x == ("__debug__" : Str)) = false := by decide) (he : starEach (e :: es) X.env = (false, eval e X.env) :: starEach es X.env := by rfl) (hpl : (backTo pos (starEach es X.env)).any (·.1) = false := by rfl) :
    PX X (.Call (.Name x p) (e :: es) [] pos) (tCallX sp t) := by
  intro pins s σ H Q E I h
  refine wpAny_Call_Name_kw (ld_glob I hg hm ?_ hdb)
  refine PySem.W.callWith_K (h₀ := X.base) I.ok.mod.kin hk (wpAny_mono (ha pos pins s σ H _ (I.wish _) h) (fun us s1 ⟨vs, H1, I1', r, q⟩ => ?_) fun _ _ z => False.elim z) he hpl
  have I1 := I1'.unwish
  refine ⟨I1.kIn, ?_⟩
  have hl : us.length = ps.length := by rw [← r.length]; exact F.len _ _ _ _ q
  refine wpAny_call (codeAny_mono (F.run X.A X.stack s1 H1 ⟨us, []⟩ us vs Q E hr I1.env0 (by have z := hb s1 us I1.kIn (by rw [List.append_nil]; exact hl); rwa [List.append_nil] at z) r q) fun r s' hq => ?_)
  cases r with
  | error ev => exact ⟨H1, s1, I1, hq⟩
  | ok fl =>
    cases fl with
    | ret u => exact I1.after hq
    | next => exact False.elim hq
    | brk => exact False.elim hq
    | cont => exact False.elim hq
end
def Cx.marked (X : Cx) (e : Addr) : Cx := { X with A := X.A.mark (some (.ref e)), calm := false, xe := fun _ _ => False }
def xobj (a : Addr) (cls : Value) : HO := .ext fun h => ∃ o vs, h.get? a = some o ∧ o.cls = cls ∧ o.data = .fields vs
theorem xobj_ok {P : Program} {w : World} {H : Hp} {h : Heap} {a : Addr} {cls : Value} (x : ∃ o vs, h.get? a = some o ∧ o.cls = cls ∧ o.data = .fields vs) : ObjOk P w H h a (xobj a cls) := by
  refine ⟨x, ?_, fun h1 h2 ⟨o, vs, e, c, d⟩ k => ⟨o, vs, k o e, c, d⟩⟩
  obtain ⟨o, _, e, _⟩ := x
  exact ⟨o, e⟩
section
variable {X : Cx} {pins : List (Addr × Obj)} {σ : St} {H : Hp} {s : Shared}
theorem Inv.mark (I : Inv X pins σ H s) (e : Addr) : Inv (X.marked e) pins σ H s :=
  ⟨⟨I.ok.mod, I.ok.kind, I.ok.glob, I.ok.blt, I.ok.above, I.ok.inj, I.ok.has, I.ok.cab, (fun z => by cases z), I.ok.frames, I.ok.stk, I.ok.exf, I.ok.bs, I.ok.bsz, I.ok.noex, I.ok.exfs, I.ok.funs, I.ok.frf⟩, I.os, I.bare, I.base, I.loc, I.cell, I.free, I.freeC, I.pin, I.hok, I.len⟩
theorem Inv.unmark {e : Addr} (I : Inv (X.marked e) pins σ H s) (hd : X.calm = true → X.A.handled = none) : Inv X pins σ H s :=
  ⟨⟨I.ok.mod, I.ok.kind, I.ok.glob, I.ok.blt, I.ok.above, I.ok.inj, I.ok.has, I.ok.cab, hd, I.ok.frames, I.ok.stk, I.ok.exf, I.ok.bs, I.ok.bsz, I.ok.noex, I.ok.exfs, I.ok.funs, I.ok.frf⟩, I.os, I.bare, I.base, I.loc, I.cell, I.free, I.freeC, I.pin, I.hok, I.len⟩
theorem Inv.gone {h' : Heap} {t' : Nat} {m' : Str → Option Value} (I : Inv X pins σ H s) (hn : h'.Ns X.env.locals m') (hs : Heap.SameBut X.env.locals s.heap h') : Inv X pins (List.replicate X.N.length none) H { s with heap := h', toks := t' } := by
  have cne := I.cne
  have neL : ∀ b o, X.s₀.heap.get? b = some o → b ≠ X.env.locals := fun b o e => Nat.ne_of_lt (Nat.lt_of_lt_of_le (Heap.lt_size e) I.ok.above)
  have kp : ∀ b o, b ≠ X.env.locals → s.heap.get? b = some o → h'.get? b = some o := fun b o hb e => (hs.2 b hb).trans e
  refine ⟨I.ok, I.os, I.bare, ⟨fun b o e n hb hx => kp b o (neL b o e) (I.base.keep b o e n hb hx), fun b o e n hb hx => ?_, I.base.free, fun b o e hx => ?_, I.base.tups, I.base.frzs, I.base.tbls⟩, ⟨m', hn, fun j y v e1 e2 e3 => ?_⟩, fun y c e => ?_, I.free, I.freeC, fun p hp => ?_, fun b u e => ?_, by simp⟩
  · obtain ⟨sl, e1⟩ := I.base.slot b o e n hb hx
    exact ⟨sl, kp b _ (neL b o e) e1⟩
  · obtain ⟨o', e1⟩ := I.base.there b o e hx
    exact ⟨o', kp b _ (neL b o e) e1⟩
  · rw [List.getElem?_replicate] at e2
    split at e2 <;> cases e2
  · obtain ⟨v, z⟩ := I.cell y c e
    exact ⟨v, z.sameBut hs (cne y c e)⟩
  · obtain ⟨e, n, ne, nf, d⟩ := I.pin p hp
    exact ⟨kp _ _ ne e, n, ne, nf, d⟩
  · refine (I.hok b u e).stay (fun c v hc q => kp c v ?_ q) (fun _ q => q) fun _ _ q => q
    rintro rfl
    rcases hc with z | z
    · rw [← z, I.free] at e; cases e
    · rw [I.free] at z; cases z
end
end L2
set_option Elab.async false
set_option linter.all false
set_option maxRecDepth 100000
set_option maxHeartbeats 4000000
namespace L2
open PySem PySem.Spec PyProof.Rows
section
variable {X : Cx} {pins : List (Addr × Obj)} {σ : St} {H : Hp} {s : Shared}
theorem Inv.landed (I : Inv X pins σ H s) {H' : Hp} {s' : Shared} {ea : Addr} {cls : Value} {B : Heap} (F : Fly X.prog X.w X.stack H s ea cls H' B s') : Inv X pins σ (upd H' ea (xobj ea cls)) s' := by
  obtain ⟨t, f⟩ := F.fly
  have hn := F.new
  have hob : ∃ o vs, s'.heap.get? ea = some o ∧ o.cls = cls ∧ o.data = .fields vs := by
    obtain ⟨oe, vs, e, c, d, _⟩ := f.first
    exact ⟨oe, vs, e, c, d⟩
  have eB : ∀ b o, B.get? b = some o → b ≠ ea := fun b o e z => by rw [z, f.2.1] at e; cases e
  refine I.call' (ch := []) F.os ⟨F.un.keep, F.un.slot, fun b o q n hx => ?_, F.un.there, fun b xs q => ?_, fun b o u q => ?_, fun b ps q => ?_⟩ ?_ F.bare (fun b z => absurd z (by simp))
  · have hb : b ≠ ea := by
      by_cases hf : b ∈ frs X.stack
      · intro z
        obtain ⟨o', e2, nf⟩ := (f.2.2.1.mem hf).2
        obtain ⟨ob, vs, e3, _, d⟩ := hob
        rw [z] at e2
        rw [e2] at e3
        cases e3
        exact nf vs d
      · exact eB b o (F.cov b o q n hf)
    rw [upd_ne hb]
    exact F.un.free b o q n hx
  · rw [upd_ne (ne_of_none (F.un.tups b xs q) hn)]
    exact F.un.tups b xs q
  · rw [upd_ne (ne_of_none (F.un.frzs b o u q) hn)]
    exact F.un.frzs b o u q
  · obtain ⟨m, e⟩ := F.un.tbls b ps q
    exact ⟨m, by rw [upd_ne (ne_of_none e hn)]; exact e⟩
  · intro b u e
    by_cases hb : b = ea
    · subst hb
      rw [upd_same] at e
      cases e
      exact xobj_ok hob
    · rw [upd_ne hb] at e
      refine (F.hok' b u e).stay (fun _ _ _ q => q) (fun c q => ?_) fun c xs q => ?_
      · rw [upd_ne (ne_of_none q hn)]; exact q
      · rw [upd_ne (ne_of_none q hn)]; exact q
end
def tTry (K : PySem.W.Frag) (i : Nat) (C : Addr) (t : TX) (th : Addr → TS) : TS := fun D σ H => t σ H (fun _ H1 => D.nx σ H1) fun cls _ H1 =>
  PySem.W.exmOne K cls (.ref C) = some true ∧ ∀ ea, H1 ea = none → th ea { nx := fun _ _ => False, rt := D.rt } (σ.set i (some (.ref ea))) (upd H1 ea (xobj ea cls))
section
variable {X : Cx}
theorem ps_try {i : Nat} {n c : Str} {C : Addr} {e : Expr} {b₀ : Stmt} {suite : List Stmt} {t : TX} {th : Addr → TS} {np epos hpos pos : Pos} (O : Own X) (hc : X.calm = true) (he : PX X e t) (hg : Gl X c) (hm : X.mg c = some (.ref C)) (hN : X.N.Nodup) (hi : X.N[i]? = some n)
    (hl : X.env.kindOf n = some .local) (hb : ∀ ea, PSs (X.marked ea) (b₀ :: suite) (th ea)) (hs : swapsWith e none epos.line X.env = pure false := by rfl) (hd : (c == ("__debug__" : Str)) = false := by decide) :
    PS X (.Try [.Expr e epos] [.ExceptHandler (some (.Name c np)) (some n) (b₀ :: suite) hpos] [] [] pos) (tTry X.K i C t th) := by
  intro pins s σ H D I h
  have hp : (X.env.scope.kind == .class || (X.env.scope.kind == .module && X.env.locals != X.env.globals)) = false := by rw [I.ok.kind]; rfl
  refine wpAny_Try_except (wpAny_execs_cons ?_)
  refine wpAny_Expr_any (wpAny_mono (he pins s σ H _ _ I h) (fun v s1 ⟨x, H1, I1, r1, q1⟩ => wpAny_execs_nil (wpAny_execs_nil ⟨σ, H1, I1, q1⟩)) fun ev s1 q => ?_) I.quiet hs
  obtain ⟨H1, s0, I0, ea, cls, H', B, rfl, F, hx, q⟩ := q
  obtain ⟨t1, f1⟩ := F.fly
  refine wpAny_looks_onW (I0.ok.frames.trans (congrArg some O.stk)) O.fr (by rw [← O.stk]; exact f1) fun h2 held2 k2 => ?_
  refine wpAny_landsW held2 fun h3 fl3 k3 => ?_
  rw [← O.stk] at fl3
  have F3 := F.turn fl3 (k2.trans k3)
  have I3 := I0.landed F3
  refine wpAny_handleBy_cons (codeAny_handlers_test (ld_glob (X := X.marked ea) (I3.mark ea) hg hm ?_ hd)) (by intro z; cases z)
  obtain ⟨ob, hob, hcl⟩ := fl3.there
  refine (PySem.W.exm_one (M := model X.prog X.w) I3.kIn (by subst hcl; exact (PySem.W.Looks.ld hob).andThen .now) hx).here ?_
  refine codeAny_handlers_suite_as ?_
  refine lands_againW fl3 fun h4 fl4 k4 => ?_
  have F4 := F3.turn fl4 k4
  have I4 := (I0.landed F4).mark ea
  refine store_ok (X := X.marked ea) (v := .ref ea) I4 hN hi (Or.inl hl) rfl (fun s5 I5 => ?_) (.inr hl)
  refine wpAny_mono (hb ea pins s5 _ _ _ I5 (q ea F4.new)) (fun fl s6 q6 => ?_) fun _ _ z => False.elim z
  cases fl with
  | next => obtain ⟨σ6, H6, I6, q6⟩ := q6; exact False.elim q6
  | ret u =>
    obtain ⟨v, σ6, H6, I6, r, q6⟩ := q6
    have J := I6.unmark (I.ok.hd)
    obtain ⟨m, hn, _⟩ := id J.loc
    exact wpAny_nameGoes hl hn hp fun h7 m7 hn7 hs7 => ⟨v, _, _, J.gone hn7 hs7, r, q6⟩
  | brk => obtain ⟨σ6, H6, I6, q6⟩ := q6; exact False.elim q6
  | cont => obtain ⟨σ6, H6, I6, q6⟩ := q6; exact False.elim q6
end
end L2
set_option Elab.async false
set_option linter.all false
set_option maxRecDepth 100000
set_option maxHeartbeats 4000000
namespace L2
open PySem PySem.Spec PySem.Calls PyProof.Rows PySem.W PySem.Builtin PySem.Builtin.ObjectAttr PySem.Builtin.Getset_descriptor
structure XcK (K : PySem.W.Frag) (C : Addr) : Prop where
  ga : PySem.W.findIn K (.ref C) "__getattribute__" = some (some (.builtin "BaseException.__getattribute__"))
  gt : PySem.W.findIn K (.ref C) "__getattr__" = some none
  ca : PySem.W.findIn K (.ref C) "__class__" = some (some (.builtin "object.__class__"))
  gs : PySem.W.specialIn K (.builtin "object.__class__") "__get__" = some (some (.builtin "getset_descriptor.__get__"))
  tk : PySem.W.takesIn K (.builtin "object.__class__") = some true
  mo : PySem.W.mroIn K C (.type "object") = some true
  mb : PySem.W.mroIn K C (.type "BaseException") = some true
  cl : ∃ o, K.lookup C = some o ∧ ∃ cd, o.data = .cls cd
section
variable {prog : Program} {w : World} {A : Around} {E : Value → Shared → Prop} {K : PySem.W.Frag} {x C : Addr} {h : Heap} {g : Array GenState} {d : Drawn} {t : Nat} {os : OsState}
theorem xc_find {M : Model} (X : K.In h) (k : XcK K C) : PySem.W.Looks M h (Builtin.ObjectAttr.find (.ref x) (.ref C) "__class__") (.bind (.builtin "getset_descriptor.__get__") (.builtin "object.__class__")) := by
  have L1 := PySem.W.looks_findIn (M := M) X k.ca
  have L2 := PySem.W.looks_specialIn (M := M) X k.gs
  have L3 := PySem.W.looks_takesIn (M := M) X k.tk
  have L4 : Looks M h (dataDescriptor? (some (.builtin "object.__class__")) (some (.builtin "getset_descriptor.__get__"))) (some (.builtin "getset_descriptor.__get__", .builtin "object.__class__")) := L3.andThen .now
  exact L1.andThen (L2.andThen (L4.andThen (Looks.tag .now)))
theorem xc_get {R : Result → Shared → Prop} {tp : Value} (X : K.In h) (L0 : ∀ M : Model, PySem.W.Looks M h (typeOf (.ref x)) (.ref C)) (k : XcK K C) (q : R (.ok (.ret (.ref C))) ⟨h, g, d, t, os⟩) :
    codeAny (model prog w) A (.call (.builtin "getset_descriptor.__get__") ⟨[.builtin "object.__class__", .ref x, tp], []⟩) R ⟨h, g, d, t, os⟩ := by
  have T0 := L0 (model prog w)
  have T1 := PySem.W.looks_mroIn (M := model prog w) X k.mo
  refine codeAny_call_builtin PySem.W.KF.slot_gs.plain PySem.W.KF.entry_gs ?_
  refine PySem.W.KF.slot_gs.check _ _ _ _ _ _ _ _ PySem.W.KF.type_class (PySem.W.KF.args_gs _ _ _) ?_
  unfold «getset_descriptor.__get__» descrGet
  rw [dga_obj]
  refine wpAny_bind (wpAny_pure ?_)
  unfold descrGetter descrCheckInstance
  unfold descrNameAndClass isInstance
  simp only [KF.owner_class]
  repeat lk
  refine ⟨Code.quiet_builtin _ (by decide +kernel), ?_⟩
  refine codeAny_builtin KF.entry_class ?_
  unfold «object.__class__» shownTypeOf
  repeat lk
  exact q
theorem xc_class {Q : Option Value → Shared → Prop} (X : K.In h) (L0 : ∀ M : Model, Looks M h (typeOf (.ref x)) (.ref C)) (k : XcK K C) (q : Q (some (.ref C)) ⟨h, g, d, t + 1, os⟩) :
    wpAny (model prog w) A (getAttr? (.ref x) "__class__") Q E ⟨h, g, d, t, os⟩ := by
  have T0 := L0 (model prog w)
  have T1 := looks_findIn (M := model prog w) X k.ga
  have T2 := looks_findIn (M := model prog w) X k.gt
  have T3 := xc_find (x := x) (M := model prog w) X k
  have T4 := looks_mroIn (M := model prog w) X k.mb
  have f3 := F.attr_ValueError.ga.bind (.ref x)
  unfold getAttr? getAttrBy? getAttrBy
  refine wpAny_bind (wpAny_mkText (wpAny_bind (wpAny_attempt (wpAny_holding (wpAny_bind (T0.at (wpAny_bind (T1.at ?_))))))))
  show wpAny _ _ (getAttrByItsOwn _ _ _ _ _ _) _ _ _
  unfold getAttrByItsOwn hookBefore
  refine wpAny_bind (T2.at ?_)
  refine wpAny_bind (wpAny_attempt (wpAny_holding ?_))
  show wpAny _ _ (boundAndCalled _ _ _) _ _ _
  unfold boundAndCalled
  refine wpAny_bind (wpAny_of_eq f3 ?_)
  refine wpAny_call (codeAny_call_builtin F.attr_ValueError.ga.plain F.entry_bexc_ga ?_)
  have hk : builtinKind "BaseException.__getattribute__" = some .slot := by decide +kernel
  have hsp : splitId "BaseException.__getattribute__" = some ("BaseException", "__getattribute__") := by decide +kernel
  have ha := F.args_bexc_ga (.ref x) (.str "__class__" t)
  simp only [checkBuiltinCall, hk, hsp]
  refine wpAny_bind ?_
  unfold isInstance
  repeat (any_goals (first | assumption | lk | wp_step))
  refine wpAny_run (xc_get X L0 k ?_)
  repeat (any_goals (first | assumption | lk | wp_step))
end
end L2
set_option Elab.async false
set_option linter.all false
set_option maxRecDepth 100000
set_option maxHeartbeats 4000000
namespace L2
open PySem PySem.Spec PySem.Calls PyProof.Rows PySem.W
theorem kitx_xc {K : Frag} {x C : Addr} (k : XcK K C) : KitX K (.ref x) (.ref C) (fun h => ∃ o vs, h.get? x = some o ∧ o.cls = .ref C ∧ o.data = .fields vs) where
  ty := fun M h _ ⟨o, _, e, c, _⟩ => c ▸ (Looks.ld e).andThen .now
  it := fun M h X _ => by
    obtain ⟨o, ho, cd, hd⟩ := k.cl
    obtain ⟨oc, od, dt, sl⟩ := o
    dsimp only at hd
    subst hd
    intro A' Q' E' s' k q
    unfold isType loadHead
    exact wpAny_bind (wpAny_loadPart (k _ _ (X _ _ ho)) (wpAny_pure q))
  ne := fun h tp dd its n sl X htp => by
    obtain ⟨o, ho, cd, hd⟩ := k.cl
    refine Bool.eq_false_iff.mpr fun q => ?_
    have e : C = tp := Value.ref.inj (beq_iff_eq.mp q)
    subst e
    have z := (X _ _ ho).symm.trans htp
    cases z
    cases hd
  ca := fun {prog w A E Q s} X p q => by
    obtain ⟨h, g, d, t, os⟩ := s
    obtain ⟨o, vs, e, c, _⟩ := p
    exact xc_class X (fun M => c ▸ (Looks.ld e).andThen .now) k q
def cV : V → Value
  | .ref a => .ref a
  | .ty n => .type n
  | _ => .none
inductive IsIn (K : Frag) (H : Hp) : V → V → Bool → Prop where
  | val {x c : V} {t : Value} {b : Bool} (ty : TyOf K H x t) (e : kitOne K t (cV c) = some b) (hc : cV c ≠ .none) : IsIn K H x c b
  | exc {a C : Addr} {c : V} {b : Bool} (ex : H a = some (xobj a (.ref C))) (k : XcK K C) (e : kitOne K (.ref C) (cV c) = some b) (hc : cV c ≠ .none) : IsIn K H (.ref a) c b
theorem rel_cV {c : V} {u : Value} (r : RelV c u) (h : cV c ≠ .none) : u = cV c := by
  cases c <;> first | exact r | exact absurd rfl h
section
variable {X : Cx}
theorem call_isin : CallR X (.builtin "isinstance") (fun xs H Q => ∃ x c b, xs = [x, c] ∧ IsIn X.K H x c b ∧ Q (.bl b) H) := by
  intro pins s σ H xs us Q I r h
  obtain ⟨x, c, b, rfl, hi, q⟩ := h
  obtain ⟨u, v, rfl, r1, r2⟩ := vals2 r
  cases hi with
  | val ty e hc =>
    rw [rel_cV r2 hc]
    exact isinst_ok I r1 ty e fun tk => ⟨.bl b, H, I.tok _, rfl, q⟩
  | @exc a C _ _ ex k e hc =>
    rw [rel_cV r2 hc]
    cases (show u = Value.ref a from r1)
    obtain ⟨p, _⟩ := (show ObjOk X.prog X.w H s.heap a (xobj a (.ref C)) from I.hok a _ ex)
    exact kia_one (kitx_xc k) I.kIn p e (fun z => nomatch z) fun tk => ⟨.bl b, H, I.tok _, rfl, q⟩
theorem op_mulI : OpR X (binaryOp .Mult) (rI IntMulOk fun i j => .int (i * j)) := opI fun _ _ _ _ _ _ _ hc q => mul_int q hc
end
structure Pyl (X : Cx) : Prop where
  tree : X.prog.given.tree = none
  fr : ∃ env l, X.stack = env :: l ∧ env.scope.isGenerator = false ∧ env.scope.isCoroutine = false ∧ env.builtins = builtinsNs ∧ env.globals = mainGlobals
  dp : X.A.depth + Builtin.pylongFrames < recursionLimit
theorem Pyl.room {X : Cx} (p : Pyl X) {pins : List (Addr × Obj)} {σ : St} {H : Hp} {s : Shared} (I : Inv X pins σ H s) : PylongRoom (model X.prog X.w) X.A s := by
  obtain ⟨env, l, h1, h2, h3, h4, h5⟩ := p.fr
  exact PylongRoom.of I.nolimit p.dp (SeerAt.of (I.ok.mod.seer.keeps I.bk) p.tree (I.ok.frames.trans (congrArg some h1)) h2 h3 h4 h5)
section
variable {X : Cx}
theorem op_fdivP (p : Pyl X) : OpR X (binaryOp .FloorDiv) (rI (fun _ j => j ≠ 0) fun i j => .int (i.fdiv j)) := by
  intro pins s σ H x y v u Q I rx ry h
  obtain ⟨i, j, rfl, rfl, hc, q⟩ := h
  obtain ⟨t, rfl⟩ := rx
  obtain ⟨t', rfl⟩ := ry
  exact floordiv_int hc ⟨.int (i.fdiv j), H, I.tok _, ⟨_, rfl⟩, q⟩ (Or.inr (p.room I))
end
end L2
set_option Elab.async false
set_option linter.all false
set_option maxRecDepth 100000
set_option maxHeartbeats 4000000
namespace L2
open PySem PySem.Spec PySem.Calls PyProof.Rows
def DefK (K : PySem.W.Frag) (mg : Str → Option Value) (x : Str) (st : Stmt) (ps : List Str) : Prop := ∃ f fd, Fun K x x st f fd ∧ mg x = some (.ref f) ∧ Binds K fd ps []
def OkF (P : Program) (w : World) (K : PySem.W.Frag) (mg : Str → Option Value) (base : Heap) (CX : CXT) (k : Nat) (x : Str) (ps : List Str) (sp : Sp) : Prop :=
  ∃ f fd, FnOk P w K mg base CX k f fd ps sp ∧ mg x = some (.ref f) ∧ PySem.W.keepIn K (.ref f) = true ∧ Binds K fd ps []
theorem def_mk {K : PySem.W.Frag} {h : Heap} {mg : Str → Option Value} (X : K.In h) (G : h.Ns mainGlobals mg) {x : Str} {st : Stmt} (ps : List Str) {f : Addr} {oc : Value} {od an : Option Addr} {osl : Array (Option Value)} {kV doc pm cdv ct : Value}
    (a : PySem.W.nsIn K mainGlobals x = some (some (.ref f))) (l : K.lookup f = some ⟨oc, od, .func (PySem.W.fnOf x x (defArgs st) (defBody st) (defScope st) .none kV doc pm an cdv ct), osl⟩)
    (c : PySem.W.codeIn K cdv x = true) (k : PySem.W.keepIn K (.ref f) = true)
    (hb : ∀ (kV doc pm : Value) (an : Option Addr) (cdv ct : Value) (us : List Value), us.length = ps.length → bindArgs (PySem.W.fnOf x x (defArgs st) (defBody st) (defScope st) .none kV doc pm an cdv ct) ⟨us, []⟩ = pure (ps.zip us)) : DefK K mg x st ps :=
  have F := fun_mk (st := st) l c k
  ⟨f, _, F, PySem.W.mg_of X G a, F.binds hb⟩
section
variable {P : Program} {w : World} {K : PySem.W.Frag} {mg : Str → Option Value} {base : Heap}
theorem DefK.ok {x : Str} {st : Stmt} {N ps : List Str} {k : Nat} {sp : Sp} (d : DefK K mg x st ps) (S : FnScope N ps (defScope st)) (len : ∀ vs H Q E, sp vs H Q E → vs.length = ps.length)
    (hbody : ∀ (f : Addr) (cdv : Value) (A : Around) (outer : List Env) (s : Shared) (H : Hp) (vs : List V) (Q : VK) (E : XK), Room k (A.deeper (envOfC x (defScope st) s.heap.objs.size f cdv)) → sp vs H Q E →
      ∃ t, PSs (cxOf CX0 P w K mg base N x (defScope st) f cdv A outer s H E).nox (defBody st) t ∧ t { nx := fun _ H' => Q .non H', rt := Q } (start N vs) H) : OkF P w K mg base CX0 (k + 1) x ps sp := by
  obtain ⟨f, fd, F, m, b⟩ := d
  exact ⟨f, fd, F.ok S len fun cdv A outer s H vs Q E hr h => hbody f cdv A outer s H vs Q E hr h, m, F.kp, b⟩
theorem DefK.okX {x : Str} {st : Stmt} {N ps : List Str} {k : Nat} {sp : Sp} (d : DefK K mg x st ps) (S : FnScope N ps (defScope st)) (len : ∀ vs H Q E, sp vs H Q E → vs.length = ps.length)
    (hbody : ∀ (f : Addr) (cdv : Value) (A : Around) (outer : List Env) (s : Shared) (H : Hp) (vs : List V) (Q : VK) (E : XK), Room k (A.deeper (envOfC x (defScope st) s.heap.objs.size f cdv)) → sp vs H Q E →
      ∃ t, PSs (cxOf (CXo P w) P w K mg base N x (defScope st) f cdv A outer s H E) (defBody st) t ∧ t { nx := fun _ H' => Q .non H', rt := Q } (start N vs) H) : OkF P w K mg base (CXo P w) (k + 1) x ps sp := by
  obtain ⟨f, fd, F, m, b⟩ := d
  obtain ⟨oc, od, kV, doc, pm, an, cdv, ct, osl, rfl, lk, hcd⟩ := F.ex
  exact ⟨f, _, fn_of lk hcd S len fun A outer s H vs Q E hr hsp => hbody f cdv A outer s H vs Q E hr hsp, m, F.kp, b⟩
end
section
variable {X : Cx} {x : Str} {ps : List Str} {sp : Sp} {k : Nat} {p pos : Pos} {e : Expr} {es : List Expr} {t : TA}
theorem pe_fn (o : OkF X.prog X.w X.K X.mg X.base CX0 k x ps sp) (hr : Room k X.A) (hg : Gl X x) (ha : PA X (e :: es) t) (hdb : (x == ("__debug__" : Str)) = false := by decide)
    (he : starEach (e :: es) X.env = (false, eval e X.env) :: starEach es X.env := by rfl) (hpl : (backTo pos (starEach es X.env)).any (·.1) = false := by rfl) : PE X (.Call (.Name x p) (e :: es) [] pos) (tCall sp [] E0 t) := by
  obtain ⟨f, fd, F, m, kp, b⟩ := o
  exact pe_call F hr hg m kp b .nil pass0 ha hdb he hpl
theorem pe_fnX {E : XK} (o : OkF X.prog X.w X.K X.mg X.base (CXo X.prog X.w) k x ps sp) (hx : Passes (CXo X.prog X.w) X E) (hr : Room k X.A) (hg : Gl X x) (ha : PA X (e :: es) t) (hdb : (x == ("__debug__" : Str)) = false := by decide)
    (he : starEach (e :: es) X.env = (false, eval e X.env) :: starEach es X.env := by rfl) (hpl : (backTo pos (starEach es X.env)).any (·.1) = false := by rfl) : PE X (.Call (.Name x p) (e :: es) [] pos) (tCall sp [] E t) := by
  obtain ⟨f, fd, F, m, kp, b⟩ := o
  exact pe_call F hr hg m kp b .nil hx ha hdb he hpl
theorem px_fn (o : OkF X.prog X.w X.K X.mg X.base (CXo X.prog X.w) k x ps sp) (hr : Room k X.A) (hg : Gl X x) (ha : PA X.nox (e :: es) t) (hdb : (x == ("__debug__" : Str)) = false := by decide)
    (he : starEach (e :: es) X.env = (false, eval e X.env) :: starEach es X.env := by rfl) (hpl : (backTo pos (starEach es X.env)).any (·.1) = false := by rfl) : PX X (.Call (.Name x p) (e :: es) [] pos) (tCallX sp t) := by
  obtain ⟨f, fd, F, m, kp, b⟩ := o
  exact px_call F hr hg m kp b ha hdb he hpl
end
theorem pyl_cx {CX : CXT} {P : Program} {w : World} {K : PySem.W.Frag} {mg : Str → Option Value} {base : Heap} {N : List Str} {qual : Str} {scope : Scope} {f : Addr} {cd : Value} {A : Around} {outer : List Env} {s : Shared} {H : Hp} {E : XK} {k : Nat}
    (ht : P.given.tree = none) (hg : scope.isGenerator = false) (hc : scope.isCoroutine = false) (hr : Room k (A.deeper (envOfC qual scope s.heap.objs.size f cd))) (hk : 32 ≤ k) :
    Pyl (cxOf CX P w K mg base N qual scope f cd A outer s H E) :=
  ⟨ht, ⟨_, _, rfl, hg, hc, rfl, rfl⟩, by have := hr.dp; show (A.deeper _).depth + 100 < _; omega⟩
theorem Pyl.nox {X : Cx} (p : Pyl X) : Pyl X.nox := ⟨p.tree, p.fr, p.dp⟩
theorem law_mk {P : Program} {w : World} {K : PySem.W.Frag} {h : Heap} {mg : Str → Option Value} {n : Nat} {sp : Sp} (X : K.In h) (G : h.Ns mainGlobals mg) {x y : Str} {st : Stmt} {fa f : Addr} {oc : Value} {od an : Option Addr} {osl : Array (Option Value)} {kV doc pm cdv ct : Value} (hfa : mg x = some (.ref fa))
    (a : PySem.W.nsIn K mainGlobals x = some (some (.ref f))) (l : K.lookup f = some ⟨oc, od, .func (PySem.W.fnOf x x (defArgs st) (defBody st) (defScope st) .none kV doc pm an cdv ct), osl⟩)
    (c : PySem.W.codeIn K cdv x = true) (k : PySem.W.keepIn K (.ref f) = true)
    (hb : ∀ v : Value, bindArgs (PySem.W.fnOf x x (defArgs st) (defBody st) (defScope st) .none kV doc pm an cdv ct) ⟨[v], []⟩ = pure [(y, v)])
    (ok : ∀ (fd : FuncData) (base : Heap), K.In base → base.Ns mainGlobals mg → Fun K x x st fa fd → FnOk P w K mg base CX0 n fa fd [y] sp) :
    ∃ fd : FuncData, (∀ (s : Shared) (u : Value), BindsTo s fd ⟨[u], []⟩ [(y, u)]) ∧ ∀ base : Heap, K.In base → base.Ns mainGlobals mg → FnOk P w K mg base CX0 n fa fd [y] sp := by
  have e := hfa.symm.trans (PySem.W.mg_of X G a)
  cases e
  exact ⟨_, fun s u => .of_eq (hb u), fun base kb nb => ok _ base kb nb (fun_mk (st := st) l c k)⟩
end L2
set_option Elab.async false
set_option linter.all false
set_option maxRecDepth 100000
set_option maxHeartbeats 4000000
namespace L2
open PySem PySem.Spec PySem.Calls PyProof.Rows
def capsOf : List (Str × NameKind) → List (Str × Addr) → List (Str × Addr) → List (Str × Addr)
  | [], _, acc => acc
  | (n, k) :: r, cells, acc => if k == .free then capsOf r cells ((n, (cells.lookup n).getD 0) :: acc) else capsOf r cells acc
theorem capsOf_sub {cells : List (Str × Addr)} {x : Str} {c : Addr} : ∀ {names : List (Str × NameKind)} {acc : List (Str × Addr)}, (∀ y ∈ names, y.2 = .free → (cells.lookup y.1).isSome = true) → (capsOf names cells acc).lookup x = some c →
    acc.lookup x = some c ∨ cells.lookup x = some c
  | [], _, _, h => .inl h
  | (n, k) :: r, acc, hf, h => by
    have hr : ∀ y ∈ r, y.2 = .free → (cells.lookup y.1).isSome = true := fun y hy => hf y (List.mem_cons_of_mem _ hy)
    unfold capsOf at h
    by_cases hk : (k == NameKind.free) = true
    · rw [if_pos hk] at h
      rcases capsOf_sub hr h with q | q
      · by_cases hx : (x == n) = true
        · rw [List.lookup_cons, hx] at q
          have e : x = n := beq_iff_eq.mp hx
          subst e
          have z := hf (x, k) (by simp) (beq_iff_eq.mp hk)
          obtain ⟨a, ha⟩ := Option.isSome_iff_exists.mp z
          have ha' : cells.lookup x = some a := ha
          rw [ha'] at q
          right
          rw [ha']
          exact q
        · rw [List.lookup_cons, Bool.eq_false_iff.mpr hx] at q
          exact .inl q
      · exact .inr q
    · rw [if_neg hk] at h
      exact capsOf_sub hr h
theorem capsOf_acc {cells : List (Str × Addr)} {x : Str} : ∀ {names : List (Str × NameKind)} {acc : List (Str × Addr)}, (∃ c, acc.lookup x = some c) → ∃ c, (capsOf names cells acc).lookup x = some c
  | [], _, h => h
  | (n, k) :: r, acc, ⟨c, h⟩ => by
    unfold capsOf
    by_cases hk : (k == NameKind.free) = true
    · rw [if_pos hk]
      refine capsOf_acc ?_
      by_cases hx : (x == n) = true
      · exact ⟨_, by rw [List.lookup_cons, hx]⟩
      · exact ⟨c, by rw [List.lookup_cons, Bool.eq_false_iff.mpr hx]; exact h⟩
    · rw [if_neg hk]
      exact capsOf_acc ⟨c, h⟩
theorem capsOf_has {cells : List (Str × Addr)} {x : Str} : ∀ {names : List (Str × NameKind)} {acc : List (Str × Addr)}, (x, NameKind.free) ∈ names → ∃ c, (capsOf names cells acc).lookup x = some c
  | (n, k) :: r, acc, h => by
    unfold capsOf
    rcases List.mem_cons.mp h with e | h
    · cases e
      rw [if_pos (by decide)]
      exact capsOf_acc ⟨_, by rw [List.lookup_cons, beq_self_eq_true]⟩
    · by_cases hk : (k == NameKind.free) = true
      · rw [if_pos hk]; exact capsOf_has h
      · rw [if_neg hk]; exact capsOf_has h
theorem closure_loop {env : Env} : ∀ (names : List (Str × NameKind)) (acc : List (Str × Addr)), (∀ y ∈ names, y.2 = .free → (env.cells.lookup y.1).isSome = true) →
    (forIn names acc fun (y : Str × NameKind) (r : List (Str × Addr)) => if (y.2 == NameKind.free) = true then (do let a ← cellOf env y.1; pure (ForInStep.yield ((y.1, a) :: r))) else (pure (ForInStep.yield r) : Sem (ForInStep (List (Str × Addr))))) = pure (capsOf names env.cells acc)
  | [], acc, _ => rfl
  | (n, k) :: r, acc, hf => by
    have hr : ∀ y ∈ r, y.2 = .free → (env.cells.lookup y.1).isSome = true := fun y hy => hf y (List.mem_cons_of_mem _ hy)
    rw [List.forIn_cons]
    unfold capsOf
    by_cases hk : (k == NameKind.free) = true
    · obtain ⟨a, ha⟩ := Option.isSome_iff_exists.mp (hf (n, k) (by simp) (beq_iff_eq.mp hk))
      have ha' : env.cells.lookup n = some a := ha
      rw [if_pos hk]
      dsimp only
      rw [if_pos hk, ha']
      have e : cellOf env n = pure a := by unfold cellOf; rw [ha']
      rw [e]
      exact closure_loop r _ hr
    · rw [if_neg hk, if_neg hk]
      exact closure_loop r _ hr
theorem closure_caps {sc : Scope} {env : Env} (hf : ∀ y ∈ sc.names, y.2 = .free → (env.cells.lookup y.1).isSome = true) : closureFor sc env = pure (capsOf sc.names env.cells []) := by
  unfold closureFor
  have h := closure_loop (env := env) sc.names [] hf
  dsimp only
  have e := congrArg (fun t : Sem (List (Str × Addr)) => t >>= fun r => pure r) h
  exact e
end L2
set_option Elab.async false
set_option linter.all false
set_option maxRecDepth 100000
set_option maxHeartbeats 4000000
namespace L2
open PySem PySem.Spec PySem.Calls PyProof.Rows
structure CArg where
  C : Addr
  s₀ : Shared
  H₀ : Hp
  fp : List Addr
def Cx.comp (X : Cx) (sc : Scope) (N : List Str) (c : CArg) : Cx :=
  { X with N := N, s₀ := c.s₀, H₀ := c.H₀, env := compEnvC sc (capsOf sc.names X.env.cells []) c.C X.env, outer := X.stack, stack := X.stack, ex := c.fp, fn := fun _ => false, pn := [], xe := fun _ _ => False }
structure CompOk (SX sc : Scope) (XN N : List Str) (nt : Nat) (caps : List Nat) : Prop where
  kind : sc.kind = .function
  nocell : ∀ y ∈ sc.names, y.2 ≠ .cell
  loc : ∀ y ∈ sc.names, y.2 = .local → sc.names.lookup y.1 = some .local
  free : ∀ y ∈ sc.names, y.2 = .free → SX.names.lookup y.1 = some .cell ∨ SX.names.lookup y.1 = some .free
  len : N.length = nt + caps.length
  cap : ((List.range caps.length).all fun j => match N[nt + j]?, XN[caps.getD j 0]? with
    | some x, some y => x == y && sc.names.lookup x == some .free
    | _, _ => false) = true
theorem mem_lookup {names : List (Str × NameKind)} {x : Str} {k : NameKind} (h : names.lookup x = some k) : (x, k) ∈ names := PySem.mem_of_lookup h
theorem relabel_lookup {env : Env} : ∀ {names : List (Str × NameKind)} {x : Str} {k : NameKind},
    (names.map fun (n, k) => if (k == NameKind.free && env.scope.kind == .function && env.kindOf n == some .cell) = true then (n, NameKind.cell) else (n, k)).lookup x = some k → names.lookup x = some k ∨ (k = .cell ∧ names.lookup x = some .free)
  | [], _, _, h => by simp at h
  | (n, k0) :: r, x, k, h => by
    rw [List.map_cons] at h
    by_cases hx : (x == n) = true
    · by_cases hc : (k0 == NameKind.free && env.scope.kind == .function && env.kindOf n == some .cell) = true
      · dsimp only at h
        rw [if_pos hc, List.lookup_cons, hx] at h
        cases h
        right
        refine ⟨rfl, ?_⟩
        rw [List.lookup_cons, hx]
        simp only [Bool.and_eq_true, beq_iff_eq] at hc
        rw [hc.1.1]
      · dsimp only at h
        rw [if_neg hc, List.lookup_cons, hx] at h
        left
        rw [List.lookup_cons, hx]
        exact h
    · have hx' := Bool.eq_false_iff.mpr hx
      have e : ∀ q : Str × NameKind, q.1 = n → List.lookup x (q :: (r.map fun (n, k) => if (k == NameKind.free && env.scope.kind == .function && env.kindOf n == some .cell) = true then (n, NameKind.cell) else (n, k))) = List.lookup x (r.map fun (n, k) => if (k == NameKind.free && env.scope.kind == .function && env.kindOf n == some .cell) = true then (n, NameKind.cell) else (n, k)) := by
        intro q hq
        obtain ⟨a, b⟩ := q
        dsimp only at hq
        subst hq
        rw [List.lookup_cons, hx']
      rw [e _ (by dsimp only; split <;> rfl)] at h
      rcases relabel_lookup h with z | z
      · left; rw [List.lookup_cons, hx']; exact z
      · right; refine ⟨z.1, ?_⟩; rw [List.lookup_cons, hx']; exact z.2
theorem relabel_free {env : Env} : ∀ {names : List (Str × NameKind)} {x : Str}, names.lookup x = some .free →
    (names.map fun (n, k) => if (k == NameKind.free && env.scope.kind == .function && env.kindOf n == some .cell) = true then (n, NameKind.cell) else (n, k)).lookup x = some .cell ∨
    (names.map fun (n, k) => if (k == NameKind.free && env.scope.kind == .function && env.kindOf n == some .cell) = true then (n, NameKind.cell) else (n, k)).lookup x = some .free
  | [], _, h => by simp at h
  | (n, k0) :: r, x, h => by
    rw [List.map_cons]
    by_cases hx : (x == n) = true
    · rw [List.lookup_cons, hx] at h
      cases h
      dsimp only
      by_cases hc : (NameKind.free == NameKind.free && env.scope.kind == .function && env.kindOf n == some .cell) = true
      · left; rw [if_pos hc, List.lookup_cons, hx]
      · right; rw [if_neg hc, List.lookup_cons, hx]
    · have hx' := Bool.eq_false_iff.mpr hx
      rw [List.lookup_cons, hx'] at h
      dsimp only
      split
      · rw [List.lookup_cons, hx']; exact relabel_free h
      · rw [List.lookup_cons, hx']; exact relabel_free h
theorem comp_loop {prog : Program} {w : World} {A : Around} {R : Result → Shared → Prop} {s : Shared} {elt target iter : Expr} {ifs : List Expr} {scope : Scope} {pos : Pos} {it acc : Value} {env : Env} (J : Nat → Shared → Prop)
    (turn : ∀ n s, J n s → wpAny (model prog w) A (pyNext it) (fun r s₁ => match r with
      | none => R (.ok .next) s₁
      | some v => wpAny (model prog w) A (letOwnedTupleGo target it v) (fun _ s1' => wpAny (model prog w) A (assign target env v) (fun _ s₂ =>
          wpAny (model prog w) A (forIn ifs true fun c r => if r = true then do let ok ← isTrue c env (eval c env); pure (ForInStep.yield ok) else pure (ForInStep.yield r)) (fun ok s₃ =>
            if ok = true then wpAny (model prog w) A (eval elt env) (fun x s₄ => wpAny (model prog w) A (call (.builtin "list.append") [acc, x]) (fun _ s₅ => ∃ m, m < n ∧ J m s₅) (fun _ _ => False) s₄) (fun _ _ => False) s₃
            else ∃ m, m < n ∧ J m s₃) (fun _ _ => False) s₂) (fun _ _ => False) s1') (fun _ _ => False) s₁) (fun _ _ => False) s)
    (n : Nat) (h : J n s) : codeAny (model prog w) A (.compLoop (.ListComp elt [⟨target, iter, ifs, 0⟩] scope pos) 0 it acc env) R s := by
  refine codeAny_loop rfl J (fun n s hJ => ?_) n h
  show wpAny _ A ((compTurn (.ListComp elt [⟨target, iter, ifs, 0⟩] scope pos) 0 it acc env).onRaise (fun x => do noteFrame x env; theTreesLotGoes x)) _ _ s
  refine wpAny_noted ?_
  rw [compTurn_list]
  refine wpAny_bind (wpAny_standAt (wpAny_bind (wpAny_mono (turn n s hJ) (fun r s₁ h₁ => ?_) fun _ _ z => z.elim)))
  cases r with
  | none => exact wpAny_pure h₁
  | some v =>
    refine wpAny_bind (wpAny_mono h₁ (fun _ s1' h1' => ?_) fun _ _ z => z.elim)
    refine wpAny_bind (wpAny_mono h1' (fun _ s₂ h₂ => ?_) fun _ _ z => z.elim)
    refine wpAny_bind (wpAny_mono h₂ (fun ok s₃ h₃ => ?_) fun _ _ z => z.elim)
    cases ok with
    | false => exact wpAny_pure ⟨rfl, h₃⟩
    | true =>
      refine wpAny_bind (wpAny_bind (wpAny_mono h₃ (fun x s₄ h₄ => ?_) fun _ _ z => z.elim))
      refine wpAny_bind (wpAny_mono h₄ (fun _ s₅ h₅ => ?_) fun _ _ z => z.elim)
      exact wpAny_pure (wpAny_pure ⟨rfl, h₅⟩)
section
variable {X : Cx} {pins : List (Addr × Obj)} {σ : St} {H : Hp} {s : Shared} {sc : Scope} {N XN : List Str} {nt : Nat} {caps : List Nat} {SX : Scope}
def capSt (nt : Nat) (caps : List Nat) (σ : St) : St := List.replicate nt none ++ caps.map fun i => σ.getD i none
theorem CompOk.hf (S : CompOk SX sc XN N nt caps) (I : Inv X pins σ H s) (hX : X.env.scope = SX) : ∀ y ∈ sc.names, y.2 = .free → (X.env.cells.lookup y.1).isSome = true := fun y hy hk => by
  have q := S.free y hy hk
  rw [← hX] at q
  obtain ⟨c, e⟩ := I.ok.has y.1 q
  rw [e]; rfl
theorem Inv.enter (S : CompOk SX sc XN N nt caps) (hX : X.env.scope = SX) (hN : X.N = XN) (I : Inv X pins σ H s) {fp : List Addr} (hf : ∀ b ∈ fp, FpOk X pins H b) (hlt : ∀ b ∈ fp, b < s.heap.objs.size) {h' : Heap} {t' : Nat} {m' : Str → Option Value}
    (hn : h'.Ns s.heap.objs.size m') (hk : ∀ b o, s.heap.get? b = some o → h'.get? b = some o) : Inv (X.comp sc N ⟨s.heap.objs.size, s, H, fp⟩) pins (capSt nt caps σ) H { s with heap := h', toks := t' } := by
  have hfr := S.hf I hX
  have sub : ∀ x c, (capsOf sc.names X.env.cells []).lookup x = some c → X.env.cells.lookup x = some c := fun x c e => by
    rcases capsOf_sub hfr e with q | q
    · cases q
    · exact q
  have frs_lt : ∀ b ∈ frs X.stack, b < s.heap.objs.size := fun b hb => by
    obtain ⟨_, o, e, _⟩ := I.stack.mem hb
    exact Heap.lt_size e
  have cells_lt : ∀ x c, X.env.cells.lookup x = some c → c < s.heap.objs.size := fun x c e => by
    obtain ⟨v, z⟩ := I.cell x c e
    exact z.lt
  have offS : ∀ b, b ≠ X.env.locals → b ∉ X.fs → b ∉ frs X.stack := fun b h1 h2 z => by
    rcases List.mem_cons.mp (I.stkSub b z) with q | q
    · exact h1 q
    · exact h2 q
  have hex : ∀ x, ((relabel sc X.env).names.lookup x = some .cell ∨ (relabel sc X.env).names.lookup x = some .free) → ∃ c, (capsOf sc.names X.env.cells []).lookup x = some c := fun x hx => by
    have fr : sc.names.lookup x = some .free := by
      rcases hx with hx | hx
      · rcases relabel_lookup (names := sc.names) hx with z | z
        · exact absurd rfl (S.nocell _ (mem_lookup z))
        · exact z.2
      · rcases relabel_lookup (names := sc.names) hx with z | z
        · exact z
        · cases z.1
    exact capsOf_has (mem_lookup fr)
  refine ⟨⟨I.ok.mod, S.kind, I.ok.glob, I.ok.blt, Nat.le_refl _, fun x y c e1 e2 => I.ok.inj x y c (sub x c e1) (sub y c e2), hex, fun x c e => (by cases e), I.ok.hd, I.ok.frames, .inl rfl, fun b hb => ?_, fun b o e => I.bs b o e, Nat.le_trans I.ok.bsz I.sz, fun b o e hb => ?_, fun b hb => ?_, I.stack, I.stkFree⟩,
    rfl, I.bare, Un.kept hk, ⟨m', hn, fun i x v e1 e2 e3 => ?_⟩, fun x c e => ?_, I.hok.fresh (Nat.le_refl _), fun x c e => I.freeC x c (sub x c e), fun p hp => ?_, I.hok.kept hk, ?_⟩
  · obtain ⟨f0, f1, f2, f3, f4, f5⟩ := hf b hb
    refine ⟨?_, fun x c e => f4 x c (sub x c e)⟩
    exact Nat.ne_of_lt (hlt b hb)
  · obtain ⟨f0, f1, f2, f3, f4, f5⟩ := hf b hb
    rcases f3 with z | z
    · exact I.ok.noex b o e z
    · exact absurd (Nat.lt_of_lt_of_le (Heap.lt_size e) (Nat.le_trans I.ok.bsz z)) (Nat.lt_irrefl _)
  · obtain ⟨f0, f1, f2, f3, f4, f5⟩ := hf b hb
    exact offS b f1 f2
  · -- a name that is taken over
    unfold capSt at e2
    by_cases hi : i < nt
    · rw [List.getElem?_append_left (by simpa using hi), List.getElem?_replicate] at e2
      split at e2 <;> cases e2
    · rw [List.getElem?_append_right (by simpa using hi), List.length_replicate, List.getElem?_map] at e2
      obtain ⟨j, rfl⟩ : ∃ j, i = nt + j := ⟨i - nt, by omega⟩
      rw [Nat.add_sub_cancel_left] at e2
      cases ec : caps[j]? with
      | none => rw [ec] at e2; cases e2
      | some ci =>
        rw [ec] at e2
        have e2' : σ.getD ci none = some v := by simpa using e2
        have hj : j < caps.length := (List.getElem?_eq_some_iff.mp ec).1
        have q := List.all_eq_true.mp S.cap j (List.mem_range.mpr hj)
        have ed : caps.getD j 0 = ci := by rw [List.getD_eq_getElem?_getD, ec]; rfl
        have e1' : N[nt + j]? = some x := e1
        rw [e1', ed] at q
        cases ex : XN[ci]? with
        | none => rw [ex] at q; cases q
        | some y =>
          rw [ex] at q
          simp only [Bool.and_eq_true, beq_iff_eq] at q
          obtain ⟨rfl, qf⟩ := q
          have eσ : σ[ci]? = some (some v) := by
            rw [List.getD_eq_getElem?_getD] at e2'
            cases z : σ[ci]? with
            | none => rw [z] at e2'; cases e2'
            | some w' => rw [z] at e2'; exact congrArg some e2'
          obtain ⟨m, hm, hl⟩ := I.loc
          have vis := S.free _ (mem_lookup qf) rfl
          rw [← hX] at vis
          obtain ⟨u, r, lk⟩ := hl ci x v (by rw [hN]; exact ex) eσ (.inr vis)
          refine ⟨u, r, .inr ⟨relabel_free qf, ?_⟩⟩
          obtain ⟨c, hc⟩ := capsOf_has (cells := X.env.cells) (acc := []) (mem_lookup qf)
          have hc' := sub x c hc
          rcases lk with ⟨k, _⟩ | ⟨k, c2, ec2, z⟩
          · exfalso
            have k' : X.env.scope.names.lookup x = some .local := k
            dsimp only at vis
            rcases vis with v1 | v1
            · rw [k'] at v1; cases v1
            · rw [k'] at v1; cases v1
          · rw [hc'] at ec2
            cases ec2
            obtain ⟨o, ho, hd⟩ := z
            exact ⟨c, hc, o, hk c o ho, hd⟩
  · obtain ⟨v, o, ho, hd⟩ := I.cell x c (sub x c e)
    exact ⟨v, o, hk c o ho, hd⟩
  · obtain ⟨e, n, ne, nf, d⟩ := I.pin p (List.mem_append_right _ (show p ∈ pins from (List.mem_append.mp hp).elim (fun z => absurd (show p ∈ ([] : List (Addr × Obj)) from z) (by simp)) id))
    exact ⟨hk _ _ e, n, Nat.ne_of_lt (Heap.lt_size e), offS _ ne nf, d⟩
  · unfold capSt
    rw [List.length_append, List.length_replicate, List.length_map]
    exact S.len.symm
end
def tComp (nt : Nat) (caps : List Nat) (wi : TI) (g : CArg → TG) (tc : CArg → TT) (te : CArg → TE) : TE := fun σ H Q => wi σ H fun J H1 => ∀ D, H1 D = none → ∀ c : CArg, ∃ W : Nat → Nat → St → List V → Hp → Prop,
  (∃ m, W 0 m (capSt nt caps σ) [] (upd H1 D (.lst []))) ∧ ∀ i m σ' ys H', W i m σ' ys H' → H' D = some (.lst ys) ∧ ys.length < sizeLine ∧
    ((J.stop i H' ∧ Q (.ref D) H') ∨ (J.go i H' ∧ ∀ x H2, J.yld i H' x H2 → g c x σ' H2 fun σ3 H3 => tc c σ3 H3 fun b H4 => if b = true then te c σ3 H4 fun y H5 => ∃ ys', H5 D = some (.lst ys') ∧ ys'.length < sizeLine ∧ ∃ m', m' < m ∧ W (i + 1) m' σ3 (ys' ++ [y]) (upd H5 D (.lst (ys' ++ [y])))
      else ∃ ys' m', m' < m ∧ W (i + 1) m' σ3 ys' H4))
def tTrue : CArg → TT := fun _ _ H Q => Q true H
section
variable {X : Cx} {tg iter elt : Expr} {ifs : List Expr} {sc SX : Scope} {N XN : List Str} {nt : Nat} {caps : List Nat} {wi : TI} {g : CArg → TG} {tc : CArg → TT} {te : CArg → TE} {pos : Pos}
def PTs (X : Cx) (ifs : List Expr) (t : TT) : Prop := ∀ (pins : List (Addr × Obj)) (s : Shared) (σ : St) (H : Hp) (Q : Bool → Hp → Prop), Inv X pins σ H s → t σ H Q →
  wpAny (model X.prog X.w) X.A (forIn ifs true fun c r => if r = true then do let ok ← isTrue c X.env (eval c X.env); pure (ForInStep.yield ok) else pure (ForInStep.yield r)) (TP X pins σ Q) X.xe s
theorem pts_nil {c : CArg} : PTs X [] (tTrue c) := fun pins s σ H Q I h => wpAny_tests_nil ⟨H, I, h⟩
theorem comp_block {pins : List (Addr × Obj)} {σ : St} {H2 : Hp} {s2 : Shared} {it : Addr} {fp : List Addr} {tn : Nat → Heap → Prop} {J : It} {Q : VK} {RR : Value → Addr → Result → Shared → Prop} {E : Value → Shared → Prop}
    (S : CompOk SX sc XN N nt caps) (hX : X.env.scope = SX) (hN : X.N = XN) (hc : X.calm = true) (hg : ∀ c, PG (X.comp sc N c) tg (g c)) (ht : ∀ c, PTs (X.comp sc N c) ifs (tc c)) (he : ∀ c, PE (X.comp sc N c) elt (te c))
    (I2 : Inv X pins σ H2 s2) (T : Turn X.prog X.w X.K tg J fp it tn) (st2 : tn 0 s2.heap) (f2 : ∀ b ∈ fp, FpOk X pins H2 b)
    (h : ∀ D, H2 D = none → ∀ c : CArg, ∃ W : Nat → Nat → St → List V → Hp → Prop,
      (∃ m, W 0 m (capSt nt caps σ) [] (upd H2 D (.lst []))) ∧ ∀ i m σ' ys H', W i m σ' ys H' → H' D = some (.lst ys) ∧ ys.length < sizeLine ∧
      ((J.stop i H' ∧ Q (.ref D) H') ∨ (J.go i H' ∧ ∀ x H2, J.yld i H' x H2 → g c x σ' H2 fun σ3 H3 => tc c σ3 H3 fun b H4 => if b = true then te c σ3 H4 fun y H5 => ∃ ys', H5 D = some (.lst ys') ∧ ys'.length < sizeLine ∧ ∃ m', m' < m ∧ W (i + 1) m' σ3 (ys' ++ [y]) (upd H5 D (.lst (ys' ++ [y])))
        else ∃ ys' m', m' < m ∧ W (i + 1) m' σ3 ys' H4)))
    (hR : ∀ D C s' m H', s'.heap.Ns C m → s2.heap.objs.size < C → Inv X pins σ H' s' → H' C = none → C ≠ X.env.locals → (∀ x c, X.env.cells.lookup x = some c → c ≠ C) → (∀ p ∈ X.pn ++ pins, p.1 ≠ C) → X.s₀.heap.objs.size ≤ C → Q (.ref D) H' → RR (.ref D) C (.ok .next) s') :
    wpAny (model X.prog X.w) X.A (newList []) (fun acc s₃ => wpAny (model X.prog X.w) X.A (newFunctionEnv sc X.env.globals (capsOf sc.names X.env.cells []) [] X.env.qual none .none (some X.env)) (fun cenv s₄ =>
      codeAny (model X.prog X.w) X.A (.compStart (.ListComp elt [⟨tg, iter, ifs, 0⟩] sc pos) 0 (.ref it) acc { cenv with scope := relabel sc X.env }) (RR acc cenv.locals) s₄) E s₃) E s2 := by
  have lt2 : ∀ b ∈ fp, b < s2.heap.objs.size := fun b hb => by
    obtain ⟨o, e, _⟩ := T.obj _ _ st2 b hb
    exact Heap.lt_size e
  have hD0 : H2 s2.heap.objs.size = none := I2.hok.fresh (Nat.le_refl _)
  have I3 : Inv X pins σ (upd H2 s2.heap.objs.size (.lst [])) { s2 with heap := s2.heap.push { cls := .type "list", dict := none, data := .seq ([] : List Value).toArray } } :=
    I2.laid (t' := s2.toks) (fun b u e => Heap.get?_push_of_some _ e) (Nat.le_refl _) ⟨Nat.zero_le _, [], 0, .nil, Heap.get?_push_size _ rfl⟩
  have f3 : ∀ b ∈ fp, FpOk X pins (upd H2 s2.heap.objs.size (.lst [])) b := fun b hb => ⟨by rw [upd_ne (Nat.ne_of_lt (lt2 b hb))]; exact (f2 b hb).1, (f2 b hb).2⟩
  refine wpAny_newObj_type (wpAny_newFunctionEnv S.nocell (by intro y hy; simp at hy) (fun h1 hn1 hs1 => ?_) S.kind)
  dsimp only at hn1 hs1 ⊢
  generalize hg3 : ({ s2 with heap := s2.heap.push { cls := .type "list", dict := none, data := .seq ([] : List Value).toArray } } : Shared) = s3 at I3
  have e3 : s2.heap.push { cls := .type "list", dict := none, data := .seq ([] : List Value).toArray } = s3.heap := by rw [← hg3]
  rw [e3] at hn1 hs1 ⊢
  have lt3 : ∀ b ∈ fp, b < s3.heap.objs.size := fun b hb => by
    rw [← e3, Heap.size_push]
    exact Nat.lt_succ_of_lt (lt2 b hb)
  have hC2 : s2.heap.objs.size < s3.heap.objs.size := by rw [← e3, Heap.size_push]; exact Nat.lt_succ_self _
  have hk : ∀ b o, s3.heap.get? b = some o → h1.get? b = some o := fun b o e => hs1.extBut b o (Nat.ne_of_lt (Heap.lt_size e)) (Heap.get?_push_of_some _ e)
  have I4 := I3.enter S hX hN f3 lt3 (t' := s2.toks + ([] : List (Str × Value)).length) hn1 hk
  have fin : ∀ {s' : Shared} {σ' : St} {H' : Hp}, Inv (X.comp sc N ⟨s3.heap.objs.size, s3, upd H2 s2.heap.objs.size (.lst []), fp⟩) pins σ' H' s' → Q (.ref s2.heap.objs.size) H' → RR (.ref s2.heap.objs.size) s3.heap.objs.size (.ok .next) s' := fun {s' σ' H'} I' q => by
    obtain ⟨m, hm, _⟩ := I'.loc
    refine hR _ _ s' m H' hm hC2 (I3.call' (ch := fp) I'.os I'.base I'.hok I'.bare fun b hb => ?_) I'.free (Nat.ne_of_gt I3.lt) (fun x c e => ?_) (fun p hp => ?_) I3.sz q
    · obtain ⟨g0, g1, g2, g3, g4, g5⟩ := f3 b hb
      exact ⟨g3, g1, g4, g5⟩
    · obtain ⟨v, z⟩ := I3.cell x c e
      exact Nat.ne_of_lt z.lt
    · exact Nat.ne_of_lt (Heap.lt_size (I3.pin p hp).1)
  have subc : ∀ x c, (capsOf sc.names X.env.cells []).lookup x = some c → X.env.cells.lookup x = some c := fun x c e => by
    rcases capsOf_sub (S.hf I3 hX) e with q | q
    · cases q
    · exact q
  obtain ⟨W, ⟨m0, w0⟩, step⟩ := h _ hD0 ⟨s3.heap.objs.size, s3, upd H2 s2.heap.objs.size (.lst []), fp⟩
  have stat : ∀ {H' : Hp}, (∀ b ∈ fp, H' b = none) → ∀ b ∈ fp, FpOk (X.comp sc N ⟨s3.heap.objs.size, s3, upd H2 s2.heap.objs.size (.lst []), fp⟩) pins H' b := fun {H'} hn b hb => by
    obtain ⟨g0, g1, g2, g3, g4, g5⟩ := f3 b hb
    refine ⟨hn b hb, Nat.ne_of_lt (lt3 b hb), fun z => ?_, .inl hb, fun x c e => g4 x c (subc x c e), fun p hp => g5 p (List.mem_append_right _ ((List.mem_append.mp hp).elim (fun z => absurd (show p ∈ ([] : List (Addr × Obj)) from z) (by simp)) id))⟩
    rcases List.mem_cons.mp (I3.stkSub b z) with q | q
    · exact g1 q
    · exact g2 q
  have st4 : tn 0 h1 := T.keep _ _ _ st2 fun b hb o e => hk b o (by rw [← e3]; exact Heap.get?_push_of_some _ e)
  have fr4 : ∀ b ∈ fp, upd H2 s2.heap.objs.size (.lst []) b = none := fun b hb => (f3 b hb).1
  have hs4 : ({ s2 with heap := h1, toks := s2.toks + ([] : List (Str × Value)).length } : Shared) = { s3 with heap := h1, toks := s2.toks + ([] : List (Str × Value)).length } := by rw [← hg3]
  rw [hs4]
  have loop : codeAny (model X.prog X.w) X.A (.compLoop (.ListComp elt [⟨tg, iter, ifs, 0⟩] sc pos) 0 (.ref it) (.ref s2.heap.objs.size) (compEnvC sc (capsOf sc.names X.env.cells []) s3.heap.objs.size X.env)) (RR (.ref s2.heap.objs.size) s3.heap.objs.size)
      { s3 with heap := h1, toks := s2.toks + ([] : List (Str × Value)).length } := by
    refine comp_loop (fun n s' => ∃ i σ' ys H', Inv (X.comp sc N ⟨s3.heap.objs.size, s3, upd H2 s2.heap.objs.size (.lst []), fp⟩) pins σ' H' s' ∧ tn i s'.heap ∧ (∀ b ∈ fp, H' b = none) ∧ W i n σ' ys H') ?_ m0 ⟨0, _, [], _, I4, st4, fr4, w0⟩
    rintro n s' ⟨i, σ', ys, H', I', st', fr', w'⟩
    obtain ⟨hD, hz, alt⟩ := step i n σ' ys H' w'
    rcases alt with ⟨stop, qn⟩ | ⟨go, turn⟩
    · refine thn (T.done (X.comp sc N ⟨s3.heap.objs.size, s3, upd H2 s2.heap.objs.size (.lst []), fp⟩) rfl rfl rfl hc i pins s' σ' H' _ I' (stat fr') st' stop) fun r s4 ⟨hr, J4⟩ => ?_
      subst hr
      exact fin J4 qn
    · refine thn (T.item (X.comp sc N ⟨s3.heap.objs.size, s3, upd H2 s2.heap.objs.size (.lst []), fp⟩) rfl rfl rfl hc i pins s' σ' H' _ I' (stat fr') st' go) fun r s4 ⟨u, hr, h4⟩ => ?_
      subst hr
      refine thn h4 fun _ s5 ⟨x, H5, I5, r5, y5, st5, fr5⟩ => ?_
      have I5' := I5.pinned (stat fr5) (T.obj _ _ st5)
      refine thn (hg _ _ s5 σ' H5 x u _ I5' r5 (turn x H5 y5)) fun _ s6 ⟨σ6, H6, I6, q6⟩ => ?_
      refine thn (ht _ _ s6 σ6 H6 _ I6 q6) fun ok s7 ⟨H7, I7, q7⟩ => ?_
      have again : ∀ {s8 : Shared} {H8 : Hp} {ys8 : List V} {m8 : Nat}, Inv (X.comp sc N ⟨s3.heap.objs.size, s3, upd H2 s2.heap.objs.size (.lst []), fp⟩) (pins ++ pinsAt fp s5.heap) σ6 H8 s8 → m8 < n → W (i + 1) m8 σ6 ys8 H8 →
          ∃ m, m < n ∧ ∃ i σ' ys H', Inv (X.comp sc N ⟨s3.heap.objs.size, s3, upd H2 s2.heap.objs.size (.lst []), fp⟩) pins σ' H' s8 ∧ tn i s8.heap ∧ (∀ b ∈ fp, H' b = none) ∧ W i m σ' ys H' := fun {s8 H8 ys8 m8} I8 hm w8 => by
        refine ⟨m8, hm, i + 1, σ6, ys8, H8, I8.unpinned, T.keep _ _ _ st5 fun b hb o e => (I8.pin (b, o) (List.mem_append_right _ (List.mem_append_right _ (mem_pinsAt hb e)))).1, fun b hb => ?_, w8⟩
        obtain ⟨o, e, d⟩ := T.obj _ _ st5 b hb
        exact (I8.pin (b, o) (List.mem_append_right _ (List.mem_append_right _ (mem_pinsAt hb e)))).2.1
      cases ok with
      | false =>
        obtain ⟨ys8, m8, hm, w8⟩ := q7
        exact again I7 hm w8
      | true =>
        refine thn (he _ _ s7 σ6 H7 _ I7 q7) fun y s8 ⟨v, H8, I8, r8, ys8, e8, z8, m8, hm, w8⟩ => ?_
        refine thn (mt_append (X := X.comp sc N ⟨s3.heap.objs.size, s3, upd H2 s2.heap.objs.size (.lst []), fp⟩) _ s8 σ6 H8 (.ref s2.heap.objs.size) [v] _ [y] (fun _ H9 => H9 = upd H8 s2.heap.objs.size (.lst (ys8 ++ [v]))) I8 rfl (.cons r8 .nil) ⟨_, ys8, v, rfl, rfl, e8, z8, rfl⟩)
          fun _ s9 ⟨_, H9, I9, _, e9⟩ => ?_
        subst e9
        exact again I9 hm w8
  exact codeAny_compStart_list loop (T.self X.A 0 _ _ _ st4 loop)
theorem pe_comp (S : CompOk SX sc XN N nt caps) (hi : PI X tg iter wi) (hg : ∀ c, PG (X.comp sc N c) tg (g c)) (ht : ∀ c, PTs (X.comp sc N c) ifs (tc c)) (he : ∀ c, PE (X.comp sc N c) elt (te c)) (hc : X.calm = true := by rfl) (hX : X.env.scope = SX := by rfl) (hN : X.N = XN := by rfl)
    (hs : ∀ x, foldedSetIterable iter X.env x = pure x := by intro _; rfl) : PE X (.ListComp elt [⟨tg, iter, ifs, 0⟩] sc pos) (tComp nt caps wi g tc te) := by
  intro pins s σ H Q I h
  rw [eval_ListComp]
  refine wpAny_comprehension_free (use := none) rfl hs (closure_caps (S.hf I hX)) S.kind S.loc (thn (hi pins s σ H _ I h) fun v s1 h1 => thn h1 fun itv s2 h2 => ?_)
  obtain ⟨it, fp, tn, J, H2, rfl, I2, T, st2, f2, h2⟩ := h2
  refine comp_block (RR := fun acc C => compPost (model X.prog X.w) X.A X.xe none (EP X pins σ Q) acc C) S hX hN hc hg ht he I2 T st2 f2 h2 fun D C s' m H' hm hC I' hf hL hcl hpn hs0 q => ?_
  refine ⟨m, hm, fun h'' hs'' => ⟨.ref D, H', I'.turned (it := C) (t' := s'.toks) (fun b o hb e => hs''.extBut b o hb e) hf hL (.inr hs0) hcl hpn, rfl, q⟩⟩
theorem ps_comp {y : Str} {py : Pos} {i : Nat} {spos : Pos} (S : CompOk SX sc XN N nt caps) (hnd : X.N.Nodup) (hix : X.N[i]? = some y) (hy : Loc X.env.scope y) (hi : PI X tg iter wi) (hg : ∀ c, PG (X.comp sc N c) tg (g c)) (ht : ∀ c, PTs (X.comp sc N c) ifs (tc c)) (he : ∀ c, PE (X.comp sc N c) elt (te c))
    (hsw : swapsWith (.ListComp elt [⟨tg, iter, ifs, 0⟩] sc pos) (some (.Name y py)) spos.line X.env = pure true := by rfl) (hc : X.calm = true := by rfl) (hX : X.env.scope = SX := by rfl) (hN : X.N = XN := by rfl)
    (hs : ∀ x, foldedSetIterable iter X.env x = pure x := by intro _; rfl) (hf : X.fn y = true ∨ X.env.scope.names.lookup y = some .local := by first | exact .inl rfl | exact .inr rfl) : PS X (.Assign [.Name y py] (.ListComp elt [⟨tg, iter, ifs, 0⟩] sc pos) spos) (tAsg (tComp nt caps wi g tc te) (gName i)) := by
  intro pins s σ H D I h
  rw [exec_Assign_Name_used _ _ _ _ hsw]
  refine wpAny_bind (wpAny_standAt (wpAny_bind ?_))
  show wpAny _ X.A (do let _ ← comprehension (.ListComp elt [⟨tg, iter, ifs, 0⟩] sc pos) sc X.env _ (newList []) false (eval iter X.env) (some (assign (.Name y py) X.env))) _ _ s
  refine wpAny_bind (wpAny_mono (wpAny_comprehension_free (use := some (assign (.Name y py) X.env)) (Q := fun _ s' => SP X pins D .next s') rfl hs (closure_caps (S.hf I hX)) S.kind S.loc (thn (hi pins s σ H _ I h) fun v s1 h1 => thn h1 fun itv s2 h2 => ?_)) (fun _ s' hq => wpAny_pure (wpAny_pure hq)) fun _ _ e => e)
  obtain ⟨it, fp, tn, J, H2, rfl, I2, T, st2, f2, h2⟩ := h2
  refine comp_block (Q := fun x H1 => gName i x σ H1 D.nx) (RR := fun acc C => compPost (model X.prog X.w) X.A X.xe (some (assign (.Name y py) X.env)) (fun _ s' => SP X pins D .next s') acc C) S hX hN hc hg ht he I2 T st2 f2 h2 fun D' C s' m H' hm hC I' hfC hL hcl hpn hs0 q => ?_
  show wpAny _ X.A (assign (.Name y py) X.env (.ref D')) _ _ s'
  refine wpAny_assign_Name (store_ok2 (v := .ref D') I' hnd hix hy rfl (fun s5 I5 hch => ?_) hf)
  obtain ⟨a, sb, ha⟩ := hch
  have hCa : C ≠ a := by
    rcases ha with z | z
    · rw [z]; exact hL
    · exact (hcl _ _ z).symm
  refine ⟨m, hm.sameBut sb hCa, fun h'' hs'' => ⟨σ.set i (some (.ref D')), H', I5.turned (it := C) (t' := s5.toks) (fun b o hb e => hs''.extBut b o hb e) hfC hL (.inr hs0) hcl hpn, q⟩⟩
end
end L2
set_option Elab.async false
set_option linter.all false
set_option maxRecDepth 100000
set_option maxHeartbeats 4000000
namespace L2
open PySem PySem.Spec PySem.Calls PyProof.Rows
section
variable {X : Cx} {pins : List (Addr × Obj)} {σ : St} {H : Hp} {s : Shared}
theorem Inv.drawn {fp : List Addr} {h' : Heap} {t' : Nat} {ds : List V} {us : List Value} {n : Nat} (I : Inv X pins σ H s) (hf : ∀ b ∈ fp, FpOk X pins H b) (kp : ∀ b o, b ∉ fp → s.heap.get? b = some o → h'.get? b = some o)
    (new : h'.get? s.heap.objs.size = some { cls := .type "tuple", data := .seq us.toArray n }) (r : Vals ds us) (hz : ds.length ≤ sizeLine) : Inv X pins σ (upd H s.heap.objs.size (.tup ds)) { s with heap := h', toks := t' } := by
  have hT : H s.heap.objs.size = none := I.hok.fresh (Nat.le_refl _)
  have nf : ∀ b u, H b = some u → b ∉ fp := fun b u e hb => by rw [(hf b hb).1] at e; cases e
  refine I.call (g' := s.gens) (d' := s.drawn) (ch := fp) ⟨fun b o e n hb hx => kp b o hx e, fun b o e n hb hx => ⟨o.slots, kp b o hx e⟩, fun b o e n hx => ?_, fun b o e hx => ⟨o, kp b o hx e⟩, fun b xs q => ?_, fun b o u q => ?_, fun b ps q => ?_⟩ ?_ I.bare (fun b hb => ?_)
  · rw [upd_ne (Nat.ne_of_lt (Heap.lt_size e))]; exact n
  · rw [upd_ne (ne_of_none q hT)]; exact q
  · rw [upd_ne (ne_of_none q hT)]; exact q
  · exact ⟨#[], by rw [upd_ne (ne_of_none q hT), q]; simp⟩
  · intro b u e
    by_cases hb : b = s.heap.objs.size
    · subst hb
      rw [upd_same] at e
      cases e
      exact ⟨hz, us, r, _, new, rfl, n, rfl⟩
    · rw [upd_ne hb] at e
      refine (I.hok b u e).stay (fun c v hc q => kp c v (fun z => ?_) q) (fun c q => ?_) fun c xs q => ?_
      · rcases hc with w' | w'
        · subst w'; exact nf _ _ e z
        · exact nf _ _ w' z
      · rw [upd_ne (ne_of_none q hT)]; exact q
      · rw [upd_ne (ne_of_none q hT)]; exact q
  · obtain ⟨f0, f1, f2, f3, f4, f5⟩ := hf b hb
    exact ⟨f3, f1, f4, f5⟩
theorem Inv.turnedL {fp : List Addr} {h' : Heap} {t' : Nat} (I : Inv X pins σ H s) (hf : ∀ b ∈ fp, FpOk X pins H b) (kp : ∀ b o, b ∉ fp → s.heap.get? b = some o → h'.get? b = some o) : Inv X pins σ H { s with heap := h', toks := t' } := by
  have nf : ∀ b u, H b = some u → b ∉ fp := fun b u e hb => by rw [(hf b hb).1] at e; cases e
  refine I.call (g' := s.gens) (d' := s.drawn) (ch := fp) ⟨fun b o e n hb hx => kp b o hx e, fun b o e n hb hx => ⟨o.slots, kp b o hx e⟩, fun b o e n hx => n, fun b o e hx => ⟨o, kp b o hx e⟩, fun b xs q => q, fun b o u q => q, fun b ps q => ⟨#[], by rw [q]; simp⟩⟩ ?_ I.bare (fun b hb => ?_)
  · intro b u e
    refine (I.hok b u e).stay (fun c v hc q => kp c v (fun z => ?_) q) (fun c q => q) fun c xs q => q
    rcases hc with w' | w'
    · subst w'; exact nf _ _ e z
    · exact nf _ _ w' z
  · obtain ⟨f0, f1, f2, f3, f4, f5⟩ := hf b hb
    exact ⟨f3, f1, f4, f5⟩
end
def Ite (K : PySem.W.Frag) (a : Addr) : It :=
  ⟨fun i H => ∃ xs x, SqL K H a xs ∧ xs[i]? = some x, fun i H x H' => ∃ T y, H T = none ∧ x = .ref T ∧ (∀ xs, SqL K H a xs → xs[i]? = some y) ∧ H' = upd H T (.tup [.int (i : Int), y]), fun i H => ∃ xs, SqL K H a xs ∧ xs.length ≤ i⟩
theorem turn_enum {P : Program} {w : World} {K : PySem.W.Frag} {es : List Expr} {x1 : Nat} {pos : Pos} (a e it : Addr) (hne : e ≠ it) : Turn P w K (.Tuple es x1 pos) (Ite K a) [e, it] e (fun i h => (∃ old, IsEnum h e it (i : Int) old) ∧ h.IsListIter it a i) where
  mem := by simp
  obj := fun i h st b hb => by
    obtain ⟨⟨old, h1⟩, o, h2, c, d⟩ := st
    rcases List.mem_cons.mp hb with z | z
    · subst z; exact ⟨_, h1, fun v z => by
        have z' : Data.fields _ = Data.cell v := z
        cases z'⟩
    · rw [List.mem_singleton.mp z]; exact ⟨o, h2, fun v z => by rw [d] at z; cases z⟩
  keep := fun i h h' st k => by
    obtain ⟨⟨old, h1⟩, h2⟩ := st
    exact ⟨⟨old, k e (by simp) _ h1⟩, h2.at fun o z => k it (by simp) o z⟩
  item := by
    intro X hP hw hK hc i pins s σ H E I hf st hg
    subst hP hw hK
    obtain ⟨xs, x, hq, hx⟩ := hg
    obtain ⟨its, rv, p, hz⟩ := I.list hq
    obtain ⟨u, hu, ru⟩ := rv.get hx
    obtain ⟨⟨old, he⟩, hit⟩ := st
    refine wpAny_pyNext_enum_item he hit p.isList (x := u) (by simpa using hu) hne fun h' out it' tup sz kp => ?_
    refine ⟨_, rfl, wpAny_letOwnedTupleGo_enum out fun h2 he2 sb => ?_⟩
    have heT : e ≠ s.heap.objs.size := Nat.ne_of_lt (Heap.lt_size he)
    have kp2 : ∀ b o, b ∉ [e, it] → s.heap.get? b = some o → h2.get? b = some o := fun b o hb q => by
      have b1 : b ≠ e := fun z => hb (by simp [z])
      have b2 : b ≠ it := fun z => hb (by simp [z])
      exact (sb.2 b b1).trans (kp b o b1 b2 q)
    refine ⟨.ref s.heap.objs.size, upd H s.heap.objs.size (.tup [.int (i : Int), x]), ?_, rfl, ⟨s.heap.objs.size, x, I.hok.fresh (Nat.le_refl _), rfl, fun ys hy => by rw [I.list_inj hy hq]; exact hx, rfl⟩, ⟨⟨u, by simpa using he2⟩, it'.at fun o z => (sb.2 it (Ne.symm hne)).trans z⟩, fun b hb => ?_⟩
    · exact I.drawn (t' := s.toks + 1) (us := [.int (i : Int) s.toks, u]) (n := 0) hf kp2 ((sb.2 _ (Ne.symm heT)).trans tup) (.cons ⟨_, rfl⟩ (.cons ru .nil)) (by show 2 ≤ sizeLine; decide)
    · have hl : b < s.heap.objs.size := by
        rcases List.mem_cons.mp hb with z | z
        · subst z; exact Heap.lt_size he
        · rw [List.mem_singleton.mp z]; obtain ⟨o, q, _⟩ := hit; exact Heap.lt_size q
      rw [upd_ne (Nat.ne_of_lt hl)]
      exact (hf b hb).1
  done := by
    intro X hP hw hK hc i pins s σ H E I hf st hg
    subst hP hw hK
    obtain ⟨xs, hq, hx⟩ := hg
    obtain ⟨its, rv, p, hz⟩ := I.list hq
    obtain ⟨⟨old, he⟩, hit⟩ := st
    have hl := rv.length
    refine wpAny_pyNext_enum_end (I.ok.hd hc) he hit p.isList (by simp; omega) fun h' eb => ⟨rfl, I.turnedL (t' := s.toks) hf fun b o hb q => eb b o (fun z => hb (by simp [z])) q⟩
  self := fun _ _ _ _ _ st h => by
    obtain ⟨⟨old, he⟩, _⟩ := st
    exact wpAny_pyIter_enum he h
def Itz (K : PySem.W.Frag) (a b : Addr) : It :=
  ⟨fun i H => ∃ xs ys x y, SqL K H a xs ∧ SqL K H b ys ∧ xs[i]? = some x ∧ ys[i]? = some y, fun i H v H' => ∃ T x y, H T = none ∧ v = .ref T ∧ (∀ xs, SqL K H a xs → xs[i]? = some x) ∧ (∀ ys, SqL K H b ys → ys[i]? = some y) ∧ H' = upd H T (.tup [x, y]),
    fun i H => ∃ xs ys, SqL K H a xs ∧ SqL K H b ys ∧ (xs.length ≤ i ∨ ys.length ≤ i)⟩
theorem turn_zip {P : Program} {w : World} {K : PySem.W.Frag} {es : List Expr} {x1 : Nat} {pos : Pos} (l1 l2 z TI TO i1 i2 : Addr) (D : ZipApart z TI TO i1 i2 l1 l2) :
    Turn P w K (.Tuple es x1 pos) (Itz K l1 l2) [z, TO, i1, i2, TI] z (fun i h => IsZip h z TI TO .none ∧ IsPair h TI (.ref i1) (.ref i2) ∧ (∃ a b, IsPair h TO a b) ∧ h.IsListIter i1 l1 i ∧ h.IsListIter i2 l2 i) where
  mem := by simp
  obj := fun i h st b hb => by
    obtain ⟨h1, h2, ⟨a, c, h3⟩, ⟨o4, e4, c4, d4⟩, ⟨o5, e5, c5, d5⟩⟩ := st
    have nf : ∀ {vs : Array Value} {v : Option Value}, Data.fields vs ≠ Data.cell v := fun z => by cases z
    have ns : ∀ {vs : Array Value} {n : Nat} {v : Option Value}, Data.seq vs n ≠ Data.cell v := fun z => by cases z
    simp only [List.mem_cons, List.not_mem_nil, or_false] at hb
    rcases hb with rfl | rfl | rfl | rfl | rfl
    · exact ⟨_, h1, fun v z => nf z⟩
    · exact ⟨_, h3, fun v z => ns z⟩
    · exact ⟨_, e4, fun v z => by rw [d4] at z; cases z⟩
    · exact ⟨_, e5, fun v z => by rw [d5] at z; cases z⟩
    · exact ⟨_, h2, fun v z => ns z⟩
  keep := fun i h h' st k => by
    obtain ⟨h1, h2, ⟨a, c, h3⟩, h4, h5⟩ := st
    exact ⟨k z (by simp) _ h1, k TI (by simp) _ h2, ⟨a, c, k TO (by simp) _ h3⟩, h4.at fun o q => k i1 (by simp) o q, h5.at fun o q => k i2 (by simp) o q⟩
  item := by
    intro X hP hw hK hc i pins s σ H E I hf st hg
    subst hP hw hK
    obtain ⟨xs, ys, x, y, hq1, hq2, hx, hy⟩ := hg
    obtain ⟨its1, rv1, p1, _⟩ := I.list hq1
    obtain ⟨its2, rv2, p2, _⟩ := I.list hq2
    obtain ⟨u, hu, ru⟩ := rv1.get hx
    obtain ⟨v, hv, rv⟩ := rv2.get hy
    obtain ⟨h1, h2, ⟨a, c, h3⟩, h4, h5⟩ := st
    have lts : ∀ b ∈ [z, TO, i1, i2, TI], b < s.heap.objs.size := fun b hb => by
      obtain ⟨_, e4, _⟩ := h4
      obtain ⟨_, e5, _⟩ := h5
      simp only [List.mem_cons, List.not_mem_nil, or_false] at hb
      rcases hb with rfl | rfl | rfl | rfl | rfl
      · exact Heap.lt_size h1
      · exact Heap.lt_size h3
      · exact Heap.lt_size e4
      · exact Heap.lt_size e5
      · exact Heap.lt_size h2
    refine wpAny_pyNext_zip_item D h1 h2 h3 h4 h5 p1.isList p2.isList (x := u) (y := v) (by simpa using hu) (by simpa using hv) fun h' g1 g2 g3 g4 g5 sz kp => ?_
    refine ⟨_, rfl, wpAny_letOwnedTupleGo_zip g1 fun hh gz sb => ?_⟩
    have zT : z ≠ s.heap.objs.size := Nat.ne_of_lt (lts z (by simp))
    have kp2 : ∀ b o, b ∉ [z, TO, i1, i2, TI] → s.heap.get? b = some o → hh.get? b = some o := fun b o hb q => by
      simp only [List.mem_cons, List.not_mem_nil, or_false, not_or] at hb
      exact (sb.2 b hb.1).trans (kp b o hb.1 hb.2.1 hb.2.2.1 hb.2.2.2.1 q)
    refine ⟨.ref s.heap.objs.size, upd H s.heap.objs.size (.tup [x, y]), ?_, rfl, ⟨s.heap.objs.size, x, y, I.hok.fresh (Nat.le_refl _), rfl, fun ws hw => by rw [I.list_inj hw hq1]; exact hx, fun ws hw => by rw [I.list_inj hw hq2]; exact hy, rfl⟩,
      ⟨gz, (sb.2 TI D.TIz).trans (kp TI _ D.TIz D.TITO D.TIi1 D.TIi2 h2), ⟨u, v, (sb.2 TO D.TOz).trans g2⟩, g3.at fun o q => (sb.2 i1 D.i1z).trans q, g4.at fun o q => (sb.2 i2 D.i2z).trans q⟩, fun b hb => ?_⟩
    · exact I.drawn (t' := s.toks) (us := [u, v]) (n := 0) hf kp2 ((sb.2 _ (Ne.symm zT)).trans g5) (.cons ru (.cons rv .nil)) (by show 2 ≤ sizeLine; decide)
    · rw [upd_ne (Nat.ne_of_lt (lts b hb))]
      exact (hf b hb).1
  done := by
    intro X hP hw hK hc i pins s σ H E I hf st hg
    subst hP hw hK
    obtain ⟨xs, ys, hq1, hq2, hx⟩ := hg
    obtain ⟨its1, rv1, p1, _⟩ := I.list hq1
    obtain ⟨its2, rv2, p2, _⟩ := I.list hq2
    obtain ⟨h1, h2, ⟨a, c, h3⟩, h4, h5⟩ := st
    have e1 := rv1.length
    have e2 := rv2.length
    refine wpAny_pyNext_zip_end (I.ok.hd hc) D h1 h2 h3 h4 h5 p1.isList p2.isList (hx.elim (fun q => .inl (by simp; omega)) fun q => .inr (by simp; omega)) fun h' kp => ⟨rfl, I.turnedL (t' := s.toks) hf fun b o hb q => ?_⟩
    simp only [List.mem_cons, List.not_mem_nil, or_false, not_or] at hb
    exact kp b o hb.1 hb.2.1 hb.2.2.1 hb.2.2.2.1 q
  self := fun _ _ _ _ _ st h => wpAny_pyIter_zip st.1 h
def iEnum (ta : TA) : TI := fun σ H R => ta σ H fun vs H1 => ∃ a xs, vs = [.ref a] ∧ Rd H1 a (.lst xs) ∧ ∀ K, R (Ite K a) H1
def iZip (K : PySem.W.Frag) (ta : TA) : TI := fun σ H R => ta σ H fun vs H1 => ∃ a b xs ys, vs = [.ref a, .ref b] ∧ SqL K H1 a xs ∧ SqL K H1 b ys ∧ R (Itz K a b) H1
section
variable {X : Cx} {es : List Expr} {x1 : Nat} {tpos : Pos}
theorem pi_enum {a : Expr} {ta : TA} {p pos : Pos} (hg : Gl X "enumerate") (hm : X.mg "enumerate" = none) (ha : PA X [a] ta) (hs : starEach [a] X.env = [(false, eval a X.env)] := by rfl) : PI X (.Tuple es x1 tpos) (.Call (.Name "enumerate" p) [a] [] pos) (iEnum ta) := by
  intro pins s σ H R I h
  refine Call_ (ld_blt I hg hm boot_enumerate (PyProof.Rows.callWith_type1 (thn (ha pos pins s σ H _ I h) fun us s1 ⟨vs, H1, I1, r1, q1⟩ => ?_) hs rfl))
  obtain ⟨l, xs, e, hl, q⟩ := q1
  subst e
  cases r1 with
  | cons r rr =>
    cases rr
    cases r
    obtain ⟨hz, its, n, rv, eo⟩ := hl.ok I1.hok
    refine call_enumerate_1 eo fun h' he hit sz kp => ?_
    refine wpAny_pyIter_enum he ?_
    have hne : s1.heap.objs.size + 1 ≠ s1.heap.objs.size := Nat.succ_ne_self _
    refine ⟨_, [s1.heap.objs.size + 1, s1.heap.objs.size], _, _, H1, rfl, I1.kept (t' := s1.toks) kp, turn_enum l _ _ hne, ⟨⟨.none, he⟩, hit⟩, fun b hb => ?_, q X.K⟩
    have hb' : s1.heap.objs.size ≤ b := by
      simp only [List.mem_cons, List.not_mem_nil, or_false] at hb
      rcases hb with rfl | rfl
      · exact Nat.le_succ _
      · exact Nat.le_refl _
    exact I1.fpOk hb' (I1.hok.fresh hb')
theorem pi_zip {a b : Expr} {ta : TA} {p pos : Pos} (hg : Gl X "zip") (hm : X.mg "zip" = none) (ha : PA X [a, b] ta) (hs : starEach [a, b] X.env = [(false, eval a X.env), (false, eval b X.env)] := by rfl) (hs2 : starEach [b] X.env = [(false, eval b X.env)] := by rfl) :
    PI X (.Tuple es x1 tpos) (.Call (.Name "zip" p) [a, b] [] pos) (iZip X.K ta) := by
  intro pins s σ H R I h
  refine Call_ (ld_blt I hg hm boot_zip (PyProof.Rows.callWith_type1 (thn (ha pos pins s σ H _ I h) fun us s1 ⟨vs, H1, I1, r1, q1⟩ => ?_) (by rw [hs, hs2]) (by rw [hs2]; rfl)))
  obtain ⟨l1, l2, xs, ys, e, hl1, hl2, q⟩ := q1
  subst e
  cases r1 with
  | cons r rr =>
    cases rr with
    | cons r' rr =>
      cases rr
      cases r
      cases r'
      obtain ⟨its1, rv1, p1, _⟩ := I1.list hl1
      obtain ⟨its2, rv2, p2, _⟩ := I1.list hl2
      have lt1 : l1 < s1.heap.objs.size := by obtain ⟨_, e, _⟩ := p1.isList; exact Heap.lt_size e
      have lt2 : l2 < s1.heap.objs.size := by obtain ⟨_, e, _⟩ := p2.isList; exact Heap.lt_size e
      refine call_zip_2 p1.isList p2.isList fun h' g1 g2 g3 g4 g5 sz kp => ?_
      refine wpAny_pyIter_zip g1 ?_
      refine ⟨_, [s1.heap.objs.size + 4, s1.heap.objs.size + 3, s1.heap.objs.size, s1.heap.objs.size + 1, s1.heap.objs.size + 2], _, _, H1, rfl, I1.kept (t' := s1.toks) kp, turn_zip l1 l2 _ _ _ _ _ (zipApart_new lt1 lt2), ⟨g1, g2, ⟨.none, .none, g3⟩, g4, g5⟩, fun b hb => ?_, q⟩
      have hb' : s1.heap.objs.size ≤ b := by
        simp only [List.mem_cons, List.not_mem_nil, or_false] at hb
        rcases hb with rfl | rfl | rfl | rfl | rfl
        · exact Nat.le_add_right _ _
        · exact Nat.le_add_right _ _
        · exact Nat.le_refl _
        · exact Nat.le_add_right _ _
        · exact Nat.le_add_right _ _
      exact I1.fpOk hb' (I1.hok.fresh hb')
end
end L2
set_option Elab.async false
set_option linter.all false
set_option maxRecDepth 100000
set_option maxHeartbeats 4000000
namespace L3
open PySem PySem.Spec PySem.Calls PyProof.Rows L2
inductive D where
  | non | bl (b : Bool) | int (i : Int) | str (x : Str) | raw (v : V)
  | tup (ds : List D) | lst (ds : List D)
  /-- dicts by keys that are ints and texts; by tuples of these; objects -/
  | dk (ks : List Key) (ds : List D) | dt (ks : List (List Key)) (ds : List D)
  | obj (C : Addr) (fs : List Str) (ds : List D)
  /-- an exception of the class at C -/
  | exc (C : Addr)
  /-- the script: a list of ints that is only read -/
  | scr (ns : List Int)
mutual
/-- v is d in the heap H -/
def Is (K : PySem.W.Frag) (H : Hp) : D → V → Prop
  | .non, v => v = .non
  | .bl b, v => v = .bl b
  | .int i, v => v = .int i
  | .str x, v => v = .str x
  | .raw u, v => v = u
  | .tup ds, v => ∃ a xs, v = .ref a ∧ SqT K H a xs ∧ IsL K H ds xs
  | .lst ds, v => ∃ a xs, v = .ref a ∧ Rd H a (.lst xs) ∧ IsL K H ds xs
  | .dk ks ds, v => ∃ a xs, v = .ref a ∧ H a = some (.dK (ks.zip xs)) ∧ ks.length = xs.length ∧ IsL K H ds xs
  | .dt ks ds, v => ∃ a xs, v = .ref a ∧ H a = some (.dT (ks.zip xs)) ∧ ks.length = xs.length ∧ IsL K H ds xs
  | .obj C fs ds, v => ∃ a dx xs, v = .ref a ∧ H a = some (.ins C dx (fs.zip xs)) ∧ fs.length = xs.length ∧ IsL K H ds xs
  | .exc C, v => ∃ a, v = .ref a ∧ H a = some (xobj a (.ref C))
  | .scr ns, v => ∃ a, v = .ref a ∧ SqL K H a (ns.map V.int)
def IsL (K : PySem.W.Frag) (H : Hp) : List D → List V → Prop
  | [], xs => xs = []
  | d :: ds, xs => ∃ x r, xs = x :: r ∧ Is K H d x ∧ IsL K H ds r
end
section
variable {K : PySem.W.Frag} {H H' : Hp}
theorem same_rd {a : Addr} {u : HO} (e : Same H H') (h : Rd H a u) : Rd H' a u := by
  rcases h with h | ⟨o, h⟩
  · exact .inl (e _ _ h)
  · exact .inr ⟨o, e _ _ h⟩
theorem same_tup {a : Addr} {xs : List V} (e : Same H H') (h : SqT K H a xs) : SqT K H' a xs := by
  rcases h with (h | ⟨o, h⟩) | h
  · exact .inl (.inl (e _ _ h))
  · exact .inl (.inr ⟨o, e _ _ h⟩)
  · exact .inr h
mutual
theorem Is.mono (e : Same H H') : ∀ {d : D} {v : V}, Is K H d v → Is K H' d v
  | .non, _, h => by simp only [Is] at h ⊢; exact h
  | .bl _, _, h => by simp only [Is] at h ⊢; exact h
  | .int _, _, h => by simp only [Is] at h ⊢; exact h
  | .str _, _, h => by simp only [Is] at h ⊢; exact h
  | .raw _, _, h => by simp only [Is] at h ⊢; exact h
  | .tup ds, _, h => by simp only [Is] at h ⊢; obtain ⟨a, xs, e1, e2, e3⟩ := h; exact ⟨a, xs, e1, same_tup e e2, IsL.mono e e3⟩
  | .lst ds, _, h => by simp only [Is] at h ⊢; obtain ⟨a, xs, e1, e2, e3⟩ := h; exact ⟨a, xs, e1, same_rd e e2, IsL.mono e e3⟩
  | .dk ks ds, _, h => by simp only [Is] at h ⊢; obtain ⟨a, xs, e1, e2, e4, e3⟩ := h; exact ⟨a, xs, e1, e _ _ e2, e4, IsL.mono e e3⟩
  | .dt ks ds, _, h => by simp only [Is] at h ⊢; obtain ⟨a, xs, e1, e2, e4, e3⟩ := h; exact ⟨a, xs, e1, e _ _ e2, e4, IsL.mono e e3⟩
  | .obj C fs ds, _, h => by simp only [Is] at h ⊢; obtain ⟨a, dx, xs, e1, e2, e4, e3⟩ := h; exact ⟨a, dx, xs, e1, e _ _ e2, e4, IsL.mono e e3⟩
  | .exc C, _, h => by simp only [Is] at h ⊢; obtain ⟨a, e1, e2⟩ := h; exact ⟨a, e1, e _ _ e2⟩
  | .scr ns, _, h => by simp only [Is] at h ⊢; obtain ⟨a, e1, e2⟩ := h; exact ⟨a, e1, e.seq e2⟩
theorem IsL.mono (e : Same H H') : ∀ {ds : List D} {xs : List V}, IsL K H ds xs → IsL K H' ds xs
  | [], _, h => by simp only [IsL] at h ⊢; exact h
  | d :: ds, _, h => by
    simp only [IsL] at h ⊢
    obtain ⟨x, r, e1, e2, e3⟩ := h
    exact ⟨x, r, e1, Is.mono e e2, IsL.mono e e3⟩
end
theorem IsL.nil : IsL K H [] [] := by simp only [IsL]
theorem IsL.cons {d : D} {ds : List D} {x : V} {xs : List V} (h : Is K H d x) (t : IsL K H ds xs) : IsL K H (d :: ds) (x :: xs) := by
  simp only [IsL]; exact ⟨x, xs, rfl, h, t⟩
theorem IsL.len : ∀ {ds : List D} {xs : List V}, IsL K H ds xs → xs.length = ds.length
  | [], _, h => by simp only [IsL] at h; subst h; rfl
  | d :: ds, _, h => by
    simp only [IsL] at h
    obtain ⟨x, r, rfl, _, t⟩ := h
    simp [IsL.len t]
theorem IsL.get : ∀ {ds : List D} {xs : List V} {i : Nat} {d : D}, IsL K H ds xs → ds[i]? = some d → ∃ x, xs[i]? = some x ∧ Is K H d x
  | [], _, _, _, _, e => by simp at e
  | d :: ds, _, 0, d', h, e => by
    simp only [IsL] at h
    obtain ⟨x, r, rfl, h1, _⟩ := h
    simp at e
    subst e
    exact ⟨x, rfl, h1⟩
  | d :: ds, _, i + 1, d', h, e => by
    simp only [IsL] at h
    obtain ⟨x, r, rfl, _, t⟩ := h
    exact IsL.get (i := i) t (by simpa using e)
theorem IsL.append : ∀ {ds es : List D} {xs ys : List V}, IsL K H ds xs → IsL K H es ys → IsL K H (ds ++ es) (xs ++ ys)
  | [], _, _, _, h, t => by simp only [IsL] at h; subst h; exact t
  | d :: ds, es, _, ys, h, t => by
    simp only [IsL] at h
    obtain ⟨x, r, rfl, h1, h2⟩ := h
    exact IsL.cons h1 (IsL.append h2 t)
theorem IsL.take : ∀ {ds : List D} {xs : List V} (n : Nat), IsL K H ds xs → IsL K H (ds.take n) (xs.take n)
  | _, _, 0, _ => by simpa using IsL.nil
  | [], _, n + 1, h => by simp only [IsL] at h; subst h; simpa using IsL.nil
  | d :: ds, _, n + 1, h => by
    simp only [IsL] at h
    obtain ⟨x, r, rfl, h1, h2⟩ := h
    exact IsL.cons h1 (IsL.take n h2)
theorem IsL.drop : ∀ {ds : List D} {xs : List V} (n : Nat), IsL K H ds xs → IsL K H (ds.drop n) (xs.drop n)
  | _, _, 0, h => by simpa using h
  | [], _, n + 1, h => by simp only [IsL] at h; subst h; simpa using IsL.nil
  | d :: ds, _, n + 1, h => by
    simp only [IsL] at h
    obtain ⟨x, r, rfl, h1, h2⟩ := h
    exact IsL.drop n h2
theorem IsL.set : ∀ {ds : List D} {xs : List V} (i : Nat) {d : D} {x : V}, IsL K H ds xs → Is K H d x → IsL K H (ds.set i d) (xs.set i x)
  | [], _, _, _, _, h, _ => by simp only [IsL] at h; subst h; simpa using IsL.nil
  | d :: ds, _, 0, _, _, h, hx => by
    simp only [IsL] at h
    obtain ⟨x, r, rfl, h1, h2⟩ := h
    exact IsL.cons hx h2
  | d :: ds, _, i + 1, _, _, h, hx => by
    simp only [IsL] at h
    obtain ⟨x, r, rfl, h1, h2⟩ := h
    exact IsL.cons h1 (IsL.set i h2 hx)
theorem IsL.get_none {ds : List D} {xs : List V} {i : Nat} (h : IsL K H ds xs) (e : ds[i]? = none) : xs[i]? = none := by
  have := h.len
  rw [List.getElem?_eq_none_iff] at e ⊢
  omega
theorem IsL.get' {ds : List D} {xs : List V} {i : Nat} {x : V} (h : IsL K H ds xs) (e : xs[i]? = some x) : ∃ d, ds[i]? = some d ∧ Is K H d x := by
  cases q : ds[i]? with
  | none => rw [h.get_none q] at e; cases e
  | some d =>
    obtain ⟨y, e1, e2⟩ := h.get q
    rw [e] at e1
    cases e1
    exact ⟨d, rfl, e2⟩
theorem IsL.of_ints : ∀ {ns : List Int} {xs : List V}, IsL K H (ns.map D.int) xs → xs = ns.map V.int
  | [], _, h => by simp only [List.map_nil, IsL] at h; subst h; rfl
  | n :: ns, _, h => by
    simp only [List.map_cons, IsL] at h
    obtain ⟨x, r, rfl, h1, h2⟩ := h
    simp only [Is] at h1
    rw [h1, IsL.of_ints h2]; rfl
end
structure Pur (F H F' H' : Hp) : Prop where
  ff : Same F F'
  fh : Same F' H'
  hh : Same H H'
  new : ∀ b, F' b ≠ none → F b ≠ none ∨ H b = none
theorem Pur.refl {F H : Hp} (h : Same F H) : Pur F H F H := ⟨Same.refl _, h, Same.refl _, fun _ q => .inl q⟩
theorem Pur.trans {F H F1 H1 F2 H2 : Hp} (a : Pur F H F1 H1) (b : Pur F1 H1 F2 H2) : Pur F H F2 H2 :=
  ⟨a.ff.trans b.ff, b.fh, a.hh.trans b.hh, fun c q => (b.new c q).elim (fun z => a.new c z) fun z => .inr (a.hh.free z)⟩
theorem Pur.lay {F H : Hp} (h : Same F H) {p : Addr} {o : HO} (hp : H p = none) : Pur F H (upd F p o) (upd H p o) := by
  have fp : F p = none := h.free hp
  refine ⟨fun b u e => ?_, fun b u e => ?_, fun b u e => ?_, fun b q => ?_⟩
  · rw [upd_ne (ne_of_none e fp)]; exact e
  · by_cases hb : b = p
    · subst hb; rw [upd_same] at e ⊢; exact e
    · rw [upd_ne hb] at e ⊢; exact h _ _ e
  · rw [upd_ne (ne_of_none e hp)]; exact e
  · by_cases hb : b = p
    · subst hb; exact .inr hp
    · rw [upd_ne hb] at q; exact .inl q
theorem Pur.layOwn {F H : Hp} (h : Same F H) {p : Addr} {o : HO} (hp : H p = none) : Pur F H F (upd H p o) := by
  refine ⟨Same.refl _, fun b u e => ?_, fun b u e => ?_, fun b q => .inl q⟩
  · rw [upd_ne (ne_of_none (h _ _ e) hp)]; exact h _ _ e
  · rw [upd_ne (ne_of_none e hp)]; exact e
def Sl (K : PySem.W.Frag) (F : Hp) (Γ : List (Option D)) (σ : L2.St) : Prop := ∀ (i : Nat) (d : D), Γ[i]? = some (some d) → ∃ v, σ[i]? = some (some v) ∧ Is K F d v
theorem Sl.mono {K : PySem.W.Frag} {F F' : Hp} {Γ : List (Option D)} {σ : L2.St} (h : Sl K F Γ σ) (e : Same F F') : Sl K F' Γ σ := fun i d q => by
  obtain ⟨v, h1, h2⟩ := h i d q
  exact ⟨v, h1, h2.mono e⟩
def tP (K : PySem.W.Frag) (Γ : List (Option D)) (d : D) : TE := fun σ H Q => ∃ F, Same F H ∧ Sl K F Γ σ ∧ ∀ v H' F', Pur F H F' H' → Is K F' d v → Q v H'
def tPT (K : PySem.W.Frag) (Γ : List (Option D)) (b : Bool) : TT := fun σ H Q => ∃ F, Same F H ∧ Sl K F Γ σ ∧ ∀ H' F', Pur F H F' H' → Q b H'
def tPL (K : PySem.W.Frag) (Γ : List (Option D)) (ds : List D) : TA := fun σ H Q => ∃ F, Same F H ∧ Sl K F Γ σ ∧ ∀ vs H' F', Pur F H F' H' → IsL K F' ds vs → Q vs H'
def P3 (X : Cx) (Γ : List (Option D)) (e : Expr) (d : D) : Prop := PE X e (tP X.K Γ d)
def PT3 (X : Cx) (Γ : List (Option D)) (e : Expr) (b : Bool) : Prop := PT X e (tPT X.K Γ b)
def PL3 (X : Cx) (Γ : List (Option D)) (es : List Expr) (ds : List D) : Prop := PA X es (tPL X.K Γ ds)
def PF3 (X : Cx) (Γ : List (Option D)) (e : Expr) (ds : List D) : Prop := PE X e fun σ H Q => ∃ F, Same F H ∧ Sl X.K F Γ σ ∧ ∀ p xs H' F', Pur F H F' H' → H p = none → F' p = none → H' p = some (.lst xs) → IsL X.K F' ds xs → Q (.ref p) H'
theorem PE.of {X : Cx} {e : Expr} {t u : TE} (h : PE X e t) (i : ∀ σ H Q, u σ H Q → t σ H Q) : PE X e u := fun pins s σ H Q I hq => h pins s σ H Q I (i _ _ _ hq)
theorem PT.of {X : Cx} {e : Expr} {t u : TT} (h : PT X e t) (i : ∀ σ H Q, u σ H Q → t σ H Q) : PT X e u := fun pins s σ H Q I hq => h pins s σ H Q I (i _ _ _ hq)
theorem PA.of {X : Cx} {e : List Expr} {t u : TA} (h : PA X e t) (i : ∀ σ H Q, u σ H Q → t σ H Q) : PA X e u := fun p pins s σ H Q I hq => h p pins s σ H Q I (i _ _ _ hq)
section
variable {X : Cx} {Γ : List (Option D)} {a b c : Expr} {d d' : D} {pos : Pos}
theorem p_var {i : Nat} {x : Str} (hN : X.N[i]? = some x) (hv : Vis X.env.scope x) (hΓ : Γ[i]? = some (some d)) (hd : (x == ("__debug__" : Str)) = false := by decide) (hcd : (x == ("__classdict__" : Str)) = false := by decide) : P3 X Γ (.Name x pos) d :=
  PE.of (pe_var hN hv hd hcd) fun σ H Q ⟨F, fh, sl, k⟩ => by
    obtain ⟨v, e, h⟩ := sl i d hΓ
    exact ⟨v, e, k v H F (Pur.refl fh) h⟩
theorem p_int {i j} : P3 X Γ (.Constant (.int i) j pos) (.int i) := PE.of pe_int fun σ H Q ⟨F, fh, sl, k⟩ => k _ H F (Pur.refl fh) (by simp only [Is])
theorem p_bl {i j} : P3 X Γ (.Constant (.bool i) j pos) (.bl i) := PE.of pe_bl fun σ H Q ⟨F, fh, sl, k⟩ => k _ H F (Pur.refl fh) (by simp only [Is])
theorem p_str {i j} : P3 X Γ (.Constant (.str i) j pos) (.str i) := PE.of pe_str fun σ H Q ⟨F, fh, sl, k⟩ => k _ H F (Pur.refl fh) (by simp only [Is])
theorem p_glob {x : Str} {v : V} {u : Value} (hg : Gl X x) (hm : X.mg x = some u) (r : RelV v u) (hi : ∀ F, Is X.K F d v) (hd : (x == ("__debug__" : Str)) = false := by decide) : P3 X Γ (.Name x pos) d :=
  PE.of (pe_glob hg hm r hd) fun σ H Q ⟨F, fh, sl, k⟩ => k _ H F (Pur.refl fh) (hi F)
theorem p_bltn {x : Str} {v : V} {u : Value} (hg : Gl X x) (hm : X.mg x = none) (hv : bootBuiltins x = some u) (r : RelV v u) (hn : x ≠ "__name__" := by decide) (hd : (x == ("__debug__" : Str)) = false := by decide) : P3 X Γ (.Name x pos) (.raw v) :=
  PE.of (pe_bltn hg hm hv r hn hd) fun σ H Q ⟨F, fh, sl, k⟩ => k _ H F (Pur.refl fh) (by simp only [Is])
theorem tP2 {K : PySem.W.Frag} {σ : L2.St} {H : Hp} {R : V → V → Hp → Prop} (h : ∃ F, Same F H ∧ Sl K F Γ σ ∧ ∀ x y H2 F2, Pur F H F2 H2 → Is K F2 d x → Is K F2 d' y → R x y H2) :
    tP K Γ d σ H fun x H1 => tP K Γ d' σ H1 fun y H2 => R x y H2 := by
  obtain ⟨F, fh, sl, k⟩ := h
  exact ⟨F, fh, sl, fun x H1 F1 p1 i1 => ⟨F1, p1.fh, sl.mono p1.ff, fun y H2 F2 p2 i2 => k x y H2 F2 (p1.trans p2) (i1.mono p2.ff) i2⟩⟩
theorem p_opR {op : Operator} {r : R2} {d3 : D} (ho : OpR X (binaryOp op) r) (ha : P3 X Γ a d) (hb : P3 X Γ b d') (hr : ∀ x y H F Q, Same F H → Is X.K F d x → Is X.K F d' y → (∀ v H' F', Pur F H F' H' → Is X.K F' d3 v → Q v H') → r x y H Q) : P3 X Γ (.BinOp a op b pos) d3 :=
  PE.of (pe_op ho ha hb) fun σ H Q ⟨F, fh, sl, k⟩ => tP2 ⟨F, fh, sl, fun x y H2 F2 p i1 i2 => hr x y H2 F2 Q p.fh i1 i2 fun v H' F' p' i => k v H' F' (p.trans p') i⟩
theorem isI {K : PySem.W.Frag} {F : Hp} {i : Int} {v : V} (h : Is K F (.int i) v) : v = .int i := by simp only [Is] at h; exact h
theorem isB {K : PySem.W.Frag} {F : Hp} {i : Bool} {v : V} (h : Is K F (.bl i) v) : v = .bl i := by simp only [Is] at h; exact h
theorem isR {K : PySem.W.Frag} {F : Hp} {i v : V} (h : Is K F (.raw i) v) : v = i := by simp only [Is] at h; exact h
theorem p_opI {op : Operator} {C : Int → Int → Prop} {g : Int → Int → V} {i j : Int} {d3 : D} (ho : OpR X (binaryOp op) (rI C g)) (ha : P3 X Γ a (.int i)) (hb : P3 X Γ b (.int j)) (hc : C i j) (h3 : ∀ F, Is X.K F d3 (g i j)) : P3 X Γ (.BinOp a op b pos) d3 :=
  p_opR ho ha hb fun x y H F Q fh i1 i2 k => ⟨i, j, isI i1, isI i2, hc, k _ H F (Pur.refl fh) (h3 F)⟩
theorem p_opI0 {op : Operator} {g : Int → Int → V} {i j : Int} {d3 : D} (ho : OpR X (binaryOp op) (rI0 g)) (ha : P3 X Γ a (.int i)) (hb : P3 X Γ b (.int j)) (h3 : ∀ F, Is X.K F d3 (g i j)) : P3 X Γ (.BinOp a op b pos) d3 :=
  p_opR ho ha hb fun x y H F Q fh i1 i2 k => ⟨i, j, isI i1, isI i2, k _ H F (Pur.refl fh) (h3 F)⟩
theorem i_int {K : PySem.W.Frag} {i : Int} : ∀ F, Is K F (.int i) (.int i) := fun _ => by simp only [Is]
theorem i_bl {K : PySem.W.Frag} {i : Bool} : ∀ F, Is K F (.bl i) (.bl i) := fun _ => by simp only [Is]
theorem i_raw {K : PySem.W.Frag} {i : V} : ∀ F, Is K F (.raw i) i := fun _ => by simp only [Is]
theorem i_non {K : PySem.W.Frag} : ∀ F, Is K F .non .non := fun _ => by simp only [Is]
variable {i j : Int}
theorem p_add (ha : P3 X Γ a (.int i)) (hb : P3 X Γ b (.int j)) : P3 X Γ (.BinOp a .Add b pos) (.int (i + j)) := p_opI0 op_add ha hb i_int
theorem p_sub (ha : P3 X Γ a (.int i)) (hb : P3 X Γ b (.int j)) : P3 X Γ (.BinOp a .Sub b pos) (.int (i - j)) := p_opI0 op_sub ha hb i_int
theorem p_mul (ha : P3 X Γ a (.int i)) (hb : P3 X Γ b (.int j)) (h : IntMulOk i j) : P3 X Γ (.BinOp a .Mult b pos) (.int (i * j)) := p_opI op_mulI ha hb h i_int
theorem p_mod (ha : P3 X Γ a (.int i)) (hb : P3 X Γ b (.int j)) (h : 0 < j) : P3 X Γ (.BinOp a .Mod b pos) (.int (i % j)) := p_opI op_mod ha hb h i_int
theorem p_fdivP (py : Pyl X) (ha : P3 X Γ a (.int i)) (hb : P3 X Γ b (.int j)) (h : 0 < j) : P3 X Γ (.BinOp a .FloorDiv b pos) (.int (i / j)) :=
  p_opI (op_fdivP py) ha hb (by omega) (fun F => by rw [Int.fdiv_eq_ediv_of_nonneg _ (Int.le_of_lt h)]; exact i_int F)
end
theorem atI_is {K : PySem.W.Frag} {F : Hp} {ds : List D} {xs : List V} {i : Int} {d : D} (h : IsL K F ds xs) (e : atI ds i = some d) : ∃ x, atI xs i = some x ∧ Is K F d x := by
  unfold atI at e ⊢
  rw [h.len]
  cases q : ixN ds.length i with
  | none => rw [q] at e; cases e
  | some j =>
    rw [q] at e
    exact h.get (i := j) e
section
variable {X : Cx} {Γ : List (Option D)} {a b c : Expr} {d d' : D} {pos : Pos} {i : Int} {ds : List D}
theorem p_ixR {r : R2} {d3 : D} (ho : IxR X r) (ha : P3 X Γ a d) (hb : P3 X Γ b d') (hr : ∀ x y H F Q, Same F H → Is X.K F d x → Is X.K F d' y → (∀ v H' F', Pur F H F' H' → Is X.K F' d3 v → Q v H') → r x y H Q) (hs : PlainIx b) : P3 X Γ (.Subscript a b pos) d3 :=
  PE.of (pe_ix ho ha hb hs) fun σ H Q ⟨F, fh, sl, k⟩ => tP2 ⟨F, fh, sl, fun x y H2 F2 p i1 i2 => hr x y H2 F2 Q p.fh i1 i2 fun v H' F' p' i => k v H' F' (p.trans p') i⟩
theorem p_ixT (ha : P3 X Γ a (.tup ds)) (hb : P3 X Γ b (.int i)) (he : atI ds i = some d) (hs : PlainIx b := by exact fun _ _ => rfl) : P3 X Γ (.Subscript a b pos) d :=
  p_ixR ix_tup ha hb (fun x y H F Q fh i1 i2 k => by
    simp only [Is] at i1 i2
    obtain ⟨p, xs, rfl, h1, h2⟩ := i1
    obtain ⟨v, e1, e2⟩ := atI_is h2 he
    exact ⟨p, xs, i, v, rfl, i2, same_tup fh h1, e1, k v H F (Pur.refl fh) e2⟩) hs
theorem p_ixL (ha : P3 X Γ a (.lst ds)) (hb : P3 X Γ b (.int i)) (he : atI ds i = some d) (hs : PlainIx b := by exact fun _ _ => rfl) : P3 X Γ (.Subscript a b pos) d :=
  p_ixR ix_list ha hb (fun x y H F Q fh i1 i2 k => by
    simp only [Is] at i1 i2
    obtain ⟨p, xs, rfl, h1, h2⟩ := i1
    obtain ⟨v, e1, e2⟩ := atI_is h2 he
    exact ⟨p, xs, i, v, rfl, i2, .inl (same_rd fh h1), e1, k v H F (Pur.refl fh) e2⟩) hs
variable {e : Expr} {es : List Expr}
theorem pl_nil : PL3 X Γ [] [] := PA.of pa_nil fun σ H Q ⟨F, fh, sl, k⟩ => k [] H F (Pur.refl fh) IsL.nil
theorem pl_cons (ha : P3 X Γ e d) (hr : PL3 X Γ es ds) (hs : starEach (e :: es) X.env = (false, eval e X.env) :: starEach es X.env := by rfl) : PL3 X Γ (e :: es) (d :: ds) :=
  PA.of (pa_cons ha hr hs) fun σ H Q ⟨F, fh, sl, k⟩ => ⟨F, fh, sl, fun x H1 F1 p1 i1 => ⟨F1, p1.fh, sl.mono p1.ff, fun xs H2 F2 p2 i2 => k (x :: xs) H2 F2 (p1.trans p2) (IsL.cons (i1.mono p2.ff) i2)⟩⟩
theorem p_tup {x1} (h : PL3 X Γ es ds) (hz : ds.length ≤ sizeLine := by (simp only [List.length_cons, List.length_nil]; decide)) : P3 X Γ (.Tuple es x1 pos) (.tup ds) :=
  PE.of (pe_tup h) fun σ H Q ⟨F, fh, sl, k⟩ => ⟨F, fh, sl, fun xs H1 F1 p1 i1 => ⟨by rw [i1.len]; exact hz, fun p hp => k _ _ _ (p1.trans (Pur.lay p1.fh hp)) (by
    simp only [Is]
    exact ⟨p, xs, rfl, .inl (.inl upd_same), i1.mono (Pur.lay p1.fh hp).ff⟩)⟩⟩
theorem pf_lst (h : PL3 X Γ es ds) (hz : ds.length ≤ sizeLine := by (simp only [List.length_cons, List.length_nil]; decide)) : PF3 X Γ (.List es pos) ds :=
  PE.of (pe_lst h) fun σ H Q ⟨F, fh, sl, k⟩ => ⟨F, fh, sl, fun xs H1 F1 p1 i1 => ⟨by rw [i1.len]; exact hz, fun p hp => k p xs _ F1 (p1.trans (Pur.layOwn p1.fh hp)) (p1.hh.free hp) (p1.fh.free hp) upd_same i1⟩⟩
theorem PF3.p (h : PF3 X Γ e ds) : P3 X Γ e (.lst ds) := PE.of h fun σ H Q ⟨F, fh, sl, k⟩ => ⟨F, fh, sl, fun p xs H' F' pu hp fp e i => by
  have w : Same F' (upd F' p (.lst xs)) := fun b u q => by rw [upd_ne (ne_of_none q fp)]; exact q
  have wf : Same (upd F' p (.lst xs)) H' := fun b u q => by
    by_cases hb : b = p
    · subst hb; rw [upd_same] at q; cases q; exact e
    · rw [upd_ne hb] at q; exact pu.fh _ _ q
  have w2 : Pur F H (upd F' p (.lst xs)) H' := by
    refine ⟨pu.ff.trans w, wf, pu.hh, fun b q => ?_⟩
    by_cases hb : b = p
    · subst hb; exact .inr hp
    · rw [upd_ne hb] at q; exact pu.new b q
  exact k _ _ _ w2 (by simp only [Is]; exact ⟨p, xs, rfl, .inl upd_same, i.mono w⟩)⟩
theorem p_lst (h : PL3 X Γ es ds) (hz : ds.length ≤ sizeLine := by (simp only [List.length_cons, List.length_nil]; decide)) : P3 X Γ (.List es pos) (.lst ds) := (pf_lst h hz).p
end
end L3
set_option Elab.async false
set_option linter.all false
set_option maxRecDepth 100000
set_option maxHeartbeats 4000000
namespace L3
open PySem PySem.Spec PySem.Calls PyProof.Rows L2
mutual
def beqD : D → D → Bool
  | .non, .non => true
  | .bl a, .bl b => a == b
  | .int a, .int b => a == b
  | .str a, .str b => a == b
  | .tup a, .tup b => beqL a b
  | .lst a, .lst b => beqL a b
  | _, _ => false
def beqL : List D → List D → Bool
  | [], [] => true
  | a :: as, b :: bs => beqD a b && beqL as bs
  | _, _ => false
end
mutual
/-- plain values: no dicts, no objects -/
def pln : D → Bool
  | .non => true
  | .bl _ => true
  | .int _ => true
  | .str _ => true
  | .tup a => plnL a
  | .lst a => plnL a
  | _ => false
def plnL : List D → Bool
  | [] => true
  | a :: as => pln a && plnL as
end
mutual
/-- of one kind wherever they are compared -/
def kin : D → D → Bool
  | .non, .non => true
  | .bl _, .bl _ => true
  | .int _, .int _ => true
  | .str _, .str _ => true
  | .tup a, .tup b => kins a b
  | .lst a, .lst b => kins a b
  | _, _ => false
def kins : List D → List D → Bool
  | a :: as, b :: bs => kin a b && kins as bs
  | _, _ => true
end
mutual
def dep : D → Nat
  | .tup a => depL a + 1
  | .lst a => depL a + 1
  | _ => 0
def depL : List D → Nat
  | [] => 0
  | a :: as => max (dep a) (depL as)
end
mutual
theorem beqD_refl : ∀ {d : D}, pln d = true → beqD d d = true
  | .non, _ => by simp [beqD]
  | .bl _, _ => by simp [beqD]
  | .int _, _ => by simp [beqD]
  | .str _, _ => by simp [beqD]
  | .tup a, h => by rw [beqD]; rw [pln] at h; exact beqL_refl h
  | .lst a, h => by rw [beqD]; rw [pln] at h; exact beqL_refl h
  | .raw _, h => by simp [pln] at h
  | .dk _ _, h => by simp [pln] at h
  | .dt _ _, h => by simp [pln] at h
  | .obj _ _ _, h => by simp [pln] at h
  | .exc _, h => by simp [pln] at h
  | .scr _, h => by simp [pln] at h
theorem beqL_refl : ∀ {d : List D}, plnL d = true → beqL d d = true
  | [], _ => by simp [beqL]
  | a :: as, h => by
    rw [plnL, Bool.and_eq_true] at h
    rw [beqL, beqD_refl h.1, beqL_refl h.2]; rfl
end
mutual
theorem beqD_eq : ∀ {d e : D}, beqD d e = true → d = e
  | .non, e, h => by cases e <;> simp [beqD] at h ⊢
  | .bl _, e, h => by cases e <;> simp [beqD] at h ⊢; exact h
  | .int _, e, h => by cases e <;> simp [beqD] at h ⊢; exact h
  | .str _, e, h => by cases e <;> simp [beqD] at h ⊢; exact h
  | .tup a, e, h => by cases e <;> simp only [beqD, Bool.false_eq_true] at h; rw [beqL_eq h]
  | .lst a, e, h => by cases e <;> simp only [beqD, Bool.false_eq_true] at h; rw [beqL_eq h]
  | .raw _, e, h => by cases e <;> simp [beqD] at h
  | .dk _ _, e, h => by cases e <;> simp [beqD] at h
  | .dt _ _, e, h => by cases e <;> simp [beqD] at h
  | .obj _ _ _, e, h => by cases e <;> simp [beqD] at h
  | .exc _, e, h => by cases e <;> simp [beqD] at h
  | .scr _, e, h => by cases e <;> simp [beqD] at h
theorem beqL_eq : ∀ {d e : List D}, beqL d e = true → d = e
  | [], e, h => by cases e <;> simp [beqL] at h ⊢
  | a :: as, e, h => by
    cases e with
    | nil => simp [beqL] at h
    | cons b bs =>
      rw [beqL, Bool.and_eq_true] at h
      rw [beqD_eq h.1, beqL_eq h.2]
end
theorem beqD_ne {d e : D} (h : d ≠ e) : beqD d e = false := by
  cases q : beqD d e with
  | false => rfl
  | true => exact absurd (beqD_eq q) h
theorem beqL_all : ∀ (ds es : List D), ds.length = es.length → ((List.range ds.length).all fun j => beqD (ds.getD j .non) (es.getD j .non)) = beqL ds es
  | [], [], _ => by simp [beqL]
  | [], _ :: _, h => by simp at h
  | _ :: _, [], h => by simp at h
  | a :: as, b :: bs, h => by
    have ih := beqL_all as bs (by simpa using h)
    rw [beqL, ← ih, List.length_cons, List.range_succ_eq_map, List.all_cons, List.all_map]
    rfl
theorem beqL_len : ∀ {ds es : List D}, ds.length ≠ es.length → beqL ds es = false
  | [], [], h => absurd rfl h
  | [], _ :: _, _ => by simp [beqL]
  | _ :: _, [], _ => by simp [beqL]
  | a :: as, b :: bs, h => by
    rw [beqL, beqL_len (ds := as) (es := bs) (fun z => h (by simp [z])), Bool.and_false]
theorem kins_get : ∀ {ds es : List D} {i : Nat} {d e : D}, kins ds es = true → ds[i]? = some d → es[i]? = some e → kin d e = true
  | [], _, _, _, _, _, h, _ => by simp at h
  | _ :: _, [], _, _, _, _, _, h => by simp at h
  | a :: as, b :: bs, 0, d, e, h, h1, h2 => by
    simp at h1 h2
    subst h1 h2
    rw [kins, Bool.and_eq_true] at h
    exact h.1
  | a :: as, b :: bs, i + 1, d, e, h, h1, h2 => by
    rw [kins, Bool.and_eq_true] at h
    exact kins_get (i := i) h.2 (by simpa using h1) (by simpa using h2)
theorem dep_get : ∀ {ds : List D} {i : Nat} {d : D}, ds[i]? = some d → dep d ≤ depL ds
  | [], _, _, h => by simp at h
  | a :: as, 0, d, h => by simp at h; subst h; rw [depL]; exact Nat.le_max_left _ _
  | a :: as, i + 1, d, h => by
    rw [depL]
    exact Nat.le_trans (dep_get (i := i) (by simpa using h)) (Nat.le_max_right _ _)
section
variable {X : Cx} {pins : List (Addr × Obj)} {σ : L2.St} {H : Hp} {s : Shared}
theorem Is.same (I : Inv X pins σ H s) : ∀ (n : Nat) {v : V} {d e : D}, dep d ≤ n → kin d e = true → Is X.K H d v → Is X.K H e v → d = e := by
  intro n
  induction n with
  | zero =>
    intro v d e hn hk h h'
    cases d <;> cases e <;> simp [kin] at hk <;> simp only [Is] at h h' <;> first
      | rfl
      | (rw [h] at h'; injection h' with z; rw [z]; done)
      | (rw [dep] at hn; omega)
  | succ n ih =>
    intro v d e hn hk h h'
    have go : ∀ {ds es : List D} {xs : List V}, depL ds ≤ n → kins ds es = true → IsL X.K H ds xs → IsL X.K H es xs → ds = es := by
      intro ds es xs hd hks h1 h2
      have l1 := h1.len
      have l2 := h2.len
      refine List.ext_getElem? fun i => ?_
      cases q : xs[i]? with
      | none =>
        have z : xs.length ≤ i := List.getElem?_eq_none_iff.mp q
        rw [List.getElem?_eq_none_iff.mpr (by omega), List.getElem?_eq_none_iff.mpr (by omega)]
      | some v =>
        obtain ⟨d, e1, i1⟩ := h1.get' q
        obtain ⟨e, e2, i2⟩ := h2.get' q
        rw [e1, e2, ih (Nat.le_trans (dep_get e1) hd) (kins_get hks e1 e2) i1 i2]
    cases d <;> cases e <;> simp [kin] at hk <;> simp only [Is] at h h' <;> first
      | rfl
      | (rw [h] at h'; injection h' with z; rw [z]; done)
      | (rw [dep] at hn
         obtain ⟨a, xs, rfl, s1, i1⟩ := h
         obtain ⟨a', ys, e', s2, i2⟩ := h'
         cases e'
         first
         | (cases I.tuple_inj s1 s2; rw [go (by omega) hk i1 i2]; done)
         | (cases I.list_inj (.inl s1) (.inl s2); rw [go (by omega) hk i1 i2]; done))
def placeEq (ds es : List D) (j : Nat) : Bool := beqD (ds.getD j .non) (es.getD j .non)
theorem items_eq {xs ys : List V} {ds es : List D} {us vs : List Value} {A : Around} (r1 : Vals xs us) (r2 : Vals ys vs) (h1 : IsL X.K H ds xs) (h2 : IsL X.K H es ys)
    (hk : kins ds es = true) {n : Nat} (hn : depL ds ≤ n)
    (ih : ∀ (x y : V) (d e : D) (u v : Value), dep d ≤ n → Is X.K H d x → Is X.K H e y → kin d e = true → RelV x u → RelV y v → SeqAt.EqAt A s u v (beqD d e)) :
    ∀ j (q1 : j < us.toArray.size) (q2 : j < vs.toArray.size), SeqAt.EqAt A s us.toArray[j] vs.toArray[j] (placeEq ds es j) := by
  intro j q1 q2
  have e1 := r1.length
  have e2 := r2.length
  have l1 := h1.len
  have l2 := h2.len
  have p1 : j < us.length := by simpa using q1
  have p2 : j < vs.length := by simpa using q2
  have x1 : xs[j]? = some (xs[j]'(by omega)) := List.getElem?_eq_getElem _
  have y1 : ys[j]? = some (ys[j]'(by omega)) := List.getElem?_eq_getElem _
  obtain ⟨d, d1, i1⟩ := h1.get' x1
  obtain ⟨e, c1, i2⟩ := h2.get' y1
  obtain ⟨u, hu, ru⟩ := r1.get x1
  obtain ⟨v, hv, rv⟩ := r2.get y1
  have z1 : us.toArray[j] = u := by
    have : us[j]? = some (us[j]'p1) := List.getElem?_eq_getElem _
    rw [hu] at this
    simpa using (Option.some.inj this).symm
  have z2 : vs.toArray[j] = v := by
    have : vs[j]? = some (vs[j]'p2) := List.getElem?_eq_getElem _
    rw [hv] at this
    simpa using (Option.some.inj this).symm
  rw [z1, z2]
  unfold placeEq
  rw [List.getD_eq_getElem?_getD, List.getD_eq_getElem?_getD, d1, c1]
  exact ih _ _ _ _ u v (Nat.le_trans (dep_get d1) hn) i1 i2 (kins_get hk d1 c1) ru rv
theorem all_is {xs ys : List V} {ds es : List D} {us vs : List Value} (r1 : Vals xs us) (r2 : Vals ys vs) (h1 : IsL X.K H ds xs) (h2 : IsL X.K H es ys) :
    ((List.range (min us.toArray.size vs.toArray.size)).all (placeEq ds es) && us.toArray.size == vs.toArray.size) = beqL ds es := by
  have e1 := r1.length
  have e2 := r2.length
  have l1 := h1.len
  have l2 := h2.len
  simp only [List.size_toArray]
  by_cases hl : us.length = vs.length
  · rw [← hl, Nat.min_self, beq_self_eq_true, Bool.and_true, ← e1, l1]
    exact beqL_all ds es (by omega)
  · rw [beqL_len (by omega), show (us.length == vs.length) = false by simpa using hl, Bool.and_false]
theorem rc_tup3 {a b : Addr} {xs ys : List V} {ds es : List D} {A : Around} (I : Inv X pins σ H s) (hx : SqT X.K H a xs) (hy : SqT X.K H b ys) (h1 : IsL X.K H ds xs) (h2 : IsL X.K H es ys) (hu : A.units < cLine)
    (hk : kins ds es = true) {n : Nat} (hn : depL ds ≤ n)
    (ih : ∀ (x y : V) (d e : D) (u v : Value), dep d ≤ n → Is X.K H d x → Is X.K H e y → kin d e = true → RelV x u → RelV y v → SeqAt.EqAt A.in1 s u v (beqD d e)) : SeqAt.RcAt A s (.ref a) (.ref b) (beqL ds es) := by
  obtain ⟨us, r1, t1, _⟩ := I.tuple hx
  obtain ⟨vs, r2, t2, _⟩ := I.tuple hy
  have z := SeqAt.RcAt.tuples (show s.heap.IsTuple a us.toArray from t1) (show s.heap.IsTuple b vs.toArray from t2) hu (items_eq r1 r2 h1 h2 hk hn ih)
  rw [all_is r1 r2 h1 h2] at z
  exact z
theorem rc_lst3 {a b : Addr} {xs ys : List V} {ds es : List D} {A : Around} (I : Inv X pins σ H s) (hx : SqL X.K H a xs) (hy : SqL X.K H b ys) (h1 : IsL X.K H ds xs) (h2 : IsL X.K H es ys) (hu : A.units < cLine)
    (hk : kins ds es = true) {n : Nat} (hn : depL ds ≤ n)
    (ih : ∀ (x y : V) (d e : D) (u v : Value), dep d ≤ n → Is X.K H d x → Is X.K H e y → kin d e = true → RelV x u → RelV y v → SeqAt.EqAt A.in1 s u v (beqD d e)) : SeqAt.RcAt A s (.ref a) (.ref b) (beqL ds es) := by
  obtain ⟨us, r1, t1, _⟩ := I.list hx
  obtain ⟨vs, r2, t2, _⟩ := I.list hy
  have e1 := r1.length
  have e2 := r2.length
  have l1 := h1.len
  have l2 := h2.len
  by_cases hl : us.length = vs.length
  · have z := SeqAt.RcAt.lists t1.isList t2.isList (by simpa using hl) hu (items_eq r1 r2 h1 h2 hk hn ih)
    have q : (List.range us.toArray.size).all (placeEq ds es) = beqL ds es := by
      simp only [List.size_toArray]
      rw [← e1, l1]
      exact beqL_all ds es (by omega)
    rw [q] at z
    exact z
  · rw [beqL_len (by omega)]
    exact SeqAt.RcAt.lists_lengths t1.isList t2.isList (by simpa using hl) hu
theorem ne_tup3 {a b : Addr} {xs ys : List V} {ds es : List D} {A : Around} (I : Inv X pins σ H s) (hx : SqT X.K H a xs) (hy : SqT X.K H b ys) (h1 : IsL X.K H ds xs) (h2 : IsL X.K H es ys) (hu : A.units < cLine)
    (hk : kins ds es = true) {n : Nat} (hn : depL ds ≤ n)
    (ih : ∀ (x y : V) (d e : D) (u v : Value), dep d ≤ n → Is X.K H d x → Is X.K H e y → kin d e = true → RelV x u → RelV y v → SeqAt.EqAt A.in1 s u v (beqD d e)) : SeqAt.RcNeAt A s (.ref a) (.ref b) (!beqL ds es) := by
  obtain ⟨us, r1, t1, _⟩ := I.tuple hx
  obtain ⟨vs, r2, t2, _⟩ := I.tuple hy
  have z := SeqAt.RcNeAt.tuples (show s.heap.IsTuple a us.toArray from t1) (show s.heap.IsTuple b vs.toArray from t2) hu (items_eq r1 r2 h1 h2 hk hn ih)
  rw [all_is r1 r2 h1 h2] at z
  exact z
theorem ne_lst3 {a b : Addr} {xs ys : List V} {ds es : List D} {A : Around} (I : Inv X pins σ H s) (hx : SqL X.K H a xs) (hy : SqL X.K H b ys) (h1 : IsL X.K H ds xs) (h2 : IsL X.K H es ys) (hu : A.units < cLine)
    (hk : kins ds es = true) {n : Nat} (hn : depL ds ≤ n)
    (ih : ∀ (x y : V) (d e : D) (u v : Value), dep d ≤ n → Is X.K H d x → Is X.K H e y → kin d e = true → RelV x u → RelV y v → SeqAt.EqAt A.in1 s u v (beqD d e)) : SeqAt.RcNeAt A s (.ref a) (.ref b) (!beqL ds es) := by
  obtain ⟨us, r1, t1, _⟩ := I.list hx
  obtain ⟨vs, r2, t2, _⟩ := I.list hy
  have e1 := r1.length
  have e2 := r2.length
  have l1 := h1.len
  have l2 := h2.len
  by_cases hl : us.length = vs.length
  · have z := SeqAt.RcNeAt.lists t1.isList t2.isList (by simpa using hl) hu (items_eq r1 r2 h1 h2 hk hn ih)
    have q : (List.range us.toArray.size).all (placeEq ds es) = beqL ds es := by
      simp only [List.size_toArray]
      rw [← e1, l1]
      exact beqL_all ds es (by omega)
    rw [q] at z
    exact z
  · rw [beqL_len (by omega)]
    exact SeqAt.RcNeAt.lists_lengths t1.isList t2.isList (by simpa using hl) hu
theorem pln_of_kin : ∀ (n : Nat) {d e : D}, dep d ≤ n → kin d e = true → d = e → pln d = true := by
  intro n
  induction n with
  | zero => intro d e hn hk he; subst he; cases d <;> simp [kin] at hk <;> first | (simp [pln]; done) | (rw [dep] at hn; omega)
  | succ n ih =>
    intro d e hn hk he
    subst he
    have go : ∀ {ds : List D}, depL ds ≤ n → kins ds ds = true → plnL ds = true := by
      intro ds
      induction ds with
      | nil => intro _ _; simp [plnL]
      | cons a as ih2 =>
        intro hd hks
        rw [depL] at hd
        rw [kins, Bool.and_eq_true] at hks
        rw [plnL, ih (by omega) hks.1 rfl, ih2 (by omega) hks.2]; rfl
    cases d <;> simp [kin] at hk <;> first
      | (simp [pln]; done)
      | (rw [dep] at hn; rw [pln]; exact go (by omega) hk)
theorem eq_is3 (I : Inv X pins σ H s) : ∀ (n : Nat) (A : Around), A.units + n < cLine → ∀ (x y : V) (d e : D) (u v : Value), dep d ≤ n → Is X.K H d x → Is X.K H e y → kin d e = true → RelV x u → RelV y v → SeqAt.EqAt A s u v (beqD d e) := by
  intro n
  induction n with
  | zero =>
    intro A hA x y d e u v hn hx hy hk rx ry
    cases d <;> cases e <;> simp [kin] at hk <;> simp only [Is] at hx hy <;> first
      | (subst hx hy; cases rx; cases ry; rw [beqD]; exact SeqAt.EqAt.same _)
      | (subst hx hy; cases rx; cases ry; rw [beqD]; exact SeqAt.EqAt.bool_bool _ _)
      | (subst hx hy; obtain ⟨t, rfl⟩ := rx; obtain ⟨t', rfl⟩ := ry; rw [beqD]; exact SeqAt.EqAt.int_int _ _ _ _)
      | (subst hx hy; obtain ⟨t, rfl⟩ := rx; obtain ⟨t', rfl⟩ := ry; rw [beqD]; exact SeqAt.EqAt.str_str _ _ _ _)
      | (rw [dep] at hn; omega)
  | succ n ih =>
    intro A hA x y d e u v hn hx hy hk rx ry
    have hu : A.units < cLine := by omega
    have hA' : A.in1.units + n < cLine := by
      show A.units + 1 + n < cLine
      omega
    by_cases hxy : d = e ∧ x = y
    · obtain ⟨rfl, rfl⟩ := hxy
      have hp := pln_of_kin (n + 1) hn hk rfl
      rw [beqD_refl hp]
      cases d <;> simp [kin] at hk <;> simp only [Is] at hx <;> first
        | (subst hx; cases rx; cases ry; exact SeqAt.EqAt.same _)
        | (subst hx; obtain ⟨t, rfl⟩ := rx; obtain ⟨t', rfl⟩ := ry; have z := SeqAt.EqAt.int_int (A := A) (s := s) (by assumption) t (by assumption) t'; simpa using z)
        | (subst hx; rename_i i; obtain ⟨t, rfl⟩ := rx; obtain ⟨t', rfl⟩ := ry; have z := SeqAt.EqAt.int_int (A := A) (s := s) i t i t'; simpa using z)
        | (subst hx; rename_i i; obtain ⟨t, rfl⟩ := rx; obtain ⟨t', rfl⟩ := ry; have z := SeqAt.EqAt.str_str (A := A) (s := s) i t i t'; simpa using z)
        | (obtain ⟨a, xs, rfl, _, _⟩ := hx; cases rx; cases ry; exact SeqAt.EqAt.same _)
    · have key := fun (x y : V) (d e : D) (u v : Value) p q r s' t w => ih A.in1 hA' x y d e u v p q r s' t w
      have sm := fun (h : x = y) => Is.same I (n + 1) hn hk hx (h ▸ hy)
      cases d <;> cases e <;> simp [kin] at hk <;> simp only [Is] at hx hy <;> first
        | (subst hx hy; cases rx; cases ry; rw [beqD]; exact SeqAt.EqAt.same _)
        | (subst hx hy; cases rx; cases ry; rw [beqD]; exact SeqAt.EqAt.bool_bool _ _)
        | (subst hx hy; obtain ⟨t, rfl⟩ := rx; obtain ⟨t', rfl⟩ := ry; rw [beqD]; exact SeqAt.EqAt.int_int _ _ _ _)
        | (subst hx hy; obtain ⟨t, rfl⟩ := rx; obtain ⟨t', rfl⟩ := ry; rw [beqD]; exact SeqAt.EqAt.str_str _ _ _ _)
        | (rw [dep] at hn
           obtain ⟨a, xs, rfl, s1, i1⟩ := hx
           obtain ⟨b, ys, rfl, s2, i2⟩ := hy
           cases rx; cases ry
           have hab : a ≠ b := fun z => hxy ⟨sm (by rw [z]), by rw [z]⟩
           rw [beqD]
           first
           | exact SeqAt.EqAt.of_refs hab (rc_tup3 I s1 s2 i1 i2 hu hk (by omega) key)
           | exact SeqAt.EqAt.of_refs hab (rc_lst3 I (.inl s1) (.inl s2) i1 i2 hu hk (by omega) key))
end
def rEq3 (K : PySem.W.Frag) (neg : Bool) : R2 := fun x y H Q => ∃ d e, Is K H d x ∧ Is K H e y ∧ kin d e = true ∧ dep d ≤ 60 ∧ Q (.bl (if neg then !beqD d e else beqD d e)) H
section
variable {X : Cx}
theorem op_eq3 (hu : X.A.units + 64 < cLine) : OpR X (compareOp .Eq) (rEq3 X.K false) := by
  intro pins s σ H x y v u Q I rx ry h
  obtain ⟨d, e, h1, h2, hk, hn, q⟩ := h
  have hu0 : X.A.units < cLine := by omega
  have key := fun (x y : V) (d e : D) (u v : Value) p q r s' t w => eq_is3 (s := s) I 60 X.A.in1 (by show X.A.units + 1 + 60 < cLine; omega) x y d e u v p q r s' t w
  have sc : scal x y = true → (decide (x = y)) = beqD d e → wpAny (model X.prog X.w) X.A (compareOp .Eq v u) (EP X pins σ Q) X.xe s := fun hs hb =>
    op_eq pins s σ H x y v u Q I rx ry ⟨hs, by rw [hb]; exact q⟩
  cases d <;> cases e <;> simp [kin] at hk <;> simp only [Is] at h1 h2 <;> first
    | (subst h1 h2; exact sc rfl (by first | (simp [beqD]; done) | (rw [beqD, Bool.eq_iff_iff]; simp)))
    | (rw [dep] at hn
       obtain ⟨a, xs, rfl, s1, i1⟩ := h1
       obtain ⟨b, ys, rfl, s2, i2⟩ := h2
       cases rx; cases ry
       simp only [beqD, Bool.false_eq_true, if_false] at q
       first
       | exact rc_tup3 (A := X.A) I s1 s2 i1 i2 hu0 hk (by omega) key X.prog X.w X.xe _ ⟨.bl _, H, I, rfl, q⟩
       | exact rc_lst3 (A := X.A) I (.inl s1) (.inl s2) i1 i2 hu0 hk (by omega) key X.prog X.w X.xe _ ⟨.bl _, H, I, rfl, q⟩)
theorem op_ne3 (hu : X.A.units + 64 < cLine) : OpR X (compareOp .NotEq) (rEq3 X.K true) := by
  intro pins s σ H x y v u Q I rx ry h
  obtain ⟨d, e, h1, h2, hk, hn, q⟩ := h
  have hu0 : X.A.units < cLine := by omega
  have key := fun (x y : V) (d e : D) (u v : Value) p q r s' t w => eq_is3 (s := s) I 60 X.A.in1 (by show X.A.units + 1 + 60 < cLine; omega) x y d e u v p q r s' t w
  have sc : scal x y = true → (decide (x = y)) = beqD d e → wpAny (model X.prog X.w) X.A (compareOp .NotEq v u) (EP X pins σ Q) X.xe s := fun hs hb =>
    op_ne pins s σ H x y v u Q I rx ry ⟨hs, by rw [hb]; exact q⟩
  cases d <;> cases e <;> simp [kin] at hk <;> simp only [Is] at h1 h2 <;> first
    | (subst h1 h2; exact sc rfl (by first | (simp [beqD]; done) | (rw [beqD, Bool.eq_iff_iff]; simp)))
    | (rw [dep] at hn
       obtain ⟨a, xs, rfl, s1, i1⟩ := h1
       obtain ⟨b, ys, rfl, s2, i2⟩ := h2
       cases rx; cases ry
       simp only [beqD, if_true] at q
       first
       | exact ne_tup3 (A := X.A) I s1 s2 i1 i2 hu0 hk (by omega) key X.prog X.w X.xe _ ⟨.bl _, H, I, rfl, q⟩
       | exact ne_lst3 (A := X.A) I (.inl s1) (.inl s2) i1 i2 hu0 hk (by omega) key X.prog X.w X.xe _ ⟨.bl _, H, I, rfl, q⟩)
end
end L3
set_option Elab.async false
set_option linter.all false
set_option maxRecDepth 100000
set_option maxHeartbeats 4000000
namespace L3
open PySem PySem.Spec PySem.Calls PyProof.Rows L2
def C3 (X : Cx) (Γ : List (Option D)) (a : Expr) (op : CmpOp) (b : Expr) (k : Bool) : Prop := ∃ (r : R2) (ta tb : TE), OpR X (compareOp op) r ∧ PE X a ta ∧ PE X b tb ∧
  ∀ (σ : L2.St) (H : Hp) (Q : VK), (∃ F, Same F H ∧ Sl X.K F Γ σ ∧ ∀ H' F', Pur F H F' H' → Q (.bl k) H') → tOp r ta tb σ H Q
section
variable {X : Cx} {Γ : List (Option D)} {a b c : Expr} {d d' : D} {pos : Pos} {op : CmpOp} {k : Bool}
theorem p_cmp (h : C3 X Γ a op b k) (hm : behindInMarks op b = false := by first | exact nomark _ | with_unfolding_all rfl) : P3 X Γ (.Compare a [op] [b] pos) (.bl k) := by
  obtain ⟨r, ta, tb, ho, ha, hb, q⟩ := h
  exact PE.of (pe_cmpR ho ha hb hm) fun σ H Q ⟨F, fh, sl, kk⟩ => q σ H Q ⟨F, fh, sl, fun H' F' p => kk _ H' F' p (i_bl _)⟩
theorem t_cmp (h : C3 X Γ a op b k) (hm : behindInMarks op b = false := by first | exact nomark _ | with_unfolding_all rfl) : PT3 X Γ (.Compare a [op] [b] pos) k := by
  obtain ⟨r, ta, tb, ho, ha, hb, q⟩ := h
  exact PT.of (pt_cmpR ho ha hb hm) fun σ H Q ⟨F, fh, sl, kk⟩ => q σ H _ ⟨F, fh, sl, fun H' F' p => ⟨k, rfl, kk H' F' p⟩⟩
theorem c_R {r : R2} (ho : OpR X (compareOp op) r) (ha : P3 X Γ a d) (hb : P3 X Γ b d') (hr : ∀ x y H F Q, Same F H → Is X.K F d x → Is X.K F d' y → Q (.bl k) H → r x y H Q) : C3 X Γ a op b k :=
  ⟨r, _, _, ho, ha, hb, fun σ H Q ⟨F, fh, sl, q⟩ => tP2 ⟨F, fh, sl, fun x y H2 F2 p i1 i2 => hr x y H2 F2 Q p.fh i1 i2 (q H2 F2 p)⟩⟩
variable {i j : Int}
theorem c_I {g : Int → Int → Bool} (ho : OpR X (compareOp op) (rI0 fun i j => .bl (g i j))) (ha : P3 X Γ a (.int i)) (hb : P3 X Γ b (.int j)) : C3 X Γ a op b (g i j) :=
  c_R ho ha hb fun x y H F Q fh i1 i2 q => ⟨i, j, isI i1, isI i2, q⟩
theorem c_lt (ha : P3 X Γ a (.int i)) (hb : P3 X Γ b (.int j)) : C3 X Γ a .Lt b (decide (i < j)) := c_I op_lt ha hb
theorem c_gt (ha : P3 X Γ a (.int i)) (hb : P3 X Γ b (.int j)) : C3 X Γ a .Gt b (decide (j < i)) := c_I op_gt ha hb
theorem c_ge (ha : P3 X Γ a (.int i)) (hb : P3 X Γ b (.int j)) : C3 X Γ a .GtE b (decide (j ≤ i)) := c_I op_ge ha hb
theorem c_eqI (ha : P3 X Γ a (.int i)) (hb : P3 X Γ b (.int j)) : C3 X Γ a .Eq b (decide (i = j)) :=
  c_R op_eq ha hb fun x y H F Q fh i1 i2 q => by
    cases isI i1; cases isI i2
    exact ⟨rfl, by simpa only [V.int.injEq] using q⟩
theorem c_neI (ha : P3 X Γ a (.int i)) (hb : P3 X Γ b (.int j)) : C3 X Γ a .NotEq b (!decide (i = j)) :=
  c_R op_ne ha hb fun x y H F Q fh i1 i2 q => by
    cases isI i1; cases isI i2
    exact ⟨rfl, by simpa only [V.int.injEq] using q⟩
theorem c_eq (hu : X.A.units + 64 < cLine) (ha : P3 X Γ a d) (hb : P3 X Γ b d') (hk : kin d d' = true) (hd : dep d ≤ 60) : C3 X Γ a .Eq b (beqD d d') :=
  c_R (op_eq3 hu) ha hb fun x y H F Q fh i1 i2 q => ⟨d, d', i1.mono fh, i2.mono fh, hk, hd, q⟩
theorem c_ne (hu : X.A.units + 64 < cLine) (ha : P3 X Γ a d) (hb : P3 X Γ b d') (hk : kin d d' = true) (hd : dep d ≤ 60) : C3 X Γ a .NotEq b (!beqD d d') :=
  c_R (op_ne3 hu) ha hb fun x y H F Q fh i1 i2 q => ⟨d, d', i1.mono fh, i2.mono fh, hk, hd, q⟩
theorem t_val {e : Expr} (h : P3 X Γ e (.bl k)) (he : ∀ whole, isTrue e X.env whole = (do let v ← whole; standAt e.pos; holding [v] (truthy v)) := by intro _; rfl) : PT3 X Γ e k :=
  PT.of (pt_val h he) fun σ H Q ⟨F, fh, sl, q⟩ => ⟨F, fh, sl, fun v H' F' p i => ⟨k, isB i, q H' F' p⟩⟩
theorem t_not (h : PT3 X Γ a k) : PT3 X Γ (.UnaryOp .Not a pos) (!k) := PT.of (pt_not h) fun σ H Q ⟨F, fh, sl, q⟩ => ⟨F, fh, sl, q⟩
def PW3 (X : Cx) (Γ : List (Option D)) (e : Expr) (k : Bool) : Prop := PW X e (tPT X.K Γ k)
theorem PW.of {X : Cx} {e : Expr} {t u : TT} (h : PW X e t) (i : ∀ σ H Q, u σ H Q → t σ H Q) : PW X e u := fun w pins s σ H Q I hq => h w pins s σ H Q I (i _ _ _ hq)
theorem PW3.t {e : Expr} (h : PW3 X Γ e k) : PT3 X Γ e k := PW.pt h
theorem tw_or1 (h : PT3 X Γ a k) : PW3 X Γ (.BoolOp .Or [a] pos) k := pw_or1 h
theorem pw_no {e : Expr} : PW X e fun _ _ _ => False := fun _ _ _ _ _ _ _ h => h.elim
theorem pe_no {e : Expr} : PE X e fun _ _ _ => False := fun _ _ _ _ _ _ h => h.elim
variable {k' : Bool} {rest : List Expr}
theorem tw_or (ha : PT3 X Γ a k) (hb : k = false → PW3 X Γ (.BoolOp .Or (b :: rest) pos) k') : PW3 X Γ (.BoolOp .Or (a :: b :: rest) pos) (k || k') := by
  cases k with
  | false => exact PW.of (pw_or ha (hb rfl)) fun σ H Q ⟨F, fh, sl, q⟩ => ⟨F, fh, sl, fun H' F' p => by dsimp only; rw [if_neg Bool.false_ne_true]; exact ⟨F', p.fh, sl.mono p.ff, fun H2 F2 p2 => q H2 F2 (p.trans p2)⟩⟩
  | true => exact PW.of (pw_or ha pw_no) fun σ H Q ⟨F, fh, sl, q⟩ => ⟨F, fh, sl, fun H' F' p => by dsimp only; rw [if_pos rfl]; exact q H' F' p⟩
theorem p_one {op : BoolOp} (h : P3 X Γ a d) : P3 X Γ (.BoolOp op [a] pos) d := pe_one h
theorem p_and (ha : P3 X Γ a (.bl k)) (hb : k = true → P3 X Γ (.BoolOp .And (b :: rest) pos) (.bl k')) : P3 X Γ (.BoolOp .And (a :: b :: rest) pos) (.bl (k && k')) := by
  cases k with
  | true => exact PE.of (pe_and ha (hb rfl)) fun σ H Q ⟨F, fh, sl, q⟩ => ⟨F, fh, sl, fun v H' F' p i => ⟨true, isB i, by rw [if_pos rfl]; exact ⟨F', p.fh, sl.mono p.ff, fun v2 H2 F2 p2 i2 => q v2 H2 F2 (p.trans p2) i2⟩⟩⟩
  | false => exact PE.of (pe_and ha pe_no) fun σ H Q ⟨F, fh, sl, q⟩ => ⟨F, fh, sl, fun v H' F' p i => ⟨false, isB i, by dsimp only; rw [if_neg Bool.false_ne_true]; exact q _ H' F' p (i_bl F')⟩⟩
theorem p_or (ha : P3 X Γ a (.bl k)) (hb : k = false → P3 X Γ (.BoolOp .Or (b :: rest) pos) (.bl k')) : P3 X Γ (.BoolOp .Or (a :: b :: rest) pos) (.bl (k || k')) := by
  cases k with
  | false => exact PE.of (pe_or ha (hb rfl)) fun σ H Q ⟨F, fh, sl, q⟩ => ⟨F, fh, sl, fun v H' F' p i => ⟨false, isB i, by rw [if_neg Bool.false_ne_true]; exact ⟨F', p.fh, sl.mono p.ff, fun v2 H2 F2 p2 i2 => q v2 H2 F2 (p.trans p2) i2⟩⟩⟩
  | true => exact PE.of (pe_or ha pe_no) fun σ H Q ⟨F, fh, sl, q⟩ => ⟨F, fh, sl, fun v H' F' p i => ⟨true, isB i, by dsimp only; rw [if_pos rfl]; exact q _ H' F' p (i_bl F')⟩⟩
theorem p_not (ha : P3 X Γ a (.bl k)) : P3 X Γ (.UnaryOp .Not a pos) (.bl (!k)) := PE.of (pe_not ha) fun σ H Q ⟨F, fh, sl, q⟩ => ⟨F, fh, sl, fun v H' F' p i => ⟨k, isB i, q _ H' F' p (i_bl F')⟩⟩
theorem p_ite (hc : PT3 X Γ c k) (ha : k = true → P3 X Γ a d) (hb : k = false → P3 X Γ b d) : P3 X Γ (.IfExp c a b pos) d := by
  cases k with
  | true => exact PE.of (pe_ifExp hc (ha rfl) pe_no) fun σ H Q ⟨F, fh, sl, q⟩ => ⟨F, fh, sl, fun H' F' p => by dsimp only; rw [if_pos rfl]; exact ⟨F', p.fh, sl.mono p.ff, fun v2 H2 F2 p2 i2 => q v2 H2 F2 (p.trans p2) i2⟩⟩
  | false => exact PE.of (pe_ifExp hc pe_no (hb rfl)) fun σ H Q ⟨F, fh, sl, q⟩ => ⟨F, fh, sl, fun H' F' p => by dsimp only; rw [if_neg Bool.false_ne_true]; exact ⟨F', p.fh, sl.mono p.ff, fun v2 H2 F2 p2 i2 => q v2 H2 F2 (p.trans p2) i2⟩⟩
end
def spP (K : PySem.W.Frag) (n : Nat) (C : List D → D → Prop) : Sp := fun vs H Q _ => ∃ ds d F, C ds d ∧ ds.length = n ∧ Same F H ∧ IsL K F ds vs ∧ ∀ v H' F', Pur F H F' H' → Is K F' d v → Q v H'
def spX (K : PySem.W.Frag) (n : Nat) (C : List D → Addr → Prop) : Sp := fun vs H _ E => ∃ ds c F, C ds c ∧ ds.length = n ∧ Same F H ∧ IsL K F ds vs ∧ ∀ H' F', Pur F H F' H' → E (.ref c) none H'
theorem spP.len {K : PySem.W.Frag} {n : Nat} {C : List D → D → Prop} {vs : List V} {H : Hp} {Q : VK} {E : XK} (h : spP K n C vs H Q E) : vs.length = n := by
  obtain ⟨ds, d, F, _, l, _, i, _⟩ := h
  rw [i.len, l]
theorem spX.len {K : PySem.W.Frag} {n : Nat} {C : List D → Addr → Prop} {vs : List V} {H : Hp} {Q : VK} {E : XK} (h : spX K n C vs H Q E) : vs.length = n := by
  obtain ⟨ds, d, F, _, l, _, i, _⟩ := h
  rw [i.len, l]
section
variable {X : Cx} {Γ : List (Option D)} {d : D} {ds : List D} {n k : Nat} {C : List D → D → Prop} {x : Str} {ps : List Str} {e : Expr} {es : List Expr} {p pos : Pos}
theorem p_call (o : OkF X.prog X.w X.K X.mg X.base CX0 k x ps (spP X.K n C)) (hr : Room k X.A) (hg : Gl X x) (ha : PL3 X Γ (e :: es) ds) (hC : C ds d) (hn : ds.length = n := by rfl) (hdb : (x == ("__debug__" : Str)) = false := by decide)
    (he : starEach (e :: es) X.env = (false, eval e X.env) :: starEach es X.env := by rfl) (hpl : (backTo pos (starEach es X.env)).any (·.1) = false := by rfl) : P3 X Γ (.Call (.Name x p) (e :: es) [] pos) d :=
  PE.of (pe_fn o hr hg ha hdb he hpl) fun σ H Q ⟨F, fh, sl, q⟩ => ⟨F, fh, sl, fun vs H' F' pu i => by
    dsimp only
    rw [List.append_nil]
    exact ⟨ds, d, F', hC, hn, pu.fh, i, fun v H2 F2 p2 i2 => q v H2 F2 (pu.trans p2) i2⟩⟩
theorem p_callB {id : String} {r : List V → Hp → VK → Prop} (hc : CallR X (.builtin id) r) (hg : Gl X x) (hm : X.mg x = none) (hv : bootBuiltins x = some (.builtin id)) (ha : PL3 X Γ (e :: es) ds)
    (hr : ∀ vs H F Q, Same F H → IsL X.K F ds vs → (∀ v H' F', Pur F H F' H' → Is X.K F' d v → Q v H') → r vs H Q) (hn : x ≠ "__name__" := by decide) (hdb : (x == ("__debug__" : Str)) = false := by decide)
    (he : starEach (e :: es) X.env = (false, eval e X.env) :: starEach es X.env := by rfl) (hpl : (backTo pos (starEach es X.env)).any (·.1) = false := by rfl) : P3 X Γ (.Call (.Name x p) (e :: es) [] pos) d :=
  PE.of (pe_callB hc hg hm hv ha hn hdb he hpl) fun σ H Q ⟨F, fh, sl, q⟩ => ⟨F, fh, sl, fun vs H' F' pu i => hr vs H' F' Q pu.fh i fun v H2 F2 p2 i2 => q v H2 F2 (pu.trans p2) i2⟩
end
end L3
set_option Elab.async false
set_option linter.all false
set_option maxRecDepth 100000
set_option maxHeartbeats 4000000
namespace L3
open PySem PySem.Spec PySem.Calls PyProof.Rows L2
theorem isL1 {K : PySem.W.Frag} {F : Hp} {d : D} {vs : List V} (h : IsL K F [d] vs) : ∃ x, vs = [x] ∧ Is K F d x := by
  simp only [IsL] at h
  obtain ⟨x, r, rfl, i, rfl⟩ := h
  exact ⟨x, rfl, i⟩
theorem isL2 {K : PySem.W.Frag} {F : Hp} {d e : D} {vs : List V} (h : IsL K F [d, e] vs) : ∃ x y, vs = [x, y] ∧ Is K F d x ∧ Is K F e y := by
  simp only [IsL] at h
  obtain ⟨x, r, rfl, i, y, r2, rfl, i2, rfl⟩ := h
  exact ⟨x, y, rfl, i, i2⟩
def rCat3 (K : PySem.W.Frag) : R2 := fun x y H Q => ∃ l b xs zs, x = .ref l ∧ y = .ref b ∧ SqL K H l xs ∧ SqL K H b zs ∧ xs.length + zs.length ≤ sizeLine ∧ ∀ p, H p = none → Q (.ref p) (upd H p (.lst (xs ++ zs)))
section
variable {X : Cx}
theorem op_cat3 : OpR X (binaryOp .Add) (rCat3 X.K) := by
  intro pins s σ H x y v u Q I rx ry h
  obtain ⟨l, b, xs, zs, rfl, rfl, hH, hB, hz, q⟩ := h
  cases rx
  cases ry
  obtain ⟨its, r, ⟨o, n, e, c, dd, d⟩, z⟩ := I.list hH
  obtain ⟨its2, r2, ⟨o2, n2, e2, c2, dd2, d2⟩, z2⟩ := I.list hB
  obtain ⟨oc, od, odt, osl⟩ := o
  obtain ⟨oc2, od2, odt2, osl2⟩ := o2
  dsimp only at c dd d c2 dd2 d2
  subst c dd d c2 dd2 d2
  have hl := r.length
  have hl2 := r2.length
  have ea : its.toArray ++ its2.toArray = (its ++ its2).toArray := by simp
  refine concat_meets ⟨_, e, rfl⟩ ⟨_, e2, rfl⟩ noFill_list_add seq_list_add PySem.F.slot_list_add PySem.F.entry_list_add (PySem.F.args_list_add_2 _ _) (list_addW l b its.toArray its2.toArray n n2 none none osl osl2 (by rw [List.size_toArray, List.size_toArray]; omega)) ⟨e, e2, ?_⟩
  rw [ea]
  exact ⟨.ref _, _, I.lnew (t' := s.toks) (r.append r2) (by rw [List.length_append]; omega), rfl, q _ I.fresh⟩
def dTy : D → Option Value
  | .non => some (.type "NoneType")
  | .bl _ => some (.type "bool")
  | .int _ => some (.type "int")
  | .str _ => some (.type "str")
  | .tup _ => some (.type "tuple")
  | .lst _ => some (.type "list")
  | .dk _ _ => some (.type "dict")
  | .dt _ _ => some (.type "dict")
  | _ => none
theorem call_isin3 : CallR X (.builtin "isinstance") (fun xs H Q => ∃ x c d t b, xs = [x, c] ∧ Is X.K H d x ∧ dTy d = some t ∧ PySem.W.kitOne X.K t (cV c) = some b ∧ cV c ≠ .none ∧ Q (.bl b) H) := by
  intro pins s σ H xs us Q I r h
  obtain ⟨x, c, d, t, b, rfl, hi, ht, hk, hc, q⟩ := h
  obtain ⟨u, v, rfl, r1, r2⟩ := vals2 r
  rw [rel_cV r2 hc]
  have fin : ∀ tk, EP X pins σ Q (.bool b) { s with toks := tk } := fun tk => ⟨.bl b, H, I.tok _, rfl, q⟩
  cases d with
  | non => simp only [Is] at hi; subst hi; cases ht; exact isinst_ok I r1 .non hk fin
  | bl y => simp only [Is] at hi; subst hi; cases ht; exact isinst_ok I r1 (.bl y) hk fin
  | int y => simp only [Is] at hi; subst hi; cases ht; exact isinst_ok I r1 (.int y) hk fin
  | str y => simp only [Is] at hi; subst hi; cases ht; exact isinst_ok I r1 (.str y) hk fin
  | raw y => cases ht
  | obj C fs ds => cases ht
  | exc C => cases ht
  | scr ns => cases ht
  | tup ds =>
    simp only [Is] at hi
    obtain ⟨a, xs, rfl, h1, _⟩ := hi
    cases ht
    cases r1
    obtain ⟨its, _, ⟨o, e, c', _⟩, _⟩ := I.tuple h1
    exact PySem.W.kia_one PySem.W.kitx_tuple I.kIn ⟨o, e, c'⟩ hk (fun z => nomatch z) fin
  | lst ds =>
    simp only [Is] at hi
    obtain ⟨a, xs, rfl, h1, _⟩ := hi
    cases ht
    cases r1
    obtain ⟨its, _, p, _⟩ := I.list (.inl h1)
    obtain ⟨o, e, c', _⟩ := p.isList
    exact PySem.W.kia_one PySem.W.kitx_list I.kIn ⟨o, e, c'⟩ hk (fun z => nomatch z) fin
  | dk ks ds =>
    simp only [Is] at hi
    obtain ⟨a, xs, rfl, h1, _⟩ := hi
    cases ht
    exact isinst_ok I r1 (.dK h1) hk fin
  | dt ks ds =>
    simp only [Is] at hi
    obtain ⟨a, xs, rfl, h1, _⟩ := hi
    cases ht
    exact isinst_ok I r1 (.dT h1) hk fin
theorem call_sum3 (hc : X.calm = true) : CallR X (.builtin "sum") (fun xs H Q => ∃ (a : Addr) (ns : List Int), xs = [.ref a] ∧ SqL X.K H a (ns.map V.int) ∧ Q (.int ns.sum) H) := by
  intro pins s σ H xs us Q I r h
  obtain ⟨a, ns, rfl, hl, q⟩ := h
  obtain ⟨u, rfl, rx⟩ := vals1 r
  cases rx
  obtain ⟨its, rv, p, _⟩ := I.list hl
  have hi : IntsAre its ns := intsAre_of rv
  obtain ⟨ys, hx⟩ := hi.allInts.items
  have hl' : s.heap.IsList a (intItems ys) := hx ▸ p.isList
  refine sum_intListG (I.ok.hd hc) hl' fun h' tk t' hk => ?_
  have e1 : ns = ys.toList.map (·.1) := by
    rw [← nums_intItems, ← hx]
    exact (show numsOf its.toArray.toList = ns from hi.numsOf).symm
  have e2 : preSum (numAt ys) ys.size = ns.sum := by
    rw [preSum_eq, List.take_of_length_le (by simp), e1]
  rw [e2]
  exact ⟨.int ns.sum, H, I.kept hk, ⟨_, rfl⟩, q⟩
end
section
variable {X : Cx} {Γ : List (Option D)} {a b c : Expr} {d d' : D} {pos p : Pos} {ds es : List D}
theorem isT {K : PySem.W.Frag} {F : Hp} {v : V} (h : Is K F (.tup ds) v) : ∃ a xs, v = .ref a ∧ SqT K F a xs ∧ IsL K F ds xs := by simpa only [Is] using h
theorem isLstR {K : PySem.W.Frag} {F : Hp} {v : V} (h : Is K F (.lst ds) v) : ∃ a xs, v = .ref a ∧ Rd F a (.lst xs) ∧ IsL K F ds xs := by simpa only [Is] using h
theorem isLst {K : PySem.W.Frag} {F : Hp} {v : V} (h : Is K F (.lst ds) v) : ∃ a xs, v = .ref a ∧ SqL K F a xs ∧ IsL K F ds xs := by
  obtain ⟨a, xs, e, r, i⟩ := isLstR h
  exact ⟨a, xs, e, .inl r, i⟩
theorem Is.tupI {K : PySem.W.Frag} {F : Hp} {a : Addr} {xs : List V} (h : SqT K F a xs) (i : IsL K F ds xs) : Is K F (.tup ds) (.ref a) := by simp only [Is]; exact ⟨a, xs, rfl, h, i⟩
theorem Is.lstI {K : PySem.W.Frag} {F : Hp} {a : Addr} {xs : List V} (h : Rd F a (.lst xs)) (i : IsL K F ds xs) : Is K F (.lst ds) (.ref a) := by simp only [Is]; exact ⟨a, xs, rfl, h, i⟩
theorem pf_cat (ha : P3 X Γ a (.lst ds)) (hb : P3 X Γ b (.lst es)) (hz : ds.length + es.length ≤ sizeLine) : PF3 X Γ (.BinOp a .Add b pos) (ds ++ es) :=
  PE.of (pe_op op_cat3 ha hb) fun σ H Q ⟨F, fh, sl, k⟩ => tP2 ⟨F, fh, sl, fun x y H2 F2 p i1 i2 => by
    obtain ⟨l, xs, rfl, s1, j1⟩ := isLst i1
    obtain ⟨l2, ys, rfl, s2, j2⟩ := isLst i2
    exact ⟨l, l2, xs, ys, rfl, rfl, p.fh.seq s1, p.fh.seq s2, by rw [j1.len, j2.len]; exact hz, fun q hq => k q _ _ F2 (p.trans (Pur.layOwn p.fh hq)) (p.hh.free hq) (p.fh.free hq) upd_same (j1.append j2)⟩⟩
theorem p_cat (ha : P3 X Γ a (.lst ds)) (hb : P3 X Γ b (.lst es)) (hz : ds.length + es.length ≤ sizeLine) : P3 X Γ (.BinOp a .Add b pos) (.lst (ds ++ es)) := (pf_cat ha hb hz).p
theorem p_lenL (hm : X.mg "len" = none) (hg : Gl X "len") (ha : P3 X Γ a (.lst ds)) (he : starEach [a] X.env = (false, eval a X.env) :: starEach [] X.env := by rfl) : P3 X Γ (.Call (.Name "len" p) [a] [] pos) (.int ds.length) :=
  p_callB call_len_seq hg hm PySem.boot_len (pl_cons ha pl_nil he) (fun vs H F Q fh i k => by
    obtain ⟨x, rfl, j0⟩ := isL1 i
    obtain ⟨l, xs, rfl, s1, j1⟩ := isLst j0
    exact ⟨l, xs, rfl, .inl (fh.seq s1), k _ _ _ (Pur.refl fh) (by rw [j1.len]; exact i_int F)⟩) (by decide) (by decide) he
theorem p_lenT (hm : X.mg "len" = none) (hg : Gl X "len") (ha : P3 X Γ a (.tup ds)) (he : starEach [a] X.env = (false, eval a X.env) :: starEach [] X.env := by rfl) : P3 X Γ (.Call (.Name "len" p) [a] [] pos) (.int ds.length) :=
  p_callB call_len_seq hg hm PySem.boot_len (pl_cons ha pl_nil he) (fun vs H F Q fh i k => by
    obtain ⟨x, rfl, j0⟩ := isL1 i
    obtain ⟨l, xs, rfl, s1, j1⟩ := isT j0
    exact ⟨l, xs, rfl, .inr (same_tup fh s1), k _ _ _ (Pur.refl fh) (by rw [j1.len]; exact i_int F)⟩) (by decide) (by decide) he
theorem p_lenI {ns : List Int} (hm : X.mg "len" = none) (hg : Gl X "len") (ha : P3 X Γ a (.scr ns)) (he : starEach [a] X.env = (false, eval a X.env) :: starEach [] X.env := by rfl) : P3 X Γ (.Call (.Name "len" p) [a] [] pos) (.int ns.length) :=
  p_callB call_len_seq hg hm PySem.boot_len (pl_cons ha pl_nil he) (fun vs H F Q fh i k => by
    obtain ⟨x, rfl, j0⟩ := isL1 i
    simp only [Is] at j0
    obtain ⟨l, rfl, s1⟩ := j0
    exact ⟨l, _, rfl, .inl (fh.seq s1), k _ _ _ (Pur.refl fh) (by rw [List.length_map]; exact i_int F)⟩) (by decide) (by decide) he
theorem p_ixI {ns : List Int} {i n : Int} (ha : P3 X Γ a (.scr ns)) (hb : P3 X Γ b (.int i)) (he : atI ns i = some n) (hs : PlainIx b := by exact fun _ _ => rfl) : P3 X Γ (.Subscript a b pos) (.int n) :=
  p_ixR ix_list ha hb (fun x y H F Q fh i1 i2 k => by
    simp only [Is] at i1 i2
    obtain ⟨l, rfl, h1⟩ := i1
    refine ⟨l, _, i, .int n, rfl, i2, fh.seq h1, ?_, k _ H F (Pur.refl fh) (i_int F)⟩
    unfold atI at he ⊢
    rw [List.length_map]
    cases q : ixN ns.length i with
    | none => rw [q] at he; cases he
    | some j =>
      rw [q] at he
      have he' : ns[j]? = some n := he
      show (ns.map V.int)[j]? = _
      rw [List.getElem?_map, he']
      rfl) hs
theorem bt_int : bootBuiltins "int" = some (.type "int") := by decide +kernel
theorem bt_bool : bootBuiltins "bool" = some (.type "bool") := by decide +kernel
theorem bt_tuple : bootBuiltins "tuple" = some (.type "tuple") := by decide +kernel
theorem bt_list : bootBuiltins "list" = some (.type "list") := by decide +kernel
theorem bt_isinstance : bootBuiltins "isinstance" = some (.builtin "isinstance") := by decide +kernel
theorem bt_ValueError : bootBuiltins "ValueError" = some (.type "ValueError") := by decide +kernel
theorem bt_sum : bootBuiltins "sum" = some (.builtin "sum") := by decide +kernel
theorem pf_list (hm : X.mg "list" = none) (hg : Gl X "list") (ha : P3 X Γ a d) (hd : d = .lst ds ∨ d = .tup ds) (he : starEach [a] X.env = (false, eval a X.env) :: starEach [] X.env := by rfl) : PF3 X Γ (.Call (.Name "list" p) [a] [] pos) ds :=
  PE.of (pe_callTy call_list_of hg hm bt_list (pl_cons ha pl_nil he) (by decide) (by decide) he) fun σ H Q ⟨F, fh, sl, q⟩ => ⟨F, fh, sl, fun vs H' F' pu i => by
    obtain ⟨x, rfl, j0⟩ := isL1 i
    rcases hd with rfl | rfl
    · obtain ⟨l, xs, rfl, s1, j1⟩ := isLst j0
      exact ⟨l, xs, rfl, .inl (pu.fh.seq s1), fun l' hl => q l' _ _ F' (pu.trans (Pur.layOwn pu.fh hl)) (pu.hh.free hl) (pu.fh.free hl) upd_same j1⟩
    · obtain ⟨l, xs, rfl, s1, j1⟩ := isT j0
      exact ⟨l, xs, rfl, .inr (same_tup pu.fh s1), fun l' hl => q l' _ _ F' (pu.trans (Pur.layOwn pu.fh hl)) (pu.hh.free hl) (pu.fh.free hl) upd_same j1⟩⟩
theorem p_sum {ns : List Int} (hc : X.calm = true) (hm : X.mg "sum" = none) (hg : Gl X "sum") (ha : P3 X Γ a (.lst (ns.map D.int))) (he : starEach [a] X.env = (false, eval a X.env) :: starEach [] X.env := by rfl) : P3 X Γ (.Call (.Name "sum" p) [a] [] pos) (.int ns.sum) :=
  p_callB (call_sum3 hc) hg hm bt_sum (pl_cons ha pl_nil he) (fun vs H F Q fh i k => by
    obtain ⟨x, rfl, j0⟩ := isL1 i
    obtain ⟨l, xs, rfl, s1, j1⟩ := isLst j0
    have e := IsL.of_ints j1
    subst e
    exact ⟨l, ns, rfl, fh.seq s1, k _ _ _ (Pur.refl fh) (i_int F)⟩) (by decide) (by decide) he
theorem p_isin {t : Value} {cv : V} {k : Bool} (hm : X.mg "isinstance" = none) (hg : Gl X "isinstance") (ha : P3 X Γ a d) (hb : P3 X Γ b (.raw cv)) (ht : dTy d = some t) (hk : PySem.W.kitOne X.K t (cV cv) = some k) (hc : cV cv ≠ .none)
    (he : starEach [a, b] X.env = (false, eval a X.env) :: starEach [b] X.env := by rfl) (he2 : starEach [b] X.env = (false, eval b X.env) :: starEach [] X.env := by rfl) (hpl : (backTo pos (starEach [b] X.env)).any (·.1) = false := by rfl) : P3 X Γ (.Call (.Name "isinstance" p) [a, b] [] pos) (.bl k) :=
  p_callB call_isin3 hg hm bt_isinstance (pl_cons ha (pl_cons hb pl_nil he2) he) (fun vs H F Q fh i q => by
    obtain ⟨x, y, rfl, i1, i2⟩ := isL2 i
    cases isR i2
    exact ⟨x, _, d, t, k, rfl, i1.mono fh, ht, hk, hc, q _ _ _ (Pur.refl fh) (i_bl F)⟩) (by decide) (by decide) he hpl
end
end L3
set_option Elab.async false
set_option linter.all false
set_option maxRecDepth 100000
set_option maxHeartbeats 4000000
namespace L3
open PySem PySem.Spec PySem.Calls PyProof.Rows L2
structure Bs where
  M : List Addr
  F : Hp
  H : Hp
abbrev Ow := Hp → HO → Prop
abbrev Om := List (Addr × Ow)
abbrev Ga := List (Option D)
def oLst (K : PySem.W.Frag) (ds : List D) : Ow := fun F o => ∃ xs, o = .lst xs ∧ IsL K F ds xs
structure Sat (K : PySem.W.Frag) (B : Bs) (Γ : Ga) (Ω : Om) (F : Hp) (σ : L2.St) (H : Hp) : Prop where
  f0 : Same B.F F
  fh : Same F H
  fr : ∀ b, F b ≠ none → B.F b ≠ none ∨ B.H b = none ∨ b ∈ B.M
  kp : ∀ b o, b ∉ B.M → B.H b = some o → H b = some o
  nd : (Ω.map (·.1)).Nodup
  od : ∀ p ∈ Ω, p.1 ∈ B.M ∨ B.H p.1 = none
  own : ∀ p ∈ Ω, F p.1 = none ∧ ∃ o, H p.1 = some o ∧ ∀ F', Same F F' → p.2 F' o
  sl : Sl K F Γ σ
section
variable {K : PySem.W.Frag} {B : Bs} {Γ Γ' : Ga} {Ω : Om} {F F' : Hp} {σ σ' : L2.St} {H H' : Hp}
theorem Sat.freeB (S : Sat K B Γ Ω F σ H) {b : Addr} (h : H b = none) : B.H b = none ∨ b ∈ B.M := by
  by_cases hb : b ∈ B.M
  · exact .inr hb
  · refine .inl ?_
    cases q : B.H b with
    | none => rfl
    | some o => rw [S.kp b o hb q] at h; cases h
theorem Sat.pur (S : Sat K B Γ Ω F σ H) (p : Pur F H F' H') : Sat K B Γ Ω F' σ H' where
  f0 := S.f0.trans p.ff
  fh := p.fh
  fr := fun b q => (p.new b q).elim (fun z => S.fr b z) fun z => (S.freeB z).elim (fun w => .inr (.inl w)) fun w => .inr (.inr w)
  kp := fun b o hb e => p.hh _ _ (S.kp b o hb e)
  nd := S.nd
  od := S.od
  own := fun q hq => by
    obtain ⟨h1, o, h2, h3⟩ := S.own q hq
    refine ⟨?_, o, p.hh _ _ h2, fun F2 e => h3 F2 (p.ff.trans e)⟩
    cases z : F' q.1 with
    | none => rfl
    | some u =>
      rcases p.new q.1 (by rw [z]; simp) with w | w
      · exact absurd h1 w
      · rw [h2] at w; cases w
  sl := S.sl.mono p.ff
theorem Sat.slots (S : Sat K B Γ Ω F σ H) (h : Sl K F Γ' σ') : Sat K B Γ' Ω F σ' H := ⟨S.f0, S.fh, S.fr, S.kp, S.nd, S.od, S.own, h⟩
theorem Sl.set {i : Nat} {d : D} {v : V} (h : Sl K F Γ σ) (hi : i < σ.length) (hv : Is K F d v) : Sl K F (Γ.set i (some d)) (σ.set i (some v)) := fun j e q => by
  by_cases hj : i = j
  · subst hj
    rw [List.getElem?_set] at q
    split at q
    · split at q
      · cases q
        exact ⟨v, by rw [List.getElem?_set]; simp [hi], hv⟩
      · cases q
    · contradiction
  · rw [List.getElem?_set_ne hj] at q
    obtain ⟨u, h1, h2⟩ := h j e q
    exact ⟨u, by rw [List.getElem?_set_ne hj]; exact h1, h2⟩
theorem Sl.nil : Sl K F [] σ := fun j e q => by simp at q
theorem Sat.toPur (S : Sat K B Γ Ω F σ H) (hM : B.M = []) : Pur B.F B.H F H := ⟨S.f0, S.fh, fun b o e => S.kp b o (by rw [hM]; simp) e, fun b q => (S.fr b q).elim .inl fun z => z.elim .inr fun w => by rw [hM] at w; cases w⟩
end
structure E3 where
  nx : Ga → Om → Prop
  rt : D → Om → Prop
  bk : Ga → Om → Prop := fun _ _ => False
  ct : Ga → Om → Prop := fun _ _ => False
def nX (K : PySem.W.Frag) (B : Bs) (F0 : Hp) (N : Ga → Om → Prop) : L2.St → Hp → Prop := fun σ H => ∃ Γ Ω F, Sat K B Γ Ω F σ H ∧ Same F0 F ∧ N Γ Ω
def E3.to (K : PySem.W.Frag) (B : Bs) (F0 : Hp) (E : E3) : Ends := ⟨nX K B F0 E.nx, fun v H => ∃ d Ω F, (∃ σ, Sat K B [] Ω F σ H) ∧ Same F0 F ∧ Is K F d v ∧ E.rt d Ω, nX K B F0 E.bk, nX K B F0 E.ct⟩
theorem nX.mono {K : PySem.W.Frag} {B : Bs} {F0 F1 : Hp} {N : Ga → Om → Prop} {σ : L2.St} {H : Hp} (e : Same F0 F1) (h : nX K B F1 N σ H) : nX K B F0 N σ H := by
  obtain ⟨Γ, Ω, F, S, f, n⟩ := h
  exact ⟨Γ, Ω, F, S, e.trans f, n⟩
def WS (X : Cx) (sts : List Stmt) : TS := fun D σ H => ∀ (pins : List (Addr × Obj)) (s : Shared), Inv X pins σ H s → wpAny (model X.prog X.w) X.A (execs sts X.env) (SP X pins D) X.xe s
def WE (X : Cx) (e : Expr) : TE := fun σ H Q => ∀ (pins : List (Addr × Obj)) (s : Shared), Inv X pins σ H s → wpAny (model X.prog X.w) X.A (eval e X.env) (EP X pins σ Q) X.xe s
def WT (X : Cx) (e : Expr) : TT := fun σ H Q => ∀ (pins : List (Addr × Obj)) (s : Shared), Inv X pins σ H s → wpAny (model X.prog X.w) X.A (isTrue e X.env (eval e X.env)) (TP X pins σ Q) X.xe s
theorem pss_w {X : Cx} {sts : List Stmt} : PSs X sts (WS X sts) := fun pins s σ H D I h => h pins s I
theorem pe_w {X : Cx} {e : Expr} : PE X e (WE X e) := fun pins s σ H Q I h => h pins s I
theorem pt_w {X : Cx} {e : Expr} : PT X e (WT X e) := fun pins s σ H Q I h => h pins s I
theorem PT3.wt {X : Cx} {Γ : Ga} {e : Expr} {k : Bool} (h : PT3 X Γ e k) {σ : L2.St} {H : Hp} {Q : Bool → Hp → Prop} (q : tPT X.K Γ k σ H Q) : WT X e σ H Q := fun pins s I => h pins s σ H Q I q
theorem P3.we {X : Cx} {Γ : Ga} {e : Expr} {d : D} (h : P3 X Γ e d) {σ : L2.St} {H : Hp} {Q : VK} (q : tP X.K Γ d σ H Q) : WE X e σ H Q := fun pins s I => h pins s σ H Q I q
def W3 (X : Cx) (B : Bs) (sts : List Stmt) (Γ : Ga) (Ω : Om) (E : E3) : Prop := ∀ F σ H, Sat X.K B Γ Ω F σ H → WS X sts (E.to X.K B F) σ H
section
variable {X : Cx} {B : Bs} {Γ : Ga} {Ω : Om} {E : E3} {rest body : List Stmt} {e c : Expr} {d : D} {pos pos' : Pos} {k : Bool}
theorem ends_mono {D D' : Ends} (hn : ∀ σ H, D.nx σ H → D'.nx σ H) (hr : ∀ v H, D.rt v H → D'.rt v H) (hb : ∀ σ H, D.bk σ H → D'.bk σ H) (hc : ∀ σ H, D.ct σ H → D'.ct σ H) {σ : L2.St} {H : Hp} (h : WS X body D σ H) : WS X body D' σ H := fun pins s I =>
  thn (h pins s I) fun f s' q => by
    cases f with
    | next => obtain ⟨σ', H', I', q⟩ := q; exact ⟨σ', H', I', hn _ _ q⟩
    | brk => obtain ⟨σ', H', I', q⟩ := q; exact ⟨σ', H', I', hb _ _ q⟩
    | cont => obtain ⟨σ', H', I', q⟩ := q; exact ⟨σ', H', I', hc _ _ q⟩
    | ret u => obtain ⟨v, σ', H', I', r, q⟩ := q; exact ⟨v, σ', H', I', r, hr _ _ q⟩
theorem to_mono {F0 F1 : Hp} (e : Same F0 F1) {σ : L2.St} {H : Hp} (h : WS X body (E.to X.K B F1) σ H) : WS X body (E.to X.K B F0) σ H :=
  ends_mono (D := E.to X.K B F1) (D' := E.to X.K B F0) (fun _ _ q => q.mono e) (fun v H ⟨d, Ω, F, S, f, i, r⟩ => ⟨d, Ω, F, S, e.trans f, i, r⟩) (fun _ _ q => q.mono e) (fun _ _ q => q.mono e) h
theorem w_nil (h : E.nx Γ Ω) : W3 X B [] Γ Ω E := fun F σ H S pins s I => pss_nil pins s σ H _ I ⟨Γ, Ω, F, S, Same.refl _, h⟩
theorem w_set {i : Nat} {x : Str} (hN : X.N.Nodup) (hi : X.N[i]? = some x) (hx : Loc X.env.scope x) (he : P3 X Γ e d) (h : W3 X B rest (Γ.set i (some d)) Ω E) (hs : swapsWith e (some (.Name x pos')) pos.line X.env = pure false := by rfl)
    (hf : X.fn x = true ∨ X.env.scope.names.lookup x = some .local := by first | exact .inl rfl | exact .inr rfl | assumption) : W3 X B (.Assign [.Name x pos'] e pos :: rest) Γ Ω E := fun F σ H S pins s I =>
  pss_cons (ps_set hN hi hx he hs hf) pss_w pins s σ H _ I ⟨F, S.fh, S.sl, fun v H' F' p i' => to_mono p.ff (h F' _ H' ((S.pur p).slots (Sl.set (S.sl.mono p.ff) (by rw [I.len]; exact (List.getElem?_eq_some_iff.mp hi).1) i')))⟩
theorem w_ret (he : P3 X Γ e d) (h : E.rt d Ω) : W3 X B (.Return (some e) pos :: rest) Γ Ω E := fun F σ H S pins s I =>
  pss_cons (ps_ret he) pss_never pins s σ H _ I ⟨F, S.fh, S.sl, fun v H' F' p i' => ⟨d, Ω, F', ⟨σ, (S.pur p).slots Sl.nil⟩, p.ff, i', h⟩⟩
abbrev E3.then (E : E3) (X : Cx) (B : Bs) (rest : List Stmt) : E3 := { E with nx := fun Γ' Ω' => W3 X B rest Γ' Ω' E }
theorem nx_rest {F : Hp} {σ : L2.St} {H : Hp} (h : nX X.K B F (fun Γ' Ω' => W3 X B rest Γ' Ω' E) σ H) : WS X rest (E.to X.K B F) σ H := by
  obtain ⟨Γ', Ω', F', S, f, w⟩ := h
  exact to_mono f (w F' σ H S)
theorem seq_rest {F : Hp} {σ : L2.St} {H : Hp} (h : WS X body ((E.then X B rest).to X.K B F) σ H) : WS X body { (E.to X.K B F) with nx := WS X rest (E.to X.K B F) } σ H :=
  ends_mono (D := (E.then X B rest).to X.K B F) (D' := { (E.to X.K B F) with nx := WS X rest (E.to X.K B F) }) (fun _ _ q => nx_rest q) (fun _ _ q => q) (fun _ _ q => q) (fun _ _ q => q) h
theorem w_if {a b : List Stmt} (hc : PT3 X Γ c k) (ht : k = true → W3 X B a Γ Ω (E.then X B rest)) (hf : k = false → W3 X B b Γ Ω (E.then X B rest)) : W3 X B (.If c a b pos :: rest) Γ Ω E := fun F σ H S pins s I => by
  cases k with
  | true => exact pss_cons (ps_if hc pss_w pss_never) pss_w pins s σ H _ I ⟨F, S.fh, S.sl, fun H' F' p => iteT (seq_rest (to_mono p.ff (ht rfl F' σ H' (S.pur p))))⟩
  | false => exact pss_cons (ps_if hc pss_never pss_w) pss_w pins s σ H _ I ⟨F, S.fh, S.sl, fun H' F' p => iteF (seq_rest (to_mono p.ff (hf rfl F' σ H' (S.pur p))))⟩
theorem w_while (hp : PassesOwn (model X.prog X.w) X.A X.env X.xe) (J : Ga → Om → Prop) (μ : Ga → Om → Nat) (h0 : J Γ Ω)
    (step : ∀ Γ Ω, J Γ Ω → ∃ k, PT3 X Γ c k ∧ (k = true → W3 X B body Γ Ω { E with nx := fun Γ' Ω' => J Γ' Ω' ∧ μ Γ' Ω' < μ Γ Ω, ct := fun Γ' Ω' => J Γ' Ω' ∧ μ Γ' Ω' < μ Γ Ω, bk := fun Γ' Ω' => W3 X B rest Γ' Ω' E }) ∧ (k = false → W3 X B rest Γ Ω E)) :
    W3 X B (.While c body [] pos :: rest) Γ Ω E := fun F σ H S pins s I => by
  refine pss_cons (ps_while hp pt_w pss_w) pss_w pins s σ H _ I ⟨fun m σ H => ∃ Γ Ω F1, Sat X.K B Γ Ω F1 σ H ∧ Same F F1 ∧ J Γ Ω ∧ μ Γ Ω = m, ⟨_, Γ, Ω, F, S, Same.refl _, h0, rfl⟩, ?_⟩
  rintro m σ H ⟨Γ, Ω, F1, S, f1, j, rfl⟩
  obtain ⟨k, hc, ht, hf⟩ := step Γ Ω j
  refine hc.wt ⟨F1, S.fh, S.sl, fun H' F' p => ?_⟩
  cases k with
  | true =>
    refine iteT ⟨nX X.K B F fun Γ' Ω' => J Γ' Ω' ∧ μ Γ' Ω' < μ Γ Ω, ?_, ends_mono (D := E3.to X.K B F { E with nx := fun Γ' Ω' => J Γ' Ω' ∧ μ Γ' Ω' < μ Γ Ω, ct := fun Γ' Ω' => J Γ' Ω' ∧ μ Γ' Ω' < μ Γ Ω, bk := fun Γ' Ω' => W3 X B rest Γ' Ω' E })
      (D' := { nx := nX X.K B F fun Γ' Ω' => J Γ' Ω' ∧ μ Γ' Ω' < μ Γ Ω, rt := (E.to X.K B F).rt, bk := WS X rest (E.to X.K B F), ct := nX X.K B F fun Γ' Ω' => J Γ' Ω' ∧ μ Γ' Ω' < μ Γ Ω }) (fun _ _ q => q) (fun _ _ q => q) (fun _ _ q => nx_rest q) (fun _ _ q => q) (to_mono (f1.trans p.ff) (ht rfl F' σ H' (S.pur p)))⟩
    rintro σ' H' ⟨Γ', Ω', F', S', f', j', l⟩
    exact ⟨_, l, Γ', Ω', F', S', f', j', rfl⟩
  | false => exact iteF (to_mono (f1.trans p.ff) (hf rfl F' σ H' (S.pur p)))
end
def G3 (X : Cx) (tg : Expr) (Γ : Ga) (d : D) (Γ' : Ga) : Prop := ∃ g, PG X tg g ∧ ∀ (F : Hp) (σ : L2.St) (H : Hp) (v : V) (Q : L2.St → Hp → Prop), Same F H → Is X.K F d v → Sl X.K F Γ σ → σ.length = X.N.length → (∀ σ', Sl X.K F Γ' σ' → σ'.length = X.N.length → Q σ' H) → g v σ H Q
def GL3 (X : Cx) (tg : List Expr) (Γ : Ga) (ds : List D) (Γ' : Ga) : Prop := ∃ g, PGs X tg g ∧ ∀ (F : Hp) (σ : L2.St) (H : Hp) (vs : List V) (Q : L2.St → Hp → Prop), Same F H → IsL X.K F ds vs → Sl X.K F Γ σ → σ.length = X.N.length → (∀ σ', Sl X.K F Γ' σ' → σ'.length = X.N.length → Q σ' H) → g vs σ H Q
section
variable {X : Cx} {Γ Γ1 Γ2 : Ga} {d : D} {ds : List D} {pos : Pos} {tg : Expr} {tgs : List Expr}
theorem g_name {i : Nat} {x : Str} (hN : X.N.Nodup) (hi : X.N[i]? = some x) (hx : Loc X.env.scope x) (hf : X.fn x = true ∨ X.env.scope.names.lookup x = some .local := by first | exact .inl rfl | exact .inr rfl | assumption) : G3 X (.Name x pos) Γ d (Γ.set i (some d)) :=
  ⟨_, pg_name hN hi hx hf, fun F σ H v Q fh iv sl hl q => q _ (sl.set (by rw [hl]; exact (List.getElem?_eq_some_iff.mp hi).1) iv) (by rw [List.length_set]; exact hl)⟩
theorem gl_nil : GL3 X [] Γ [] Γ := ⟨_, pgs_nil, fun F σ H vs Q fh iv sl hl q => by
  simp only [IsL] at iv
  exact ⟨iv, q σ sl hl⟩⟩
theorem gl_cons (h1 : G3 X tg Γ d Γ1) (h2 : GL3 X tgs Γ1 ds Γ2) (hs : ∀ {g : TG} {u : TGs}, PG X tg g → PGs X tgs u → PGs X (tg :: tgs) (gCons g u) := by exact fun a b => pgs_cons a b) : GL3 X (tg :: tgs) Γ (d :: ds) Γ2 := by
  obtain ⟨g, p1, q1⟩ := h1
  obtain ⟨u, p2, q2⟩ := h2
  refine ⟨_, hs p1 p2, fun F σ H vs Q fh iv sl hl q => ?_⟩
  simp only [IsL] at iv
  obtain ⟨x, r, rfl, i1, i2⟩ := iv
  exact ⟨x, r, rfl, q1 F σ H x _ fh i1 sl hl fun σ' sl' hl' => q2 F σ' H r _ fh i2 sl' hl' q⟩
theorem g_tup {k : Nat} (hc : X.calm = true) (h : GL3 X tgs Γ ds Γ1) (hn : (assignEach tgs X.env).length = ds.length := by rfl) (hst : (assignEach tgs X.env).findIdx? (·.1) = none := by rfl) : G3 X (.Tuple tgs k pos) Γ (.tup ds) Γ1 := by
  obtain ⟨g, p, q⟩ := h
  refine ⟨_, pg_tup hc p hn hst, fun F σ H v Q fh iv sl hl k => ?_⟩
  obtain ⟨a, xs, rfl, h1, h2⟩ := isT iv
  exact ⟨a, xs, rfl, same_tup fh h1, h2.len, q F σ H xs Q fh h2 sl hl k⟩
end
def Walk3 (K : PySem.W.Frag) (F0 : Hp) (J : It) (ds : List D) : Prop := ∀ (i : Nat) (F H : Hp), Same F0 F → Same F H →
  (∀ d, ds[i]? = some d → J.go i H ∧ ∀ x H', J.yld i H x H' → ∃ F', Pur F H F' H' ∧ Is K F' d x) ∧ (ds.length ≤ i → J.stop i H)
def I3 (X : Cx) (Γ : Ga) (tg iter : Expr) (ds : List D) : Prop := PI X tg iter fun σ H R => ∃ F, Same F H ∧ Sl X.K F Γ σ ∧ ∀ J H' F', Pur F H F' H' → Walk3 X.K F' J ds → R J H'
theorem PI.of {X : Cx} {tg e : Expr} {t u : TI} (h : PI X tg e t) (i : ∀ σ H R, u σ H R → t σ H R) : PI X tg e u := fun pins s σ H Q I hq => h pins s σ H Q I (i _ _ _ hq)
section
variable {X : Cx} {Γ Γ1 : Ga} {d : D} {ds es : List D} {pos p : Pos} {tg a b : Expr}
theorem i_list (hl : P3 X Γ a (.lst ds)) : I3 X Γ tg a ds := PI.of (pi_list hl) fun σ H R ⟨F, fh, sl, q⟩ => ⟨F, fh, sl, fun v H' F' p i => by
  obtain ⟨l, xs, rfl, s1, j1⟩ := isLst i
  refine ⟨l, rfl, ⟨xs, p.fh.seq s1⟩, q _ H' F' p fun n F2 H2 e1 e2 => ⟨fun d w => ?_, fun w => ⟨xs, (e1.trans e2).seq s1, by rw [j1.len]; exact w⟩⟩⟩
  obtain ⟨x, hx, ix⟩ := j1.get w
  refine ⟨⟨xs, x, (e1.trans e2).seq s1, hx⟩, fun y H3 ⟨z, w'⟩ => ?_⟩
  subst z
  have := w' xs ((e1.trans e2).seq s1)
  rw [hx] at this
  cases this
  exact ⟨F2, Pur.refl e2, ix.mono e1⟩⟩
def rngD (lo : Int) (n : Nat) : List D := (List.range n).map fun (j : Nat) => .int (lo + (j : Int))
theorem walk_rng {K : PySem.W.Frag} {F0 : Hp} {lo : Int} {n : Nat} : Walk3 K F0 (Itr lo n) (rngD lo n) := fun i F H e1 e2 =>
  ⟨fun d q => by
    unfold rngD at q
    rw [List.getElem?_map] at q
    have hi : i < n := by
      by_cases h : i < n
      · exact h
      · rw [List.getElem?_eq_none_iff.mpr (by simpa using h)] at q; cases q
    rw [List.getElem?_range hi] at q
    cases q
    refine ⟨hi, fun x H' ⟨z, w⟩ => ?_⟩
    subst z w
    exact ⟨F, Pur.refl e2, i_int F⟩, fun q => by
    unfold rngD at q
    have q' : n ≤ i := by simpa using q
    exact q'⟩
theorem i_range1 {j : Int} (hm : X.mg "range" = none) (hg : Gl X "range") (ha : P3 X Γ a (.int j)) (h1 : -(2 ^ 62) ≤ j) (h2 : j < 2 ^ 62) (hs : starEach [a] X.env = [(false, eval a X.env)] := by rfl) : I3 X Γ tg (.Call (.Name "range" p) [a] [] pos) (rngD 0 j.toNat) :=
  PI.of (pi_range1 hg hm (pl_cons ha pl_nil hs) hs) fun σ H R ⟨F, fh, sl, q⟩ => ⟨F, fh, sl, fun vs H' F' pu i => by
    obtain ⟨x, rfl, j0⟩ := isL1 i
    exact ⟨j, by rw [isI j0], h1, h2, q _ H' F' pu walk_rng⟩⟩
def enumD (ds : List D) : List D := ds.mapIdx fun i d => .tup [.int (i : Int), d]
theorem i_enum {es' : List Expr} {x1 : Nat} {tpos : Pos} (hm : X.mg "enumerate" = none) (hg : Gl X "enumerate") (ha : P3 X Γ a (.lst ds)) (hs : starEach [a] X.env = [(false, eval a X.env)] := by rfl) :
    I3 X Γ (.Tuple es' x1 tpos) (.Call (.Name "enumerate" p) [a] [] pos) (enumD ds) :=
  PI.of (pi_enum hg hm (pl_cons ha pl_nil hs) hs) fun σ H R ⟨F, fh, sl, q⟩ => ⟨F, fh, sl, fun vs H' F' pu iv => by
    obtain ⟨x, rfl, j0⟩ := isL1 iv
    obtain ⟨l, xs, rfl, s1, j1⟩ := isLstR j0
    refine ⟨l, xs, rfl, same_rd pu.fh s1, fun K => q _ H' F' pu fun n F2 H2 e1 e2 => ⟨fun d w => ?_, fun w => ?_⟩⟩
    · unfold enumD at w
      rw [List.getElem?_mapIdx] at w
      cases z : ds[n]? with
      | none => rw [z] at w; cases w
      | some d0 =>
        rw [z] at w
        cases w
        obtain ⟨y, hy, iy⟩ := j1.get z
        have hl : SqL K H2 l xs := .inl (same_rd (e1.trans e2) s1)
        refine ⟨⟨xs, y, hl, hy⟩, fun v H3 ⟨T, y', hT, hv, hy', e3⟩ => ?_⟩
        subst hv e3
        have := hy' xs hl
        rw [hy] at this
        cases this
        refine ⟨_, Pur.lay e2 hT, Is.tupI (.inl (.inl upd_same)) (IsL.cons (i_int _) (IsL.cons (iy.mono (e1.trans (Pur.lay e2 hT).ff)) IsL.nil))⟩
    · unfold enumD at w
      rw [List.length_mapIdx] at w
      exact ⟨xs, .inl (same_rd (e1.trans e2) s1), by rw [j1.len]; exact w⟩⟩
def zipD (ds es : List D) : List D := (ds.zip es).map fun p => .tup [p.1, p.2]
theorem i_zip {es' : List Expr} {x1 : Nat} {tpos : Pos} (hm : X.mg "zip" = none) (hg : Gl X "zip") (ha : P3 X Γ a (.lst ds)) (hb : P3 X Γ b (.lst es)) (hs : starEach [a, b] X.env = [(false, eval a X.env), (false, eval b X.env)] := by rfl) (hs2 : starEach [b] X.env = [(false, eval b X.env)] := by rfl) :
    I3 X Γ (.Tuple es' x1 tpos) (.Call (.Name "zip" p) [a, b] [] pos) (zipD ds es) :=
  PI.of (pi_zip hg hm (pl_cons ha (pl_cons hb pl_nil hs2) (hs.trans (by rw [hs2]))) hs hs2) fun σ H R ⟨F, fh, sl, q⟩ => ⟨F, fh, sl, fun vs H' F' pu iv => by
    obtain ⟨x, y, rfl, j0, j00⟩ := isL2 iv
    obtain ⟨l, xs, rfl, s1, j1⟩ := isLst j0
    obtain ⟨l2, ys, rfl, s2, j2⟩ := isLst j00
    refine ⟨l, l2, xs, ys, rfl, pu.fh.seq s1, pu.fh.seq s2, q _ H' F' pu fun n F2 H2 e1 e2 => ⟨fun d w => ?_, fun w => ?_⟩⟩
    · unfold zipD at w
      rw [List.getElem?_map] at w
      cases z : (ds.zip es)[n]? with
      | none => rw [z] at w; cases w
      | some d0 =>
        rw [z] at w
        cases w
        obtain ⟨z1, z2⟩ := List.getElem?_zip_eq_some.mp z
        obtain ⟨x, hx, ix⟩ := j1.get z1
        obtain ⟨y, hy, iy⟩ := j2.get z2
        have h1 := (e1.trans e2).seq s1
        have h2 := (e1.trans e2).seq s2
        refine ⟨⟨xs, ys, x, y, h1, h2, hx, hy⟩, fun v H3 ⟨T, x', y', hT, hv, hx', hy', e3⟩ => ?_⟩
        subst hv e3
        have t1 := hx' xs h1
        have t2 := hy' ys h2
        rw [hx] at t1
        rw [hy] at t2
        cases t1
        cases t2
        refine ⟨_, Pur.lay e2 hT, Is.tupI (.inl (.inl upd_same)) (IsL.cons (ix.mono (e1.trans (Pur.lay e2 hT).ff)) (IsL.cons (iy.mono (e1.trans (Pur.lay e2 hT).ff)) IsL.nil))⟩
    · unfold zipD at w
      rw [List.length_map, List.length_zip] at w
      refine ⟨xs, ys, (e1.trans e2).seq s1, (e1.trans e2).seq s2, ?_⟩
      rw [j1.len, j2.len]
      omega⟩
theorem w_for {B : Bs} {Ω : Om} {E : E3} {rest body : List Stmt} {iter : Expr} (hp : PassesOwn (model X.prog X.w) X.A X.env X.xe) (hc : X.calm = true) (hi : I3 X Γ tg iter ds) (J : Nat → Ga → Om → Prop) (h0 : J 0 Γ Ω)
    (step : ∀ i d Γ Ω, ds[i]? = some d → J i Γ Ω → ∃ Γ1, G3 X tg Γ d Γ1 ∧ W3 X B body Γ1 Ω { E with nx := J (i + 1), ct := J (i + 1), bk := fun Γ' Ω' => W3 X B rest Γ' Ω' E })
    (hd : ∀ Γ Ω, J ds.length Γ Ω → W3 X B rest Γ Ω E) (hs : ∀ x, foldedSetIterable iter X.env x = pure x := by intro _; rfl) : W3 X B (.For tg iter body [] pos :: rest) Γ Ω E := fun F σ H S pins s I => by
  have hgw : PG X tg (fun v σ H Q => ∀ (pins : List (Addr × Obj)) (s : Shared) (u : Value), Inv X pins σ H s → RelV v u → wpAny (model X.prog X.w) X.A (assign tg X.env u) (fun _ s' => ∃ σ' H', Inv X pins σ' H' s' ∧ Q σ' H') X.xe s) := fun pins s σ H v u Q I r h => h pins s u I r
  refine pss_cons (ps_for hp hc hi hgw pss_w hs) pss_w pins s σ H _ I ⟨F, S.fh, S.sl, fun Jt H1 F1 p w => ⟨fun i m σ H => i + m = ds.length ∧ nX X.K B F1 (J i) σ H, ⟨ds.length, by omega, Γ, Ω, F1, S.pur p, Same.refl _, h0⟩, ?_⟩⟩
  rintro i m σ H ⟨hm, Γ, Ω, F2, S, f1, j⟩
  obtain ⟨w1, w2⟩ := w i F2 H f1 S.fh
  cases z : ds[i]? with
  | none =>
    have hl : ds.length ≤ i := List.getElem?_eq_none_iff.mp z
    have e : i = ds.length := by omega
    subst e
    exact .inl ⟨w2 hl, to_mono (p.ff.trans f1) (hd Γ Ω j F2 σ H S)⟩
  | some d =>
    have hl : i < ds.length := (List.getElem?_eq_some_iff.mp z).1
    obtain ⟨go, y⟩ := w1 d z
    obtain ⟨Γ1, ⟨g, pg, gq⟩, wb⟩ := step i d Γ Ω z j
    refine .inr ⟨go, nX X.K B F1 (J (i + 1)), ?_, fun x H' hy pins s u I2 r => ?_⟩
    · rintro σ' H' n
      exact ⟨m - 1, by omega, by omega, n⟩
    · obtain ⟨F3, p2, ix⟩ := y x H' hy
      refine pg pins s σ H' x u _ I2 r (gq F3 σ H' x _ p2.fh ix (S.sl.mono p2.ff) I2.len fun σ' sl' _ => ?_)
      have f3 : Same F1 F3 := f1.trans p2.ff
      exact ends_mono (D := E3.to X.K B F3 { E with nx := J (i + 1), ct := J (i + 1), bk := fun Γ' Ω' => W3 X B rest Γ' Ω' E }) (D' := { nx := nX X.K B F1 (J (i + 1)), rt := (E.to X.K B F).rt, bk := WS X rest (E.to X.K B F), ct := nX X.K B F1 (J (i + 1)) })
        (fun _ _ q => q.mono f3) (fun v H ⟨d, Ω, F, S, f, i, r⟩ => ⟨d, Ω, F, S, (p.ff.trans f3).trans f, i, r⟩) (fun _ _ q => nx_rest (q.mono (p.ff.trans f3))) (fun _ _ q => q.mono f3) (wb F3 σ' H' ((S.pur p2).slots sl'))
end
end L3
set_option Elab.async false
set_option linter.all false
set_option maxRecDepth 100000
set_option maxHeartbeats 4000000
namespace L3
open PySem PySem.Spec PySem.Calls PyProof.Rows L2
def capG (nt : Nat) (caps : List Nat) (Γ : Ga) : Ga := List.replicate nt none ++ caps.map fun i => Γ.getD i none
def Sub (Γ Γ1 : Ga) : Prop := ∀ (i : Nat) (e : D), Γ[i]? = some (some e) → Γ1[i]? = some (some e)
theorem Sub.set {Γ : Ga} {i : Nat} {d : Option D} (h : Γ[i]? = some none) : Sub Γ (Γ.set i d) := fun j e q => by
  have : i ≠ j := fun z => by subst z; rw [h] at q; cases q
  rw [List.getElem?_set_ne this]
  exact q
theorem Sub.trans {Γ Γ1 Γ2 : Ga} (a : Sub Γ Γ1) (b : Sub Γ1 Γ2) : Sub Γ Γ2 := fun i e q => b i e (a i e q)
theorem Sl.sub {K : PySem.W.Frag} {F : Hp} {Γ Γ1 : Ga} {σ : L2.St} (h : Sl K F Γ1 σ) (s : Sub Γ Γ1) : Sl K F Γ σ := fun i d q => h i d (s i d q)
theorem Sl.cap {K : PySem.W.Frag} {F : Hp} {Γ : Ga} {σ : L2.St} {nt : Nat} {caps : List Nat} (h : Sl K F Γ σ) : Sl K F (capG nt caps Γ) (capSt nt caps σ) := fun j d q => by
  unfold capG at q
  unfold capSt
  by_cases hj : j < nt
  · rw [List.getElem?_append_left (by simpa using hj), List.getElem?_replicate] at q
    split at q <;> cases q
  · rw [List.getElem?_append_right (by simpa using hj), List.length_replicate, List.getElem?_map] at q
    rw [List.getElem?_append_right (by simpa using hj), List.length_replicate, List.getElem?_map]
    cases ec : caps[j - nt]? with
    | none => rw [ec] at q; cases q
    | some ci =>
      rw [ec] at q
      have q' : Γ.getD ci none = some d := by simpa using q
      rw [List.getD_eq_getElem?_getD] at q'
      have e : Γ[ci]? = some (some d) := by
        cases z : Γ[ci]? with
        | none => rw [z] at q'; cases q'
        | some w => rw [z] at q'; exact congrArg some q'
      obtain ⟨v, h1, h2⟩ := h ci d e
      refine ⟨v, ?_, h2⟩
      simp [List.getD_eq_getElem?_getD, h1]
def PTs3 (X : Cx) (Γ : Ga) (ifs : List Expr) (k : Bool) : Prop := PTs X ifs (tPT X.K Γ k)
theorem ts_nil {X : Cx} {Γ : Ga} : PTs3 X Γ [] true := fun pins s σ H Q I ⟨F, fh, sl, q⟩ => pts_nil (c := ⟨0, s, H, []⟩) pins s σ H Q I (q H F (Pur.refl fh))
def gW (X : Cx) (tg : Expr) : TG := fun v σ H Q => ∀ (pins : List (Addr × Obj)) (s : Shared) (u : Value), Inv X pins σ H s → RelV v u → wpAny (model X.prog X.w) X.A (assign tg X.env u) (fun _ s' => ∃ σ' H', Inv X pins σ' H' s' ∧ Q σ' H') X.xe s
def WTs (X : Cx) (ifs : List Expr) : TT := fun σ H Q => ∀ (pins : List (Addr × Obj)) (s : Shared), Inv X pins σ H s →
  wpAny (model X.prog X.w) X.A (forIn ifs true fun c r => if r = true then do let ok ← isTrue c X.env (eval c X.env); pure (ForInStep.yield ok) else pure (ForInStep.yield r)) (TP X pins σ Q) X.xe s
theorem pg_w {X : Cx} {tg : Expr} : PG X tg (gW X tg) := fun pins s σ H v u Q I r h => h pins s u I r
theorem pts_w {X : Cx} {ifs : List Expr} : PTs X ifs (WTs X ifs) := fun pins s σ H Q I h => h pins s I
def CStep (X : Cx) (sc : Scope) (N : List Str) (tg elt : Expr) (ifs : List Expr) (G : Ga) (ds : List D) (pre : Nat → List D) : Prop := ∀ (c : CArg) (i : Nat) (d : D), ds[i]? = some d → ∃ Γ1, G3 (X.comp sc N c) tg G d Γ1 ∧ Sub G Γ1 ∧
  ((∃ e, PTs3 (X.comp sc N c) Γ1 ifs true ∧ P3 (X.comp sc N c) Γ1 elt e ∧ pre (i + 1) = pre i ++ [e]) ∨ (PTs3 (X.comp sc N c) Γ1 ifs false ∧ pre (i + 1) = pre i))
section
variable {X : Cx} {Γ : Ga} {tg iter elt : Expr} {ifs : List Expr} {sc SX : Scope} {N XN : List Str} {nt : Nat} {caps : List Nat} {pos : Pos} {ds : List D} {pre : Nat → List D}
theorem comp_read (hz : ∀ i, i ≤ ds.length → (pre i).length < sizeLine) (h0 : pre 0 = []) (step : CStep X sc N tg elt ifs (capG nt caps Γ) ds pre) {σ : L2.St} {H : Hp} {Q : VK}
    (h : ∃ F, Same F H ∧ Sl X.K F Γ σ ∧ ∀ p xs H' F', Pur F H F' H' → H p = none → F' p = none → H' p = some (.lst xs) → IsL X.K F' (pre ds.length) xs → Q (.ref p) H') :
    tComp nt caps (fun σ H R => ∃ F, Same F H ∧ Sl X.K F Γ σ ∧ ∀ J H' F', Pur F H F' H' → Walk3 X.K F' J ds → R J H') (fun c => gW (X.comp sc N c) tg) (fun c => WTs (X.comp sc N c) ifs) (fun c => WE (X.comp sc N c) elt) σ H Q := by
  obtain ⟨F, fh, sl, q⟩ := h
  refine ⟨F, fh, sl, fun J H1 F1 p1 wk D hD c => ⟨fun i m σ' ys H' => i + m = ds.length ∧ ∃ F', Pur F1 H1 F' H' ∧ F' D = none ∧ H' D = some (.lst ys) ∧ IsL X.K F' (pre i) ys ∧ Sl X.K F' (capG nt caps Γ) σ', ?_, ?_⟩⟩
  · exact ⟨ds.length, by omega, F1, Pur.layOwn p1.fh hD, p1.fh.free hD, upd_same, by rw [h0]; exact IsL.nil, Sl.cap (sl.mono p1.ff)⟩
  · rintro i m σ' ys H' ⟨hm, F', pu, fD, hH, il, sl'⟩
    refine ⟨hH, by rw [il.len]; exact hz i (by omega), ?_⟩
    obtain ⟨w1, w2⟩ := wk i F' H' pu.ff pu.fh
    cases z : ds[i]? with
    | none =>
      have hl : ds.length ≤ i := List.getElem?_eq_none_iff.mp z
      have e : i = ds.length := by omega
      subst e
      exact .inl ⟨w2 hl, q D ys H' F' (p1.trans pu) (p1.hh.free hD) fD hH il⟩
    | some d =>
      have hl : i < ds.length := (List.getElem?_eq_some_iff.mp z).1
      obtain ⟨go, y⟩ := w1 d z
      obtain ⟨Γ1, ⟨g, pg, gq⟩, sub, alt⟩ := step c i d z
      refine .inr ⟨go, fun x H2 hy pins s u I2 r => ?_⟩
      obtain ⟨F2, p2, ix⟩ := y x H2 hy
      have keepD : ∀ {F3 H3 F4 H4 : Hp}, Pur F3 H3 F4 H4 → F3 D = none → (∃ o, H3 D = some o) → F4 D = none := fun {F3 H3 F4 H4} pp f3 h3 => by
        cases zz : F4 D with
        | none => rfl
        | some o =>
          rcases pp.new D (by rw [zz]; simp) with w | w
          · exact absurd f3 w
          · obtain ⟨o', h3⟩ := h3; rw [h3] at w; cases w
      have fD2 := keepD p2 fD ⟨_, hH⟩
      have hH2 := p2.hh _ _ hH
      refine pg pins s σ' H2 x u _ I2 r (gq F2 σ' H2 x _ p2.fh ix (sl'.mono p2.ff) I2.len fun σ3 sl3 _ => ?_)
      rcases alt with ⟨e, ht, he, hpre⟩ | ⟨ht, hpre⟩
      · refine fun pins s I3 => ht pins s σ3 H2 _ I3 ⟨F2, p2.fh, sl3, fun H4 F4 p4 => iteT ?_⟩
        refine fun pins s I4 => he pins s σ3 H4 _ I4 ⟨F4, p4.fh, sl3.mono p4.ff, fun v H5 F5 p5 iv => ?_⟩
        have fD5 := keepD p5 (keepD p4 fD2 ⟨_, hH2⟩) ⟨_, p4.hh _ _ hH2⟩
        have hH5 := p5.hh _ _ (p4.hh _ _ hH2)
        have P5 := ((pu.trans p2).trans p4).trans p5
        refine ⟨ys, hH5, by rw [il.len]; exact hz i (by omega), m - 1, by omega, by omega, F5, ⟨P5.ff, fun b o w => ?_, fun b o w => ?_, P5.new⟩, fD5, upd_same, ?_, (sl3.mono (p4.ff.trans p5.ff)).sub sub⟩
        · rw [upd_ne (ne_of_none w fD5)]; exact P5.fh _ _ w
        · rw [upd_ne (ne_of_none w hD)]; exact P5.hh _ _ w
        · rw [hpre]
          exact (il.mono ((p2.ff.trans p4.ff).trans p5.ff)).append (IsL.cons iv IsL.nil)
      · refine fun pins s I3 => ht pins s σ3 H2 _ I3 ⟨F2, p2.fh, sl3, fun H4 F4 p4 => iteF ?_⟩
        have P4 := (pu.trans p2).trans p4
        refine ⟨ys, m - 1, by omega, by omega, F4, P4, keepD p4 fD2 ⟨_, hH2⟩, p4.hh _ _ hH2, ?_, (sl3.mono p4.ff).sub sub⟩
        rw [hpre]
        exact il.mono (p2.ff.trans p4.ff)
theorem pf_comp (S : CompOk SX sc XN N nt caps) (hi : I3 X Γ tg iter ds) (hz : ∀ i, i ≤ ds.length → (pre i).length < sizeLine) (h0 : pre 0 = []) (step : CStep X sc N tg elt ifs (capG nt caps Γ) ds pre) (hc : X.calm = true := by rfl) (hX : X.env.scope = SX := by rfl) (hN : X.N = XN := by rfl)
    (hs : ∀ x, foldedSetIterable iter X.env x = pure x := by intro _; rfl) : PF3 X Γ (.ListComp elt [⟨tg, iter, ifs, 0⟩] sc pos) (pre ds.length) :=
  PE.of (pe_comp S hi (fun c => pg_w) (fun c => pts_w) (fun c => pe_w) hc hX hN hs) fun σ H Q h => comp_read hz h0 step h
theorem w_setC {B : Bs} {Ω : Om} {E : E3} {rest : List Stmt} {y : Str} {py : Pos} {i : Nat} {spos : Pos} (S : CompOk SX sc XN N nt caps) (hnd : X.N.Nodup) (hix : X.N[i]? = some y) (hy : Loc X.env.scope y) (hi : I3 X Γ tg iter ds) (hz : ∀ i, i ≤ ds.length → (pre i).length < sizeLine) (h0 : pre 0 = [])
    (step : CStep X sc N tg elt ifs (capG nt caps Γ) ds pre) (h : W3 X B rest (Γ.set i (some (.lst (pre ds.length)))) Ω E)
    (hsw : swapsWith (.ListComp elt [⟨tg, iter, ifs, 0⟩] sc pos) (some (.Name y py)) spos.line X.env = pure true := by rfl) (hc : X.calm = true := by rfl) (hX : X.env.scope = SX := by rfl) (hN : X.N = XN := by rfl)
    (hs : ∀ x, foldedSetIterable iter X.env x = pure x := by intro _; rfl) (hf : X.fn y = true ∨ X.env.scope.names.lookup y = some .local := by first | exact .inl rfl | exact .inr rfl) : W3 X B (.Assign [.Name y py] (.ListComp elt [⟨tg, iter, ifs, 0⟩] sc pos) spos :: rest) Γ Ω E := fun F σ H S' pins s I => by
  refine pss_cons (ps_comp S hnd hix hy hi (fun c => pg_w) (fun c => pts_w) (fun c => pe_w) hsw hc hX hN hs hf) pss_w pins s σ H _ I (comp_read (Q := fun x H1 => gName i x σ H1 (WS X rest (E.to X.K B F))) hz h0 step ⟨F, S'.fh, S'.sl, fun p xs H' F' pu hp fp e il => ?_⟩)
  have w : Same F' (upd F' p (.lst xs)) := fun b u q => by rw [upd_ne (ne_of_none q fp)]; exact q
  have wf : Same (upd F' p (.lst xs)) H' := fun b u q => by
    by_cases hb : b = p
    · subst hb; rw [upd_same] at q; cases q; exact e
    · rw [upd_ne hb] at q; exact pu.fh _ _ q
  have w2 : Pur F H (upd F' p (.lst xs)) H' := by
    refine ⟨pu.ff.trans w, wf, pu.hh, fun b q => ?_⟩
    by_cases hb : b = p
    · subst hb; exact .inr hp
    · rw [upd_ne hb] at q; exact pu.new b q
  exact to_mono w2.ff (h _ _ H' ((S'.pur w2).slots (Sl.set (S'.sl.mono w2.ff) (by rw [I.len]; exact (List.getElem?_eq_some_iff.mp hix).1) (Is.lstI (.inl upd_same) (il.mono w)))))
end
def cutD (ds : List D) (lo hi : Option Int) : List D := (ds.drop (HT.sIx ds.length 0 lo)).take (HT.sIx ds.length ds.length hi - HT.sIx ds.length 0 lo)
theorem cut_is {K : PySem.W.Frag} {F : Hp} {ds : List D} {xs : List V} {lo hi : Option Int} (h : IsL K F ds xs) : IsL K F (cutD ds lo hi) (cutV xs lo hi) := by
  unfold cutD cutV
  rw [h.len]
  exact (h.drop _).take _
def PO3 (X : Cx) (Γ : Ga) (e : Option Expr) (i : Option Int) : Prop := PO X e fun σ H Q => ∃ F, Same F H ∧ Sl X.K F Γ σ ∧ ∀ H' F', Pur F H F' H' → Q i H'
section
variable {X : Cx} {Γ : Ga} {a e : Expr} {lo hi : Option Expr} {i j : Option Int} {d : D} {ds : List D} {pos p2 : Pos}
theorem PO.of {e : Option Expr} {t u : TO} (h : PO X e t) (i : ∀ σ H Q, u σ H Q → t σ H Q) : PO X e u := fun pins s σ H Q I hq => h pins s σ H Q I (i _ _ _ hq)
theorem o_none : PO3 X Γ none none := PO.of po_none fun σ H Q ⟨F, fh, sl, q⟩ => q H F (Pur.refl fh)
theorem o_some {n : Int} (h : P3 X Γ e (.int n)) : PO3 X Γ (some e) (some n) := PO.of (po_some h) fun σ H Q ⟨F, fh, sl, q⟩ => ⟨F, fh, sl, fun v H' F' p i => ⟨n, isI i, q H' F' p⟩⟩
theorem tSl3 {K : PySem.W.Frag} {σ : L2.St} {H : Hp} {R : V → Option Int → Option Int → Hp → VK → Prop} {Q : VK} (h : ∃ F, Same F H ∧ Sl K F Γ σ ∧ ∀ x H2 F2, Pur F H F2 H2 → Is K F2 d x → R x i j H2 Q) :
    tSl R (tP K Γ d) (fun σ H Q => ∃ F, Same F H ∧ Sl K F Γ σ ∧ ∀ H' F', Pur F H F' H' → Q i H') (fun σ H Q => ∃ F, Same F H ∧ Sl K F Γ σ ∧ ∀ H' F', Pur F H F' H' → Q j H') σ H Q := by
  obtain ⟨F, fh, sl, q⟩ := h
  exact ⟨F, fh, sl, fun x H1 F1 p1 i1 => ⟨F1, p1.fh, sl.mono p1.ff, fun H2 F2 p2 => ⟨F2, p2.fh, sl.mono (p1.ff.trans p2.ff), fun H3 F3 p3 => q x H3 F3 ((p1.trans p2).trans p3) (i1.mono (p2.ff.trans p3.ff))⟩⟩⟩
theorem pf_slice (ha : P3 X Γ a (.lst ds)) (hl : PO3 X Γ lo i) (hh : PO3 X Γ hi j) : PF3 X Γ (.Subscript a (.Slice lo hi none p2) pos) (cutD ds i j) :=
  PE.of (pe_slice sl_list ha hl hh) fun σ H Q ⟨F, fh, sl, q⟩ => tSl3 ⟨F, fh, sl, fun x H2 F2 p i1 => by
    obtain ⟨l, xs, rfl, s1, j1⟩ := isLst i1
    exact ⟨l, xs, rfl, p.fh.seq s1, fun b hb => q b _ _ F2 (p.trans (Pur.layOwn p.fh hb)) (p.hh.free hb) (p.fh.free hb) upd_same (cut_is j1)⟩⟩
end
end L3
set_option Elab.async false
set_option linter.all false
set_option maxRecDepth 100000
set_option maxHeartbeats 4000000
namespace L3
open PySem PySem.Spec PySem.Calls PyProof.Rows L2
def startG (N : List Str) (ds : List D) : Ga := ds.map some ++ List.replicate (N.length - ds.length) none
theorem Sl.start {K : PySem.W.Frag} {F : Hp} {N : List Str} {ds : List D} {vs : List V} (h : IsL K F ds vs) : Sl K F (startG N ds) (L2.start N vs) := fun i d q => by
  unfold startG at q
  unfold L2.start
  have hl := h.len
  by_cases hi : i < ds.length
  · rw [List.getElem?_append_left (by simpa using hi), List.getElem?_map] at q
    rw [List.getElem?_append_left (by rw [List.length_map, hl]; exact hi), List.getElem?_map]
    cases e : ds[i]? with
    | none => rw [e] at q; cases q
    | some d' =>
      rw [e] at q
      cases q
      obtain ⟨v, h1, h2⟩ := h.get e
      exact ⟨v, by rw [h1]; rfl, h2⟩
  · rw [List.getElem?_append_right (by simpa using hi), List.getElem?_replicate] at q
    split at q <;> cases q
theorem Sat.entry {K : PySem.W.Frag} {F H : Hp} {N : List Str} {ds : List D} {vs : List V} (fh : Same F H) (h : IsL K F ds vs) : Sat K ⟨[], F, H⟩ (startG N ds) [] F (L2.start N vs) H :=
  ⟨Same.refl _, fh, fun _ q => .inl q, fun _ _ _ e => e, List.nodup_nil, (fun _ q => absurd q (by simp)), (fun _ q => absurd q (by simp)), Sl.start h⟩
abbrev cx0 (P : Program) (w : World) (K : PySem.W.Frag) (mg : Str → Option Value) (base : Heap) (N : List Str) (x : Str) (st : Stmt) (f : Addr) (cdv : Value) (A : Around) (outer : List Env) (s : Shared) (H : Hp) (E : XK) : Cx := (cxOf CX0 P w K mg base N x (defScope st) f cdv A outer s H E).nox
abbrev cxX (P : Program) (w : World) (K : PySem.W.Frag) (mg : Str → Option Value) (base : Heap) (N : List Str) (x : Str) (st : Stmt) (f : Addr) (cdv : Value) (A : Around) (outer : List Env) (s : Shared) (H : Hp) (E : XK) : Cx := cxOf (CXo P w) P w K mg base N x (defScope st) f cdv A outer s H E
section
variable {P : Program} {w : World} {K : PySem.W.Frag} {mg : Str → Option Value} {base : Heap} {x : Str} {st : Stmt} {N ps : List Str} {k n : Nat}
theorem ok_pure {C : List D → D → Prop} (d : DefK K mg x st ps) (S : FnScope N ps (defScope st)) (hn : ps.length = n)
    (body : ∀ (f : Addr) (cdv : Value) (A : Around) (outer : List Env) (s : Shared) (H : Hp) (E : XK), Room k (A.deeper (envOfC x (defScope st) s.heap.objs.size f cdv)) → ∀ (ds : List D) (r : D), C ds r → ∀ B : Bs, B.M = [] →
      W3 (cx0 P w K mg base N x st f cdv A outer s H E) B (defBody st) (startG N ds) [] ⟨fun _ _ => r = .non, fun r' _ => r' = r, fun _ _ => False, fun _ _ => False⟩) : OkF P w K mg base CX0 (k + 1) x ps (spP K n C) := by
  refine d.ok S (fun vs H Q E h => h.len.trans hn.symm) fun f cdv A outer s H vs Q E hr h => ⟨_, pss_w, ?_⟩
  obtain ⟨ds, r, F, hC, hl, fh, il, q⟩ := h
  refine ends_mono (D := E3.to K ⟨[], F, H⟩ F ⟨fun _ _ => r = .non, fun r' _ => r' = r, fun _ _ => False, fun _ _ => False⟩) (D' := { nx := fun _ H' => Q .non H', rt := Q }) ?_ ?_ ?_ ?_ (body f cdv A outer s H E hr ds r hC ⟨[], F, H⟩ rfl F (L2.start N vs) H (Sat.entry fh il))
  · rintro σ' H' ⟨Γ', Ω', F', S', f', e⟩
    subst e
    exact q _ _ _ (S'.toPur rfl) (i_non F')
  · rintro v H' ⟨d', Ω', F', ⟨σ', S'⟩, f', i', e⟩
    subst e
    exact q _ _ _ (S'.toPur rfl) i'
  · rintro σ' H' ⟨_, _, _, _, _, z⟩
    exact z.elim
  · rintro σ' H' ⟨_, _, _, _, _, z⟩
    exact z.elim
theorem ok_raises {C : List D → Addr → Prop} (d : DefK K mg x st ps) (S : FnScope N ps (defScope st)) (hn : ps.length = n)
    (body : ∀ (f : Addr) (cdv : Value) (A : Around) (outer : List Env) (s : Shared) (H : Hp) (E : XK), Room k (A.deeper (envOfC x (defScope st) s.heap.objs.size f cdv)) → ∀ (ds : List D) (c : Addr), C ds c → ∀ B : Bs, B.M = [] → (∀ Γ Ω F' σ H', Sat K B Γ Ω F' σ H' → E (.ref c) none H') →
      W3 (cxX P w K mg base N x st f cdv A outer s H E) B (defBody st) (startG N ds) [] ⟨fun _ _ => False, fun _ _ => False, fun _ _ => False, fun _ _ => False⟩) : OkF P w K mg base (CXo P w) (k + 1) x ps (spX K n C) := by
  refine d.okX S (fun vs H Q E h => h.len.trans hn.symm) fun f cdv A outer s H vs Q E hr h => ⟨_, pss_w, ?_⟩
  obtain ⟨ds, c, F, hC, hl, fh, il, q⟩ := h
  refine ends_mono (D := E3.to K ⟨[], F, H⟩ F ⟨fun _ _ => False, fun _ _ => False, fun _ _ => False, fun _ _ => False⟩) (D' := { nx := fun _ H' => Q .non H', rt := Q }) ?_ ?_ ?_ ?_ (body f cdv A outer s H E hr ds c hC ⟨[], F, H⟩ rfl (fun Γ Ω F' σ H' S' => q H' F' (S'.toPur rfl)) F (L2.start N vs) H (Sat.entry fh il))
  · rintro σ' H' ⟨_, _, _, _, _, z⟩
    exact z.elim
  · rintro v H' ⟨_, _, _, _, _, _, z⟩
    exact z.elim
  · rintro σ' H' ⟨_, _, _, _, _, z⟩
    exact z.elim
  · rintro σ' H' ⟨_, _, _, _, _, z⟩
    exact z.elim
end
section
variable {X : Cx} {B : Bs} {Γ : Ga} {Ω : Om} {E : E3} {rest : List Stmt} {e : Expr} {es : List Expr} {ds : List D} {pos np cpos p : Pos} {Ex : XK} {C : Addr} {x : Str}
theorem w_raise (hc : X.calm = true) (c : ExCls X.K C) (hg : Gl X x) (hm : X.mg x = some (.ref C)) (ha : PL3 X Γ (e :: es) ds) (hE : Flies X Ex) (h : ∀ F σ H, Sat X.K B Γ Ω F σ H → Ex (.ref C) none H) (hz : ds.length ≤ sizeLine := by (simp only [List.length_cons, List.length_nil]; decide))
    (he : starEach (e :: es) X.env = (false, eval e X.env) :: starEach es X.env := by rfl) (hplain : (backTo cpos (starEach es X.env)).any (·.1) = false := by rfl) (hd : (x == ("__debug__" : Str)) = false := by decide) :
    W3 X B (.Raise (some (.Call (.Name x np) (e :: es) [] cpos)) none pos :: rest) Γ Ω E := fun F σ H S pins s I =>
  pss_cons (ps_raise hc c hg hm ha hE he hplain hd) pss_never pins s σ H _ I ⟨F, S.fh, S.sl, fun vs H' F' pu il => ⟨by rw [il.len]; exact hz, h F' σ H' (S.pur pu)⟩⟩
def R3 (X : Cx) (B : Bs) (Γ : Ga) (Ω : Om) (e : Expr) : Prop := ∀ F σ H, Sat X.K B Γ Ω F σ H → ∀ Q, WE X e σ H Q
theorem r_call {k n : Nat} {ps : List Str} {Cx' : List D → Addr → Prop} (o : OkF X.prog X.w X.K X.mg X.base (CXo X.prog X.w) k x ps (spX X.K n Cx')) (hx : Passes (CXo X.prog X.w) X Ex) (hr : Room k X.A) (hg : Gl X x) (ha : PL3 X Γ (e :: es) ds) (hC : Cx' ds C) (h : ∀ F σ H, Sat X.K B Γ Ω F σ H → Ex (.ref C) none H)
    (hn : ds.length = n := by rfl) (hdb : (x == ("__debug__" : Str)) = false := by decide) (he : starEach (e :: es) X.env = (false, eval e X.env) :: starEach es X.env := by rfl) (hpl : (backTo pos (starEach es X.env)).any (·.1) = false := by rfl) : R3 X B Γ Ω (.Call (.Name x p) (e :: es) [] pos) := fun F σ H S Q pins s I =>
  pe_fnX o hx hr hg ha hdb he hpl pins s σ H Q I ⟨F, S.fh, S.sl, fun vs H' F' pu il => by
    dsimp only
    rw [List.append_nil]
    exact ⟨ds, C, F', hC, hn, pu.fh, il, fun H2 F2 p2 => h F2 σ H2 (S.pur (pu.trans p2))⟩⟩
theorem w_setR {i : Nat} {pos' : Pos} (hN : X.N.Nodup) (hi : X.N[i]? = some x) (hx : Loc X.env.scope x) (h : R3 X B Γ Ω e) (hs : swapsWith e (some (.Name x pos')) pos.line X.env = pure false := by rfl)
    (hf : X.fn x = true ∨ X.env.scope.names.lookup x = some .local := by first | exact .inl rfl | exact .inr rfl | assumption) : W3 X B (.Assign [.Name x pos'] e pos :: rest) Γ Ω E := fun F σ H S pins s I =>
  pss_cons (ps_set hN hi hx pe_w hs hf) pss_never pins s σ H _ I (h F σ H S _)
theorem w_retR (h : R3 X B Γ Ω e) : W3 X B (.Return (some e) pos :: rest) Γ Ω E := fun F σ H S pins s I => pss_cons (ps_ret pe_w) pss_never pins s σ H _ I (h F σ H S _)
theorem w_try {k n i : Nat} {ps : List Str} {nm c f : Str} {Cc cls : Addr} {Cx' : List D → Addr → Prop} {b₀ : Stmt} {suite : List Stmt} {epos hpos : Pos} (O : Own X) (hc : X.calm = true) (o : OkF X.prog X.w X.K X.mg X.base (CXo X.prog X.w) k f ps (spX X.K n Cx')) (hr : Room k X.A) (hgf : Gl X f)
    (ha : PL3 X.nox Γ (e :: es) ds) (hC : Cx' ds cls) (hg : Gl X c) (hm : X.mg c = some (.ref Cc)) (hx : PySem.W.exmOne X.K (.ref cls) (.ref Cc) = some true) (hN : X.N.Nodup) (hi : X.N[i]? = some nm) (hl : X.env.kindOf nm = some .local)
    (hb : ∀ ea, W3 (X.marked ea) B (b₀ :: suite) (Γ.set i (some (.exc cls))) Ω ⟨fun _ _ => False, E.rt, fun _ _ => False, fun _ _ => False⟩)
    (hn : ds.length = n := by rfl) (hdb : (f == ("__debug__" : Str)) = false := by decide) (he : starEach (e :: es) X.env = (false, eval e X.env) :: starEach es X.env := by rfl) (hpl : (backTo cpos (starEach es X.env)).any (·.1) = false := by rfl)
    (hs : swapsWith (.Call (.Name f p) (e :: es) [] cpos) none epos.line X.env = pure false := by rfl) (hd : (c == ("__debug__" : Str)) = false := by decide) :
    W3 X B (.Try [.Expr (.Call (.Name f p) (e :: es) [] cpos) epos] [.ExceptHandler (some (.Name c np)) (some nm) (b₀ :: suite) hpos] [] [] pos :: rest) Γ Ω E := fun F σ H S pins s I => by
  refine pss_cons (ps_try (i := i) O hc (px_fn o hr hgf ha hdb he hpl) hg hm hN hi hl (fun ea => pss_w) hs hd) pss_never pins s σ H _ I ⟨F, S.fh, S.sl, fun vs H' F' pu il => ⟨ds, cls, F', hC, hn, pu.fh, il, fun H2 F2 p2 => ⟨hx, fun ea hea => ?_⟩⟩⟩
  have P2 := (pu.trans p2).trans (Pur.lay (o := xobj ea (.ref cls)) p2.fh hea)
  have S2 : Sat X.K B (Γ.set i (some (.exc cls))) Ω _ (σ.set i (some (.ref ea))) _ := (S.pur P2).slots (Sl.set (S.sl.mono P2.ff) (by rw [I.len]; exact (List.getElem?_eq_some_iff.mp hi).1) (d := .exc cls) (v := .ref ea) (by simp only [Is]; exact ⟨ea, rfl, upd_same⟩))
  refine ends_mono (D := E3.to X.K B _ ⟨fun _ _ => False, E.rt, fun _ _ => False, fun _ _ => False⟩) (D' := { nx := fun _ _ => False, rt := (E.to X.K B F).rt }) ?_ ?_ ?_ ?_ (to_mono P2.ff (hb ea _ _ _ S2))
  · rintro σ' H' ⟨_, _, _, _, _, z⟩
    exact z
  · rintro v H' q
    exact q
  · rintro σ' H' ⟨_, _, _, _, _, z⟩
    exact z
  · rintro σ' H' ⟨_, _, _, _, _, z⟩
    exact z
theorem p_isinX {a b : Expr} {cv : V} {k : Bool} (hm : X.mg "isinstance" = none) (hg : Gl X "isinstance") (ha : P3 X Γ a (.exc C)) (hb : P3 X Γ b (.raw cv)) (hk : XcK X.K C) (e : PySem.W.kitOne X.K (.ref C) (cV cv) = some k) (hc : cV cv ≠ .none)
    (he : starEach [a, b] X.env = (false, eval a X.env) :: starEach [b] X.env := by rfl) (he2 : starEach [b] X.env = (false, eval b X.env) :: starEach [] X.env := by rfl) (hpl : (backTo pos (starEach [b] X.env)).any (·.1) = false := by rfl) : P3 X Γ (.Call (.Name "isinstance" p) [a, b] [] pos) (.bl k) :=
  p_callB call_isin hg hm bt_isinstance (pl_cons ha (pl_cons hb pl_nil he2) he) (fun vs H F Q fh i q => by
    obtain ⟨x, y, rfl, i1, i2⟩ := isL2 i
    cases isR i2
    simp only [Is] at i1
    obtain ⟨ea, rfl, hea⟩ := i1
    exact ⟨.ref ea, _, k, rfl, .exc (fh _ _ hea) hk e hc, q _ _ _ (Pur.refl fh) (i_bl F)⟩) (by decide) (by decide) he hpl
end
section
variable {X : Cx} {B : Bs} {Γ : Ga} {Ω : Om} {E : E3} {rest : List Stmt} {e : Expr} {ds : List D} {pos pos' : Pos} {x : Str}
theorem w_own {i : Nat} (hN : X.N.Nodup) (hi : X.N[i]? = some x) (hx : Loc X.env.scope x) (he : PF3 X Γ e ds) (h : ∀ a, W3 X B rest (Γ.set i (some (.raw (.ref a)))) ((a, oLst X.K ds) :: Ω) E) (hs : swapsWith e (some (.Name x pos')) pos.line X.env = pure false := by rfl)
    (hf : X.fn x = true ∨ X.env.scope.names.lookup x = some .local := by first | exact .inl rfl | exact .inr rfl | assumption) : W3 X B (.Assign [.Name x pos'] e pos :: rest) Γ Ω E := fun F σ H S pins s I =>
  pss_cons (ps_set hN hi hx he hs hf) pss_w pins s σ H _ I ⟨F, S.fh, S.sl, fun a xs H' F' pu ha fa hH il => by
    have S1 := S.pur pu
    have nin : a ∉ Ω.map (·.1) := fun z => by
      obtain ⟨q, hq, e⟩ := List.mem_map.mp z
      obtain ⟨_, o, h2, _⟩ := S.own q hq
      rw [e, ha] at h2
      cases h2
    refine to_mono pu.ff (h a F' _ H' ⟨S1.f0, S1.fh, S1.fr, S1.kp, List.nodup_cons.mpr ⟨nin, S1.nd⟩, fun q hq => ?_, fun q hq => ?_, Sl.set (S.sl.mono pu.ff) (by rw [I.len]; exact (List.getElem?_eq_some_iff.mp hi).1) (i_raw F')⟩)
    · rcases List.mem_cons.mp hq with z | z
      · subst z
        exact (S.freeB ha).symm
      · exact S1.od q z
    · rcases List.mem_cons.mp hq with z | z
      · subst z
        exact ⟨fa, _, hH, fun F2 e => ⟨xs, rfl, il.mono e⟩⟩
      · exact S1.own q z⟩
theorem Sat.perm {K : PySem.W.Frag} {Ω' : Om} {F : Hp} {σ : L2.St} {H : Hp} (S : Sat K B Γ Ω F σ H) (p : Ω'.Perm Ω) : Sat K B Γ Ω' F σ H :=
  ⟨S.f0, S.fh, S.fr, S.kp, (p.map _).nodup_iff.mpr S.nd, fun q hq => S.od q (p.mem_iff.mp hq), fun q hq => S.own q (p.mem_iff.mp hq), S.sl⟩
theorem w_perm {Ω' : Om} {sts : List Stmt} (p : Ω'.Perm Ω) (h : W3 X B sts Γ Ω' E) : W3 X B sts Γ Ω E := fun F σ H S => h F σ H (S.perm p)
theorem Sat.turn {K : PySem.W.Frag} {F : Hp} {σ : L2.St} {H : Hp} {a : Addr} {w w' : Ow} {o : HO} (S : Sat K B Γ ((a, w) :: Ω) F σ H) (h : ∀ F', Same F F' → w' F' o) : Sat K B Γ ((a, w') :: Ω) F σ (upd H a o) := by
  obtain ⟨fa, o0, ha, _⟩ := S.own (a, w) (by simp)
  have nin := (List.nodup_cons.mp S.nd).1
  refine ⟨S.f0, fun b u e => ?_, S.fr, fun b u hb e => ?_, S.nd, fun q hq => ?_, fun q hq => ?_, S.sl⟩
  · rw [upd_ne (ne_of_none e fa)]; exact S.fh _ _ e
  · by_cases z : b = a
    · subst z
      rcases S.od (b, w) (by simp) with y | y
      · exact absurd y hb
      · have y' : B.H b = none := y
        rw [y'] at e; cases e
    · rw [upd_ne z]; exact S.kp b u hb e
  · rcases List.mem_cons.mp hq with z | z
    · subst z; exact S.od (a, w) (by simp)
    · exact S.od q (List.mem_cons_of_mem _ z)
  · rcases List.mem_cons.mp hq with z | z
    · subst z
      exact ⟨fa, o, upd_same, h⟩
    · obtain ⟨h1, o', h2, h3⟩ := S.own q (List.mem_cons_of_mem _ z)
      have ne : q.1 ≠ a := fun e => nin (List.mem_map.mpr ⟨q, z, e⟩)
      exact ⟨h1, o', by rw [upd_ne ne]; exact h2, h3⟩
theorem w_freeze {sts : List Stmt} {i : Nat} {a : Addr} (hΓ : Γ[i]? = some (some (.raw (.ref a)))) (h : W3 X B sts (Γ.set i (some (.lst ds))) Ω E) : W3 X B sts Γ ((a, oLst X.K ds) :: Ω) E := fun F σ H S => by
  obtain ⟨v, e1, e2⟩ := S.sl i _ hΓ
  cases isR e2
  obtain ⟨fa, o0, ha, ho⟩ := S.own (a, oLst X.K ds) (by simp)
  obtain ⟨xs, rfl, il⟩ := ho F (Same.refl _)
  have nin := (List.nodup_cons.mp S.nd).1
  have w : Same F (upd F a (.lst xs)) := fun b u q => by rw [upd_ne (ne_of_none q fa)]; exact q
  refine to_mono w (h (upd F a (.lst xs)) σ H ⟨S.f0.trans w, fun b u q => ?_, fun b q => ?_, S.kp, (List.nodup_cons.mp S.nd).2, fun q hq => S.od q (List.mem_cons_of_mem _ hq), fun q hq => ?_, fun j d q => ?_⟩)
  · by_cases hb : b = a
    · subst hb; rw [upd_same] at q; cases q; exact ha
    · rw [upd_ne hb] at q; exact S.fh _ _ q
  · by_cases hb : b = a
    · subst hb
      exact (S.od (b, oLst X.K ds) (by simp)).elim (fun z => .inr (.inr z)) fun z => .inr (.inl z)
    · rw [upd_ne hb] at q; exact S.fr b q
  · obtain ⟨h1, o', h2, h3⟩ := S.own q (List.mem_cons_of_mem _ hq)
    have ne : q.1 ≠ a := fun e => nin (List.mem_map.mpr ⟨q, hq, e⟩)
    exact ⟨by rw [upd_ne ne]; exact h1, o', h2, fun F2 e => h3 F2 (w.trans e)⟩
  · by_cases hj : i = j
    · subst hj
      rw [List.getElem?_set] at q
      split at q
      · split at q
        · cases q
          exact ⟨_, e1, Is.lstI (.inl upd_same) (il.mono w)⟩
        · cases q
      · contradiction
    · rw [List.getElem?_set_ne hj] at q
      obtain ⟨u, h1, h2⟩ := S.sl j d q
      exact ⟨u, h1, h2.mono w⟩
end
end L3
set_option Elab.async false
set_option linter.all false
set_option maxRecDepth 100000
set_option maxHeartbeats 4000000
namespace L3
open PySem PySem.Spec PySem.Calls PyProof.Rows L2
def V3 (X : Cx) (B : Bs) (e : Expr) (Γ : Ga) (Ω : Om) (R : D → Om → Prop) : Prop := ∀ F σ H, Sat X.K B Γ Ω F σ H → WE X e σ H fun v H' => ∃ d Ω' F', Sat X.K B Γ Ω' F' σ H' ∧ Same F F' ∧ Is X.K F' d v ∧ R d Ω'
def VT3 (X : Cx) (B : Bs) (e : Expr) (Γ : Ga) (Ω : Om) (R : Bool → Om → Prop) : Prop := ∀ F σ H, Sat X.K B Γ Ω F σ H → WT X e σ H fun k H' => ∃ Ω' F', Sat X.K B Γ Ω' F' σ H' ∧ Same F F' ∧ R k Ω'
def WL (X : Cx) (es : List Expr) : TA := fun σ H Q => ∀ (pos : Pos) (pins : List (Addr × Obj)) (s : Shared), Inv X pins σ H s → wpAny (model X.prog X.w) X.A (spliced (backTo pos (starEach es X.env))) (AP X pins σ Q) X.xe s
theorem pa_w {X : Cx} {es : List Expr} : PA X es (WL X es) := fun pos pins s σ H Q I h => h pos pins s I
def VL3 (X : Cx) (B : Bs) (es : List Expr) (Γ : Ga) (Ω : Om) (R : List D → Om → Prop) : Prop := ∀ F σ H, Sat X.K B Γ Ω F σ H → WL X es σ H fun vs H' => ∃ ds Ω' F', Sat X.K B Γ Ω' F' σ H' ∧ Same F F' ∧ IsL X.K F' ds vs ∧ R ds Ω'
theorem WE.mono {X : Cx} {e : Expr} {σ : L2.St} {H : Hp} {Q Q' : VK} (h : WE X e σ H Q) (i : ∀ v H, Q v H → Q' v H) : WE X e σ H Q' := fun pins s I => thn (h pins s I) fun u s' ⟨v, H', I', r, q⟩ => ⟨v, H', I', r, i _ _ q⟩
theorem WT.mono {X : Cx} {e : Expr} {σ : L2.St} {H : Hp} {Q Q' : Bool → Hp → Prop} (h : WT X e σ H Q) (i : ∀ v H, Q v H → Q' v H) : WT X e σ H Q' := fun pins s I => thn (h pins s I) fun u s' ⟨H', I', q⟩ => ⟨H', I', i _ _ q⟩
theorem WL.mono {X : Cx} {e : List Expr} {σ : L2.St} {H : Hp} {Q Q' : List V → Hp → Prop} (h : WL X e σ H Q) (i : ∀ v H, Q v H → Q' v H) : WL X e σ H Q' := fun p pins s I => thn (h p pins s I) fun u s' ⟨v, H', I', r, q⟩ => ⟨v, H', I', r, i _ _ q⟩
theorem Sat.turnIn {K : PySem.W.Frag} {B : Bs} {Γ : Ga} {Ω : Om} {F : Hp} {σ : L2.St} {H : Hp} {a : Addr} {w : Ow} {o : HO} (S : Sat K B Γ Ω F σ H) (m : (a, w) ∈ Ω) (h : ∀ F', Same F F' → w F' o) : Sat K B Γ Ω F σ (upd H a o) := by
  obtain ⟨fa, o0, ha, _⟩ := S.own (a, w) m
  refine ⟨S.f0, fun b u e => ?_, S.fr, fun b u hb e => ?_, S.nd, S.od, fun q hq => ?_, S.sl⟩
  · rw [upd_ne (ne_of_none e fa)]; exact S.fh _ _ e
  · by_cases z : b = a
    · subst z
      rcases S.od (b, w) m with y | y
      · exact absurd y hb
      · have y' : B.H b = none := y
        rw [y'] at e; cases e
    · rw [upd_ne z]; exact S.kp b u hb e
  · obtain ⟨h1, o', h2, h3⟩ := S.own q hq
    by_cases z : q.1 = a
    · have e : q = (a, w) := by
        have nd := S.nd
        clear h1 h2 h3 ha fa h
        induction Ω with
        | nil => cases hq
        | cons r Ω ih =>
          rw [List.map_cons, List.nodup_cons] at nd
          rcases List.mem_cons.mp hq with y | y
          · rcases List.mem_cons.mp m with y2 | y2
            · rw [y, y2]
            · exact absurd (List.mem_map.mpr ⟨(a, w), y2, by rw [← y, z]⟩) nd.1
          · rcases List.mem_cons.mp m with y2 | y2
            · exact absurd (List.mem_map.mpr ⟨q, y, by rw [z, ← y2]⟩) nd.1
            · exact ih ⟨S.f0, S.fh, S.fr, S.kp, nd.2, fun q hq => S.od q (List.mem_cons_of_mem _ hq), fun q hq => S.own q (List.mem_cons_of_mem _ hq), S.sl⟩ y2 y nd.2
      subst e
      exact ⟨fa, o, upd_same, h⟩
    · exact ⟨h1, o', by rw [upd_ne z]; exact h2, h3⟩
section
variable {X : Cx} {B : Bs} {Γ : Ga} {Ω : Om} {E : E3} {rest body : List Stmt} {a b c e : Expr} {es : List Expr} {d : D} {ds : List D} {pos pos' p : Pos} {R : D → Om → Prop} {RL : List D → Om → Prop} {RT : Bool → Om → Prop} {k : Bool}
theorem v_pure (h : P3 X Γ e d) (r : R d Ω) : V3 X B e Γ Ω R := fun F σ H S => h.we ⟨F, S.fh, S.sl, fun v H' F' p i => ⟨d, Ω, F', S.pur p, p.ff, i, r⟩⟩
theorem V3.imp {R' : D → Om → Prop} (h : V3 X B e Γ Ω R) (i : ∀ d Ω', R d Ω' → R' d Ω') : V3 X B e Γ Ω R' := fun F σ H S => (h F σ H S).mono fun v H' ⟨d, Ω', F', S', f, iv, r⟩ => ⟨d, Ω', F', S', f, iv, i _ _ r⟩
theorem vt_pure (h : PT3 X Γ e k) (r : RT k Ω) : VT3 X B e Γ Ω RT := fun F σ H S => h.wt ⟨F, S.fh, S.sl, fun H' F' p => ⟨Ω, F', S.pur p, p.ff, r⟩⟩
theorem v_op {op : Operator} {r : R2} (ho : OpR X (binaryOp op) r) (h : V3 X B a Γ Ω fun d Ω1 => V3 X B b Γ Ω1 fun d' Ω2 => ∃ d3, (∀ x y H F Q, Same F H → Is X.K F d x → Is X.K F d' y → (∀ v H' F', Pur F H F' H' → Is X.K F' d3 v → Q v H') → r x y H Q) ∧ R d3 Ω2) : V3 X B (.BinOp a op b pos) Γ Ω R := fun F σ H S pins s I =>
  pe_op ho pe_w pe_w pins s σ H _ I ((h F σ H S).mono fun x H1 ⟨d, Ω1, F1, S1, f1, i1, h1⟩ => (h1 F1 σ H1 S1).mono fun y H2 ⟨d', Ω2, F2, S2, f2, i2, d3, hr, q⟩ =>
    hr x y H2 F2 _ S2.fh (i1.mono f2) i2 fun v H' F' p i => ⟨d3, Ω2, F', S2.pur p, (f1.trans f2).trans p.ff, i, q⟩)
theorem v_add (h : V3 X B a Γ Ω fun d Ω1 => ∃ i, d = .int i ∧ V3 X B b Γ Ω1 fun d' Ω2 => ∃ j, d' = .int j ∧ R (.int (i + j)) Ω2) : V3 X B (.BinOp a .Add b pos) Γ Ω R :=
  v_op op_add (h.imp fun d Ω1 ⟨i, e, h⟩ => h.imp fun d' Ω2 ⟨j, e', r⟩ => ⟨_, fun x y H F Q fh i1 i2 k => by subst e e'; exact ⟨i, j, isI i1, isI i2, k _ _ _ (Pur.refl fh) (i_int F)⟩, r⟩)
theorem vl_pure (h : PL3 X Γ es ds) (r : RL ds Ω) : VL3 X B es Γ Ω RL := fun F σ H S pos pins s I => h pos pins s σ H _ I ⟨F, S.fh, S.sl, fun v H' F' p i => ⟨ds, Ω, F', S.pur p, p.ff, i, r⟩⟩
theorem vl_cons (h : V3 X B e Γ Ω fun d Ω1 => VL3 X B es Γ Ω1 fun ds Ω2 => RL (d :: ds) Ω2) (hs : starEach (e :: es) X.env = (false, eval e X.env) :: starEach es X.env := by rfl) : VL3 X B (e :: es) Γ Ω RL := fun F σ H S pos pins s I =>
  pa_cons pe_w pa_w hs pos pins s σ H _ I ((h F σ H S).mono fun x H1 ⟨d, Ω1, F1, S1, f1, i1, h1⟩ => (h1 F1 σ H1 S1).mono fun xs H2 ⟨ds, Ω2, F2, S2, f2, i2, r⟩ => ⟨d :: ds, Ω2, F2, S2, f1.trans f2, IsL.cons (i1.mono f2) i2, r⟩)
theorem v_tup {x1} (h : VL3 X B es Γ Ω fun ds Ω1 => ds.length ≤ sizeLine ∧ R (.tup ds) Ω1) : V3 X B (.Tuple es x1 pos) Γ Ω R := fun F σ H S pins s I =>
  pe_tup pa_w pins s σ H _ I ((h F σ H S).mono fun xs H1 ⟨ds, Ω1, F1, S1, f1, i1, hz, r⟩ => ⟨by rw [i1.len]; exact hz, fun q hq => ⟨.tup ds, Ω1, _, S1.pur (Pur.lay S1.fh hq), f1.trans (Pur.lay S1.fh hq).ff, Is.tupI (.inl (.inl upd_same)) (i1.mono (Pur.lay S1.fh hq).ff), r⟩⟩)
theorem v_call {n k : Nat} {C : List D → D → Prop} {x : Str} {ps : List Str} (o : OkF X.prog X.w X.K X.mg X.base CX0 k x ps (spP X.K n C)) (hr : Room k X.A) (hg : Gl X x) (h : VL3 X B (e :: es) Γ Ω fun ds Ω1 => ∃ d, C ds d ∧ ds.length = n ∧ R d Ω1) (hdb : (x == ("__debug__" : Str)) = false := by decide)
    (he : starEach (e :: es) X.env = (false, eval e X.env) :: starEach es X.env := by rfl) (hpl : (backTo pos (starEach es X.env)).any (·.1) = false := by rfl) : V3 X B (.Call (.Name x p) (e :: es) [] pos) Γ Ω R := fun F σ H S pins s I =>
  pe_fn o hr hg pa_w hdb he hpl pins s σ H _ I ((h F σ H S).mono fun vs H1 ⟨ds, Ω1, F1, S1, f1, i1, d, hC, hn, r⟩ => by
    rw [List.append_nil]
    exact ⟨ds, d, F1, hC, hn, S1.fh, i1, fun v H2 F2 p2 i2 => ⟨d, Ω1, F2, S1.pur p2, f1.trans p2.ff, i2, r⟩⟩)
theorem vt_cmp {op : CmpOp} {r : R2} (ho : OpR X (compareOp op) r) (h : V3 X B a Γ Ω fun d Ω1 => V3 X B b Γ Ω1 fun d' Ω2 => ∃ k, (∀ x y H F Q, Same F H → Is X.K F d x → Is X.K F d' y → Q (.bl k) H → r x y H Q) ∧ RT k Ω2)
    (hm : behindInMarks op b = false := by first | exact nomark _ | with_unfolding_all rfl) : VT3 X B (.Compare a [op] [b] pos) Γ Ω RT := fun F σ H S pins s I =>
  pt_cmpR ho pe_w pe_w hm pins s σ H _ I ((h F σ H S).mono fun x H1 ⟨d, Ω1, F1, S1, f1, i1, h1⟩ => (h1 F1 σ H1 S1).mono fun y H2 ⟨d', Ω2, F2, S2, f2, i2, k, hr, q⟩ => hr x y H2 F2 _ S2.fh (i1.mono f2) i2 ⟨k, rfl, Ω2, F2, S2, f1.trans f2, q⟩)
theorem eqI_pure {i j : Int} : ∀ (x y : V) (H F : Hp) (Q : VK), Same F H → Is X.K F (.int i) x → Is X.K F (.int j) y → Q (.bl (decide (i = j))) H → rEq x y H Q := fun x y H F Q fh i1 i2 q => by
  cases isI i1; cases isI i2
  exact ⟨rfl, by simpa only [V.int.injEq] using q⟩
theorem vt_and2 (h : VT3 X B a Γ Ω fun k Ω1 => if k = true then VT3 X B b Γ Ω1 RT else RT false Ω1) : VT3 X B (.BoolOp .And [a, b] pos) Γ Ω RT := fun F σ H S pins s I =>
  PW.pt (pw_and pt_w (pw_and1 pt_w)) pins s σ H _ I ((h F σ H S).mono fun k H1 ⟨Ω1, F1, S1, f1, h1⟩ => by
    cases k with
    | true => rw [if_pos rfl] at h1; exact iteT ((h1 F1 σ H1 S1).mono fun k H2 ⟨Ω2, F2, S2, f2, q⟩ => ⟨Ω2, F2, S2, f1.trans f2, q⟩)
    | false => rw [if_neg Bool.false_ne_true] at h1; exact iteF ⟨Ω1, F1, S1, f1, h1⟩)
theorem w_setV {i : Nat} {x : Str} (hN : X.N.Nodup) (hi : X.N[i]? = some x) (hx : Loc X.env.scope x) (h : V3 X B e Γ Ω fun d Ω1 => W3 X B rest (Γ.set i (some d)) Ω1 E) (hs : swapsWith e (some (.Name x pos')) pos.line X.env = pure false := by rfl)
    (hf : X.fn x = true ∨ X.env.scope.names.lookup x = some .local := by first | exact .inl rfl | exact .inr rfl | assumption) : W3 X B (.Assign [.Name x pos'] e pos :: rest) Γ Ω E := fun F σ H S pins s I =>
  pss_cons (ps_set hN hi hx pe_w hs hf) pss_w pins s σ H _ I ((h F σ H S).mono fun v H1 ⟨d, Ω1, F1, S1, f1, i1, h1⟩ => to_mono f1 (h1 F1 _ H1 (S1.slots (Sl.set S1.sl (by rw [I.len]; exact (List.getElem?_eq_some_iff.mp hi).1) i1))))
theorem w_asgV {tg : Expr} {spos : Pos} (h : V3 X B e Γ Ω fun d Ω1 => ∃ Γ1, G3 X tg Γ d Γ1 ∧ W3 X B rest Γ1 Ω1 E) (hs : swapsWithSole [tg] e spos.line X.env = pure false := by rfl) (hw : swappedStores [tg] e X.env = pure none := by rfl)
    (h1 : (assignEach [tg] X.env).map (·.2) = [assign tg X.env] := by rfl) : W3 X B (.Assign [tg] e spos :: rest) Γ Ω E := fun F σ H S pins s I =>
  pss_cons (ps_asg pe_w pg_w hs hw h1) pss_w pins s σ H _ I ((h F σ H S).mono fun v H1 ⟨d, Ω1, F1, S1, f1, i1, Γ1, ⟨g, pg, gq⟩, h1⟩ => fun pins s u I2 r => pg pins s σ H1 v u _ I2 r (gq F1 σ H1 v _ S1.fh i1 S1.sl I2.len fun σ' sl' _ => to_mono f1 (h1 F1 σ' H1 (S1.slots sl'))))
theorem w_ifV {a b : List Stmt} (h : VT3 X B c Γ Ω fun k Ω1 => (k = true → W3 X B a Γ Ω1 (E.then X B rest)) ∧ (k = false → W3 X B b Γ Ω1 (E.then X B rest))) : W3 X B (.If c a b pos :: rest) Γ Ω E := fun F σ H S pins s I =>
  pss_cons (ps_if pt_w pss_w pss_w) pss_w pins s σ H _ I ((h F σ H S).mono fun k H1 ⟨Ω1, F1, S1, f1, h1, h2⟩ => by
    cases k with
    | true => exact iteT (seq_rest (to_mono f1 (h1 rfl F1 σ H1 S1)))
    | false => exact iteF (seq_rest (to_mono f1 (h2 rfl F1 σ H1 S1))))
end
end L3
set_option Elab.async false
set_option linter.all false
set_option maxRecDepth 100000
set_option maxHeartbeats 4000000
namespace L3
open PySem PySem.Spec PySem.Calls PyProof.Rows L2
theorem Sat.freeze {K : PySem.W.Frag} {B : Bs} {Γ : Ga} {Ω : Om} {F : Hp} {σ : L2.St} {H : Hp} {a : Addr} {ds : List D} (S : Sat K B Γ ((a, oLst K ds) :: Ω) F σ H) : ∃ F', Sat K B Γ Ω F' σ H ∧ Same F F' ∧ Is K F' (.lst ds) (.ref a) := by
  obtain ⟨fa, o0, ha, ho⟩ := S.own (a, oLst K ds) (by simp)
  obtain ⟨xs, rfl, il⟩ := ho F (Same.refl _)
  have nin := (List.nodup_cons.mp S.nd).1
  have w : Same F (upd F a (.lst xs)) := fun b u q => by rw [upd_ne (ne_of_none q fa)]; exact q
  refine ⟨upd F a (.lst xs), ⟨S.f0.trans w, fun b u q => ?_, fun b q => ?_, S.kp, (List.nodup_cons.mp S.nd).2, fun q hq => S.od q (List.mem_cons_of_mem _ hq), fun q hq => ?_, S.sl.mono w⟩, w, Is.lstI (.inl upd_same) (il.mono w)⟩
  · by_cases hb : b = a
    · subst hb; rw [upd_same] at q; cases q; exact ha
    · rw [upd_ne hb] at q; exact S.fh _ _ q
  · by_cases hb : b = a
    · subst hb
      exact (S.od (b, oLst K ds) (by simp)).elim (fun z => .inr (.inr z)) fun z => .inr (.inl z)
    · rw [upd_ne hb] at q; exact S.fr b q
  · obtain ⟨h1, o', h2, h3⟩ := S.own q (List.mem_cons_of_mem _ hq)
    have ne : q.1 ≠ a := fun e => nin (List.mem_map.mpr ⟨q, hq, e⟩)
    exact ⟨by rw [upd_ne ne]; exact h1, o', h2, fun F2 e => h3 F2 (w.trans e)⟩
theorem Sat.new {K : PySem.W.Frag} {B : Bs} {Γ : Ga} {Ω : Om} {F F' : Hp} {σ : L2.St} {H H' : Hp} {a : Addr} {w : Ow} {o : HO} (S : Sat K B Γ Ω F σ H) (pu : Pur F H F' H') (ha : H a = none) (fa : F' a = none) (hH : H' a = some o) (h : ∀ F2, Same F' F2 → w F2 o) : Sat K B Γ ((a, w) :: Ω) F' σ H' := by
  have S1 := S.pur pu
  have nin : a ∉ Ω.map (·.1) := fun z => by
    obtain ⟨q, hq, e⟩ := List.mem_map.mp z
    obtain ⟨_, o, h2, _⟩ := S.own q hq
    rw [e, ha] at h2
    cases h2
  refine ⟨S1.f0, S1.fh, S1.fr, S1.kp, List.nodup_cons.mpr ⟨nin, S1.nd⟩, fun q hq => ?_, fun q hq => ?_, S1.sl⟩
  · rcases List.mem_cons.mp hq with z | z
    · subst z
      exact (S.freeB ha).symm
    · exact S1.od q z
  · rcases List.mem_cons.mp hq with z | z
    · subst z
      exact ⟨fa, _, hH, h⟩
    · exact S1.own q z
def WI (X : Cx) (tg iter : Expr) : TI := fun σ H R => ∀ (pins : List (Addr × Obj)) (s : Shared), Inv X pins σ H s → wpAny (model X.prog X.w) X.A (eval iter X.env) (fun v s1 => wpAny (model X.prog X.w) X.A (pyIter v) (PIE X pins σ tg R) X.xe s1) X.xe s
theorem pi_w {X : Cx} {tg iter : Expr} : PI X tg iter (WI X tg iter) := fun pins s σ H R I h => h pins s I
theorem WI.mono {X : Cx} {tg iter : Expr} {σ : L2.St} {H : Hp} {R R' : It → Hp → Prop} (h : WI X tg iter σ H R) (i : ∀ J H, R J H → R' J H) : WI X tg iter σ H R' := fun pins s I => thn (h pins s I) fun v s1 h1 => thn h1 fun itv s2 ⟨it, fp, tn, J, H', e, I', T, t0, f, r⟩ => ⟨it, fp, tn, J, H', e, I', T, t0, f, i _ _ r⟩
def IV3 (X : Cx) (B : Bs) (tg iter : Expr) (Γ : Ga) (Ω : Om) (R : List D → Om → Prop) : Prop := ∀ F σ H, Sat X.K B Γ Ω F σ H → WI X tg iter σ H fun J H' => ∃ ds Ω' F', Sat X.K B Γ Ω' F' σ H' ∧ Same F F' ∧ Walk3 X.K F' J ds ∧ R ds Ω'
section
variable {X : Cx} {B : Bs} {Γ : Ga} {Ω : Om} {E : E3} {rest body : List Stmt} {tg iter a b e : Expr} {es : List Expr} {d : D} {ds : List D} {pos pos' p : Pos} {R : D → Om → Prop} {RL : List D → Om → Prop}
theorem iv_pure (h : I3 X Γ tg iter ds) (r : RL ds Ω) : IV3 X B tg iter Γ Ω RL := fun F σ H S pins s I => h pins s σ H _ I ⟨F, S.fh, S.sl, fun J H' F' p w => ⟨ds, Ω, F', S.pur p, p.ff, w, r⟩⟩
theorem iv_range1 (hm : X.mg "range" = none) (hg : Gl X "range") (h : V3 X B a Γ Ω fun d Ω1 => ∃ j : Int, d = .int j ∧ -(2 ^ 62) ≤ j ∧ j < 2 ^ 62 ∧ RL (rngD 0 j.toNat) Ω1) (hs : starEach [a] X.env = [(false, eval a X.env)] := by rfl) : IV3 X B tg (.Call (.Name "range" p) [a] [] pos) Γ Ω RL := fun F σ H S pins s I =>
  pi_range1 hg hm (pa_cons pe_w pa_nil hs) hs pins s σ H _ I ((h F σ H S).mono fun v H1 ⟨d, Ω1, F1, S1, f1, i1, j, e, b1, b2, r⟩ => by
    subst e
    exact ⟨j, by rw [isI i1], b1, b2, _, Ω1, F1, S1, f1, walk_rng, r⟩)
theorem w_forV (hp : PassesOwn (model X.prog X.w) X.A X.env X.xe) (hc : X.calm = true)
    (h : IV3 X B tg iter Γ Ω fun ds Ω1 => ∃ J : Nat → Ga → Om → Prop, J 0 Γ Ω1 ∧ (∀ i d Γ Ω, ds[i]? = some d → J i Γ Ω → ∃ Γ1, G3 X tg Γ d Γ1 ∧ W3 X B body Γ1 Ω { E with nx := J (i + 1), ct := J (i + 1), bk := fun Γ' Ω' => W3 X B rest Γ' Ω' E }) ∧ ∀ Γ Ω, J ds.length Γ Ω → W3 X B rest Γ Ω E)
    (hs : ∀ x, foldedSetIterable iter X.env x = pure x := by intro _; rfl) : W3 X B (.For tg iter body [] pos :: rest) Γ Ω E := fun F σ H S pins s I => by
  refine pss_cons (ps_for hp hc pi_w pg_w pss_w hs) pss_w pins s σ H _ I ((h F σ H S).mono fun Jt H1 ⟨ds, Ω1, F1, S1, p1, w, J, h0, step, hd⟩ => ⟨fun i m σ H => i + m = ds.length ∧ nX X.K B F1 (J i) σ H, ⟨ds.length, by omega, Γ, Ω1, F1, S1, Same.refl _, h0⟩, ?_⟩)
  rintro i m σ H ⟨hm, Γ, Ω, F2, S, f1, j⟩
  obtain ⟨w1, w2⟩ := w i F2 H f1 S.fh
  cases z : ds[i]? with
  | none =>
    have hl : ds.length ≤ i := List.getElem?_eq_none_iff.mp z
    have e : i = ds.length := by omega
    subst e
    exact .inl ⟨w2 hl, to_mono (p1.trans f1) (hd Γ Ω j F2 σ H S)⟩
  | some d =>
    have hl : i < ds.length := (List.getElem?_eq_some_iff.mp z).1
    obtain ⟨go, y⟩ := w1 d z
    obtain ⟨Γ1, ⟨g, pg, gq⟩, wb⟩ := step i d Γ Ω z j
    refine .inr ⟨go, nX X.K B F1 (J (i + 1)), ?_, fun x H' hy pins s u I2 r => ?_⟩
    · rintro σ' H' n
      exact ⟨m - 1, by omega, by omega, n⟩
    · obtain ⟨F3, p2, ix⟩ := y x H' hy
      refine pg pins s σ H' x u _ I2 r (gq F3 σ H' x _ p2.fh ix (S.sl.mono p2.ff) I2.len fun σ' sl' _ => ?_)
      have f3 : Same F1 F3 := f1.trans p2.ff
      exact ends_mono (D := E3.to X.K B F3 { E with nx := J (i + 1), ct := J (i + 1), bk := fun Γ' Ω' => W3 X B rest Γ' Ω' E }) (D' := { nx := nX X.K B F1 (J (i + 1)), rt := (E.to X.K B F).rt, bk := WS X rest (E.to X.K B F), ct := nX X.K B F1 (J (i + 1)) })
        (fun _ _ q => q.mono f3) (fun v H ⟨d, Ω, F, S, f, i, r⟩ => ⟨d, Ω, F, S, (p1.trans f3).trans f, i, r⟩) (fun _ _ q => nx_rest (q.mono (p1.trans f3))) (fun _ _ q => q.mono f3) (wb F3 σ' H' ((S.pur p2).slots sl'))
theorem v_fresh (h : PF3 X Γ e ds) (r : ∀ a, R (.raw (.ref a)) ((a, oLst X.K ds) :: Ω)) : V3 X B e Γ Ω R := fun F σ H S pins s I => h pins s σ H _ I ⟨F, S.fh, S.sl, fun a xs H' F' pu ha fa hH il => ⟨_, _, F', S.new pu ha fa hH (fun F2 e => ⟨xs, rfl, il.mono e⟩), pu.ff, i_raw F', r a⟩⟩
theorem v_ixO (h : V3 X B a Γ Ω fun d Ω1 => ∃ l, d = .raw (.ref l) ∧ V3 X B b Γ Ω1 fun d' Ω2 => ∃ i ds e, d' = .int i ∧ (l, oLst X.K ds) ∈ Ω2 ∧ atI ds i = some e ∧ R e Ω2) (hs : PlainIx b := by exact fun _ _ => rfl) : V3 X B (.Subscript a b pos) Γ Ω R := fun F σ H S pins s I =>
  pe_ix ix_list pe_w pe_w hs pins s σ H _ I ((h F σ H S).mono fun x H1 ⟨d, Ω1, F1, S1, f1, i1, l, e1, h1⟩ => (h1 F1 σ H1 S1).mono fun y H2 ⟨d', Ω2, F2, S2, f2, i2, j, ds, e, e2, m, e3, q⟩ => by
    subst e1 e2
    cases isR i1
    obtain ⟨fa, o, ha, ho⟩ := S2.own _ m
    obtain ⟨xs, rfl, il⟩ := ho F2 (Same.refl _)
    obtain ⟨v, v1, v2⟩ := atI_is il e3
    exact ⟨l, xs, j, v, rfl, isI i2, SqL.of ha, v1, e, Ω2, F2, S2, f1.trans f2, v2, q⟩)
theorem v_lenO (hm : X.mg "len" = none) (hg : Gl X "len") (h : V3 X B a Γ Ω fun d Ω1 => ∃ l ds, d = .raw (.ref l) ∧ (l, oLst X.K ds) ∈ Ω1 ∧ R (.int ds.length) Ω1) (he : starEach [a] X.env = (false, eval a X.env) :: starEach [] X.env := by rfl) : V3 X B (.Call (.Name "len" p) [a] [] pos) Γ Ω R := fun F σ H S pins s I =>
  pe_callB call_len_seq hg hm PySem.boot_len (pa_cons pe_w pa_nil he) (by decide) (by decide) he (by rfl) pins s σ H _ I ((h F σ H S).mono fun x H1 ⟨d, Ω1, F1, S1, f1, i1, l, ds, e1, m, r⟩ => by
    subst e1
    cases isR i1
    obtain ⟨fa, o, ha, ho⟩ := S1.own _ m
    obtain ⟨xs, rfl, il⟩ := ho F1 (Same.refl _)
    exact ⟨l, xs, rfl, .inl (SqL.of ha), .int ds.length, Ω1, F1, S1, f1, by rw [il.len]; exact i_int F1, r⟩)
theorem w_setitem {o i : Expr} {spos tpos : Pos} (h : V3 X B e Γ Ω fun d Ω1 => V3 X B o Γ Ω1 fun dq Ω2 => ∃ l, dq = .raw (.ref l) ∧ V3 X B i Γ Ω2 fun di Ω3 => ∃ k j ds Ω4, di = .int k ∧ Ω3.Perm ((l, oLst X.K ds) :: Ω4) ∧ ixN ds.length k = some j ∧ W3 X B rest Γ ((l, oLst X.K (ds.set j d)) :: Ω4) E)
    (hs : swapsWithSole [.Subscript o i tpos] e spos.line X.env = pure false := by rfl) (hw : swappedStores [.Subscript o i tpos] e X.env = pure none := by rfl) (h1 : (assignEach [.Subscript o i tpos] X.env).map (·.2) = [assign (.Subscript o i tpos) X.env] := by rfl)
    (ha : ∀ v, assign (.Subscript o i tpos) X.env v = (do
      let ov ← holding [v] (eval o X.env)
      let iv ← holding [v, ov] (eval i X.env)
      standAt tpos
      holding [v, ov, iv] (setItem ov iv v)
      release [v, ov, iv] []) := by intro _; rfl) : W3 X B (.Assign [.Subscript o i tpos] e spos :: rest) Γ Ω E := fun F σ H S pins s I =>
  pss_cons (ps_asg pe_w (pg_sub pe_w pe_w set_list ha) hs hw h1) pss_w pins s σ H _ I ((h F σ H S).mono fun v H1 ⟨d, Ω1, F1, S1, f1, i1, h1⟩ => (h1 F1 σ H1 S1).mono fun y H2 ⟨dq, Ω2, F2, S2, f2, i2, l, e2, h2⟩ => (h2 F2 σ H2 S2).mono fun z H3 ⟨di, Ω3, F3, S3, f3, i3, k, j, ds, Ω4, e3, pm, hj, h3⟩ => by
    subst e2 e3
    cases isR i2
    have S4 := S3.perm pm.symm
    obtain ⟨fa, o', ha', ho⟩ := S4.own (l, oLst X.K ds) (by simp)
    obtain ⟨xs, rfl, il⟩ := ho F3 (Same.refl _)
    refine ⟨l, xs, k, j, rfl, isI i3, ha', by rw [il.len]; exact hj, ?_⟩
    exact to_mono (f1.trans (f2.trans f3)) (h3 F3 σ _ (S4.turn fun F5 e5 => ⟨_, rfl, (il.mono e5).set j (i1.mono (f2.trans (f3.trans e5)))⟩)))
theorem w_appendV {i : Nat} {x : Str} {l : Addr} {w : Ow} {apos np ppos : Pos} (hi : X.N[i]? = some x) (hv : Vis X.env.scope x) (hΓ : Γ[i]? = some (some (.raw (.ref l)))) (hm : (l, w) ∈ Ω) (hw : ∀ F o, w F o → ∃ xs, o = .lst xs)
    (h : V3 X B e Γ Ω fun d Ω1 => ∃ ds Ω2, Ω1.Perm ((l, oLst X.K ds) :: Ω2) ∧ ds.length < sizeLine ∧ W3 X B rest Γ ((l, oLst X.K (ds ++ [d])) :: Ω2) E)
    (hs : ∀ {t : TE}, PE X (.Call (.Attribute (.Name x np) "append" apos) [e] [] ppos) t → PS X (.Expr (.Call (.Attribute (.Name x np) "append" apos) [e] [] ppos) pos) (tDrop t) := by exact fun h => ps_expr h)
    (hd : (x == ("__debug__" : Str)) = false := by decide) (hcd : (x == ("__classdict__" : Str)) = false := by decide) (hst : starEach [e] X.env = (false, eval e X.env) :: starEach [] X.env := by rfl)
    (hp : ∀ {to : TE} {ta : TA}, PE X (.Name x np) to → PA X [e] ta → PE X (.Call (.Attribute (.Name x np) "append" apos) [e] [] ppos) (tBM X.K "list" rAppend to ta) := by exact fun a b => pe_bm PySem.F.plainAttrs_list PySem.F.slot_list_append PySem.F.type_list_append mt_append a b) :
    W3 X B (.Expr (.Call (.Attribute (.Name x np) "append" apos) [e] [] ppos) pos :: rest) Γ Ω E := fun F σ H S pins s I => by
  obtain ⟨v, e1, e2⟩ := S.sl i _ hΓ
  cases isR e2
  obtain ⟨fa, o0, ha, ho⟩ := S.own _ hm
  obtain ⟨xs0, rfl⟩ := hw F o0 (ho F (Same.refl _))
  refine pss_cons (hs (hp (pe_var hi hv hd hcd) (pa_cons pe_w pa_nil hst))) pss_w pins s σ H _ I ⟨_, e1, .inl ⟨rfl, _, SqL.of ha⟩, (h F σ H S).mono fun y H1 ⟨d, Ω1, F1, S1, f1, i1, ds, Ω2, pm, hz, h1⟩ => ?_⟩
  have S2 := S1.perm pm.symm
  obtain ⟨fa', o', ha', ho'⟩ := S2.own (l, oLst X.K ds) (by simp)
  obtain ⟨xs, rfl, il⟩ := ho' F1 (Same.refl _)
  exact ⟨l, xs, y, rfl, rfl, ha', by rw [il.len]; exact hz, to_mono f1 (h1 F1 σ _ (S2.turn fun F2 e2 => ⟨_, rfl, (il.mono e2).append (IsL.cons (i1.mono e2) IsL.nil)⟩))⟩
end
end L3
set_option Elab.async false
set_option linter.all false
set_option maxRecDepth 100000
set_option maxHeartbeats 4000000
namespace L3
open PySem PySem.Spec PySem.Calls PyProof.Rows L2
def sh (q : Rat) : D := .tup [.int q.num, .int (q.den : Int)]
def Sz (n : Nat) (q : Rat) : Prop := q.num.natAbs < 2 ^ n ∧ q.den < 2 ^ n
theorem Sz.mono {m n : Nat} {q : Rat} (h : Sz m q) (l : m ≤ n) : Sz n q :=
  ⟨Nat.lt_of_lt_of_le h.1 (Nat.pow_le_pow_right (by decide) l), Nat.lt_of_lt_of_le h.2 (Nat.pow_le_pow_right (by decide) l)⟩
theorem bits_abs {x : Int} {n : Nat} (h : x.natAbs < 2 ^ n) : Builtin.Int.intBits x ≤ n := PySem.intBits_le_iff.mpr h
theorem mul_fit {a b : Int} {m n : Nat} (ha : a.natAbs < 2 ^ m) (hb : b.natAbs < 2 ^ n) (h : m + n ≤ 134217728) : IntMulOk a b := PySem.IntMulOk.of_le (bits_abs ha) (bits_abs hb) h
theorem pow_add' (m n : Nat) : 2 ^ (m + n) = 2 ^ m * 2 ^ n := Nat.pow_add 2 m n
theorem abs_mul_lt {a b : Int} {m n : Nat} (ha : a.natAbs < 2 ^ m) (hb : b.natAbs < 2 ^ n) : (a * b).natAbs < 2 ^ (m + n) := by
  rw [Int.natAbs_mul, pow_add']
  exact Nat.mul_lt_mul'' ha hb
theorem sz_divInt {t b : Int} {n : Nat} (hb : 0 < b) (h1 : t.natAbs < 2 ^ n) (h2 : b.natAbs < 2 ^ n) : Sz n (Rat.divInt t b) := by
  constructor
  · rw [Rat.num_divInt, Int.sign_eq_one_of_pos hb, Int.one_mul]
    refine Nat.lt_of_le_of_lt ?_ h1
    rw [Int.natAbs_ediv_of_dvd (Int.gcd_dvd_right _ _)]
    exact Nat.div_le_self _ _
  · rw [Rat.den_divInt, if_neg (by omega)]
    exact Nat.lt_of_le_of_lt (Nat.div_le_self _ _) h2
theorem sz_add {m n : Nat} {p q : Rat} (hp : Sz m p) (hq : Sz n q) : Sz (m + n + 1) (p + q) := by
  rw [← My.q_add]
  have a1 := abs_mul_lt hp.1 (show (q.den : Int).natAbs < 2 ^ n from hq.2)
  have a2 := abs_mul_lt hq.1 (show (p.den : Int).natAbs < 2 ^ m from hp.2)
  have a3 := abs_mul_lt (show (p.den : Int).natAbs < 2 ^ m from hp.2) (show (q.den : Int).natAbs < 2 ^ n from hq.2)
  rw [Nat.add_comm n m] at a2
  have e : 2 ^ (m + n + 1) = 2 ^ (m + n) + 2 ^ (m + n) := by rw [Nat.pow_succ]; omega
  refine sz_divInt (Int.mul_pos (My.den_pos' p) (My.den_pos' q)) ?_ ?_
  · rw [e]
    refine Nat.lt_of_le_of_lt (Int.natAbs_add_le _ _) ?_
    omega
  · rw [e]; omega
theorem sz_sub {m n : Nat} {p q : Rat} (hp : Sz m p) (hq : Sz n q) : Sz (m + n + 1) (p - q) := by
  rw [← My.q_sub]
  have a1 := abs_mul_lt hp.1 (show (q.den : Int).natAbs < 2 ^ n from hq.2)
  have a2 := abs_mul_lt hq.1 (show (p.den : Int).natAbs < 2 ^ m from hp.2)
  have a3 := abs_mul_lt (show (p.den : Int).natAbs < 2 ^ m from hp.2) (show (q.den : Int).natAbs < 2 ^ n from hq.2)
  rw [Nat.add_comm n m] at a2
  have e : 2 ^ (m + n + 1) = 2 ^ (m + n) + 2 ^ (m + n) := by rw [Nat.pow_succ]; omega
  refine sz_divInt (Int.mul_pos (My.den_pos' p) (My.den_pos' q)) ?_ ?_
  · rw [e]
    refine Nat.lt_of_le_of_lt (Int.natAbs_sub_le _ _) ?_
    omega
  · rw [e]; omega
theorem sz_mul {m n : Nat} {p q : Rat} (hp : Sz m p) (hq : Sz n q) : Sz (m + n) (p * q) := by
  rw [← My.q_mul]
  exact sz_divInt (Int.mul_pos (My.den_pos' p) (My.den_pos' q)) (abs_mul_lt hp.1 hq.1) (abs_mul_lt (show (p.den : Int).natAbs < 2 ^ m from hp.2) (show (q.den : Int).natAbs < 2 ^ n from hq.2))
theorem sz_div {m n : Nat} {p q : Rat} (hp : Sz m p) (hq : Sz n q) (h0 : 0 < q) : Sz (m + n) (p / q) := by
  rw [← My.q_div]
  exact sz_divInt (Int.mul_pos (My.den_pos' p) (My.q_num_pos h0)) (abs_mul_lt hp.1 (show (q.den : Int).natAbs < 2 ^ n from hq.2)) (abs_mul_lt (show (p.den : Int).natAbs < 2 ^ m from hp.2) hq.1)
theorem sz_0 : Sz 1 0 := by constructor <;> decide
theorem sz_1 : Sz 1 1 := by constructor <;> decide
theorem q_nn_add {p q : Rat} (a : 0 ≤ p) (b : 0 ≤ q) : 0 ≤ p + q := by grind
theorem q_nn_mul {p q : Rat} (a : 0 ≤ p) (b : 0 ≤ q) : 0 ≤ p * q := Rat.mul_nonneg a b
theorem q_nn_div {p q : Rat} (a : 0 ≤ p) (b : 0 < q) : 0 ≤ p / q := by
  rw [Rat.div_def]
  exact Rat.mul_nonneg a (Rat.le_of_lt (Rat.inv_pos.mpr b))
theorem q_lt1 {q : Rat} : q.num < (q.den : Int) ↔ q < 1 := by
  have h := Rat.lt_iff q 1
  rw [show (1 : Rat).num = 1 from rfl, show (1 : Rat).den = 1 from rfl] at h
  rw [h]
  omega
abbrev big : Nat := 67108864
def C_gcd : List D → D → Prop := fun ds d => ∃ a b : Int, ds = [.int a, .int b] ∧ d = .int (My.G a b) ∧ 0 ≤ a ∧ 0 ≤ b
def C_share : List D → D → Prop := fun ds d => ∃ t b : Int, ds = [.int t, .int b] ∧ d = sh (Rat.divInt t b) ∧ 0 ≤ t ∧ 0 < b
def C_op (f : Rat → Rat → Rat) (C : Rat → Rat → Prop) : List D → D → Prop := fun ds d => ∃ (p q : Rat) (m n : Nat), ds = [sh p, sh q] ∧ d = sh (f p q) ∧ 0 ≤ p ∧ 0 ≤ q ∧ Sz m p ∧ Sz n q ∧ m ≤ big ∧ n ≤ big ∧ C p q
abbrev C_added := C_op (fun p q => p + q) fun _ _ => True
abbrev C_timed := C_op (fun p q => p * q) fun _ _ => True
abbrev C_lessened := C_op (fun p q => p - q) fun p q => q ≤ p
abbrev C_parted := C_op (fun p q => p / q) fun _ q => 0 < q
def C_less : List D → D → Prop := fun ds d => ∃ (p q : Rat) (m n : Nat), ds = [sh p, sh q] ∧ d = .bl (decide (p < q)) ∧ Sz m p ∧ Sz n q ∧ m ≤ big ∧ n ≤ big
theorem den_abs {q : Rat} {n : Nat} (h : Sz n q) : ((q.den : Int)).natAbs < 2 ^ n := h.2
theorem fit_nd {p q : Rat} {m n : Nat} (hp : Sz m p) (hq : Sz n q) (h1 : m ≤ big) (h2 : n ≤ big) : IntMulOk p.num q.den := mul_fit hp.1 (den_abs hq) (by have : big = 67108864 := rfl; omega)
theorem fit_nn {p q : Rat} {m n : Nat} (hp : Sz m p) (hq : Sz n q) (h1 : m ≤ big) (h2 : n ≤ big) : IntMulOk p.num q.num := mul_fit hp.1 hq.1 (by have : big = 67108864 := rfl; omega)
theorem fit_dd {p q : Rat} {m n : Nat} (hp : Sz m p) (hq : Sz n q) (h1 : m ≤ big) (h2 : n ≤ big) : IntMulOk p.den q.den := mul_fit (den_abs hp) (den_abs hq) (by have : big = 67108864 := rfl; omega)
theorem sh_inj {p q : Rat} (h : sh p = sh q) : p = q := by
  unfold sh at h
  simp only [D.tup.injEq, List.cons.injEq, D.int.injEq, and_true] at h
  exact My.q_inj h.1 h.2
theorem beq_sh {p q : Rat} : beqD (sh p) (sh q) = decide (p = q) := by
  by_cases h : p = q
  · subst h
    rw [beqD_refl (by rfl)]
    simp
  · rw [beqD_ne (fun z => h (sh_inj z)), decide_eq_false h]
theorem kin_sh {p q : Rat} : kin (sh p) (sh q) = true := by rfl
theorem dep_sh {p : Rat} : dep (sh p) ≤ 60 := by
  show max 0 (max 0 0) + 1 ≤ 60
  decide
def oDice : Ow := fun _ o => ∃ x : Int, o = .lst [.int x] ∧ 0 ≤ x ∧ x < 2147483647
def spRoll : Sp := fun vs H Q _ => ∃ (a : Addr) (m x : Int), vs = [.ref a, .int m] ∧ 0 < m ∧ m < 1073741824 ∧ H a = some (.lst [.int x]) ∧ 0 ≤ x ∧ x < 2147483647 ∧ ∀ x' r : Int, 0 ≤ x' → x' < 2147483647 → 0 ≤ r → r < m → Q (.int r) (upd H a (.lst [.int x']))
theorem v_roll {X : Cx} {B : Bs} {Γ : Ga} {Ω : Om} {x : Str} {ps : List Str} {k : Nat} {a b : Expr} {p pos : Pos} {l : Addr} {m : Int} {R : D → Om → Prop} (o : OkF X.prog X.w X.K X.mg X.base CX0 k x ps spRoll) (hr : Room k X.A) (hg : Gl X x) (ha : P3 X Γ a (.raw (.ref l))) (hm : (l, oDice) ∈ Ω) (hb : P3 X Γ b (.int m)) (h1 : 0 < m) (h2 : m < 1073741824)
    (h : ∀ r : Int, 0 ≤ r → r < m → R (.int r) Ω) (hdb : (x == ("__debug__" : Str)) = false := by decide)
    (he : starEach [a, b] X.env = (false, eval a X.env) :: starEach [b] X.env := by rfl) (he2 : starEach [b] X.env = (false, eval b X.env) :: starEach [] X.env := by rfl) (hpl : (backTo pos (starEach [b] X.env)).any (·.1) = false := by rfl) : V3 X B (.Call (.Name x p) [a, b] [] pos) Γ Ω R := fun F σ H S pins s I =>
  pe_fn o hr hg (pl_cons ha (pl_cons hb pl_nil he2) he) hdb he hpl pins s σ H _ I ⟨F, S.fh, S.sl, fun vs H' F' pu i => by
    dsimp only
    rw [List.append_nil]
    obtain ⟨x, y, rfl, i1, i2⟩ := isL2 i
    cases isR i1
    cases isI i2
    have S1 := S.pur pu
    obtain ⟨fa, o', ha', ho⟩ := S1.own _ hm
    obtain ⟨x0, rfl, b1, b2⟩ := ho F' (Same.refl _)
    exact ⟨l, m, x0, rfl, h1, h2, ha', b1, b2, fun x' r c1 c2 c3 c4 => ⟨.int r, Ω, F', S1.turnIn hm (fun F2 _ => ⟨x', rfl, c1, c2⟩), pu.ff, i_int F', h r c3 c4⟩⟩⟩
def GlobD (K : PySem.W.Frag) (mg : Str → Option Value) (x : Str) (d : D) : Prop := ∃ (v : V) (u : Value), mg x = some u ∧ RelV v u ∧ ∀ F, Is K F d v
theorem p_globD {X : Cx} {Γ : Ga} {x : Str} {d : D} {pos : Pos} (h : GlobD X.K X.mg x d) (hg : Gl X x) (hd : (x == ("__debug__" : Str)) = false := by decide) : P3 X Γ (.Name x pos) d := by
  obtain ⟨v, u, hm, r, i⟩ := h
  exact p_glob hg hm r i hd
structure Zs (mg : Str → Option Value) : Prop where
  len : mg "len" = none
  range : mg "range" = none
  list : mg "list" = none
  tuple : mg "tuple" = none
  int : mg "int" = none
  bool : mg "bool" = none
  str : mg "str" = none
  dict : mg "dict" = none
  isinstance : mg "isinstance" = none
  sum : mg "sum" = none
  enumerate : mg "enumerate" = none
  zip : mg "zip" = none
  ValueError : mg "ValueError" = none
  all : mg "all" = none
  any : mg "any" = none
  reversed : mg "reversed" = none
theorem emod_in {a b : Int} (p : 0 < b) : 0 ≤ a % b ∧ a % b < b := ⟨Int.emod_nonneg a (by omega), Int.emod_lt_of_pos a p⟩
theorem G_turnE {a b : Int} (ha : 0 ≤ a) (hb : 0 < b) : My.G b (a % b) = My.G a b := by
  rw [← Int.fmod_eq_emod_of_nonneg a (Int.le_of_lt hb)]
  exact My.G_turn ha hb
theorem dd_pos {p q : Rat} : (0 : Int) < p.den * q.den := Int.mul_pos (My.den_pos' p) (My.den_pos' q)
theorem sum_nn {p q : Rat} (hp : 0 ≤ p) (hq : 0 ≤ q) : 0 ≤ p.num * q.den + q.num * p.den :=
  Int.add_nonneg (Int.mul_nonneg (My.q_num_nn hp) (Int.le_of_lt (My.den_pos' q))) (Int.mul_nonneg (My.q_num_nn hq) (Int.le_of_lt (My.den_pos' p)))
theorem sub_nn {p q : Rat} (h : q ≤ p) : 0 ≤ p.num * q.den - q.num * p.den := by
  have := (Rat.le_iff q p).mp h
  omega
theorem p_eq {X : Cx} {Γ : Ga} {e : Expr} {d d' : D} (h : P3 X Γ e d') (q : d' = d) : P3 X Γ e d := q ▸ h
def C_cell : List D → D → Prop := fun ds d => ∃ (ns : List Int) (k : Nat), ds = [.scr ns, .int (k : Int)] ∧ d = .int (ns.getD k 0)
def C_whole : List D → D → Prop := fun ds d => ∃ i : Int, ds = [.int i] ∧ d = .bl true
def C_isShare : List D → D → Prop := fun ds d => ∃ q : Rat, ds = [sh q] ∧ d = .bl true ∧ 0 ≤ q
def spDice : Sp := fun vs H Q _ => ∃ c : Int, vs = [.int c] ∧ ∀ (p : Addr) (x : Int), H p = none → 0 ≤ x → x < 2147483647 → Q (.ref p) (upd H p (.lst [.int x]))
theorem mul_small {a b : Int} (h : b.natAbs < 2 ^ 64) : IntMulOk a b := IntMulOk.of_right (bits_abs h)
theorem v_dice {X : Cx} {B : Bs} {Γ : Ga} {Ω : Om} {x : Str} {ps : List Str} {k : Nat} {a : Expr} {p pos : Pos} {c : Int} {R : D → Om → Prop} (o : OkF X.prog X.w X.K X.mg X.base CX0 k x ps spDice) (hr : Room k X.A) (hg : Gl X x) (ha : P3 X Γ a (.int c)) (h : ∀ l, R (.raw (.ref l)) ((l, oDice) :: Ω)) (hdb : (x == ("__debug__" : Str)) = false := by decide)
    (he : starEach [a] X.env = (false, eval a X.env) :: starEach [] X.env := by rfl) : V3 X B (.Call (.Name x p) [a] [] pos) Γ Ω R := fun F σ H S pins s I =>
  pe_fn o hr hg (pl_cons ha pl_nil he) hdb he (by rfl) pins s σ H _ I ⟨F, S.fh, S.sl, fun vs H' F' pu i => by
    dsimp only
    rw [List.append_nil]
    obtain ⟨y, rfl, i1⟩ := isL1 i
    cases isI i1
    refine ⟨c, rfl, fun l x0 hl b1 b2 => ⟨.raw (.ref l), (l, oDice) :: Ω, F', ?_, pu.ff, i_raw F', h l⟩⟩
    exact S.new (pu.trans (Pur.layOwn pu.fh hl)) (pu.hh.free hl) (pu.fh.free hl) upd_same fun F2 _ => ⟨x0, rfl, b1, b2⟩⟩
end L3
set_option Elab.async false
set_option linter.all false
set_option maxRecDepth 100000
set_option maxHeartbeats 4000000
namespace L3
open PySem PySem.Spec PySem.Calls PyProof.Rows L2
def sumR : Nat → (Nat → Rat) → Rat
  | 0, _ => 0
  | n + 1, f => sumR n f + f n
theorem sumR_congr {n : Nat} {f g : Nat → Rat} (h : ∀ j, j < n → f j = g j) : sumR n f = sumR n g := by
  induction n with
  | zero => rfl
  | succ n ih => rw [sumR, sumR, ih (fun j hj => h j (by omega)), h n (by omega)]
theorem sumR_add {n : Nat} {f g : Nat → Rat} : sumR n (fun j => f j + g j) = sumR n f + sumR n g := by
  induction n with
  | zero => simp only [sumR]; grind
  | succ n ih => rw [sumR, sumR, sumR, ih]; grind
theorem sumR_mul {n : Nat} {c : Rat} {f : Nat → Rat} : sumR n (fun j => c * f j) = c * sumR n f := by
  induction n with
  | zero => simp only [sumR]; grind
  | succ n ih => rw [sumR, sumR, ih]; grind
theorem sumR_zero {n : Nat} {f : Nat → Rat} (h : ∀ j, j < n → f j = 0) : sumR n f = 0 := by
  induction n with
  | zero => rfl
  | succ n ih => rw [sumR, ih (fun j hj => h j (by omega)), h n (by omega)]; grind
theorem sumR_but {n k : Nat} {f : Nat → Rat} (hk : k < n) : sumR n (fun j => if j = k then 0 else f j) = sumR n f - f k := by
  induction n with
  | zero => omega
  | succ n ih =>
    rw [sumR, sumR]
    by_cases h : k = n
    · subst h
      rw [if_pos rfl, sumR_congr (g := f) fun j hj => if_neg (by omega)]
      grind
    · rw [if_neg (fun z => h z.symm), ih (by omega)]
      grind
def tb {α : Type} (n : Nat) (f : Nat → α) : List α := (List.range n).map f
theorem tb_get {α : Type} {n k : Nat} {f : Nat → α} (h : k < n) : (tb n f)[k]? = some (f k) := by
  unfold tb
  rw [List.getElem?_map, List.getElem?_range h]
  rfl
theorem tb_len {α : Type} {n : Nat} {f : Nat → α} : (tb n f).length = n := by unfold tb; simp
theorem tb_congr {α : Type} {n : Nat} {f g : Nat → α} (h : ∀ j, j < n → f j = g j) : tb n f = tb n g := List.map_congr_left fun j hj => h j (List.mem_range.mp hj)
theorem tb_take {α : Type} {n k : Nat} {f : Nat → α} (h : k ≤ n) : (tb n f).take k = tb k f := by
  unfold tb
  rw [← List.map_take, List.take_range, Nat.min_eq_left h]
theorem tb_succ {α : Type} {n : Nat} {f : Nat → α} : tb (n + 1) f = tb n f ++ [f n] := by
  unfold tb
  rw [List.range_succ, List.map_append]
  rfl
theorem tb_set {α : Type} {n k : Nat} {f : Nat → α} {x : α} : (tb n f).set k x = tb n fun j => if j = k then x else f j := by
  refine List.ext_getElem? fun i => ?_
  by_cases h : i < n
  · rw [tb_get h, List.getElem?_set]
    by_cases hk : k = i
    · subst hk
      rw [if_pos rfl, if_pos rfl, if_pos (by rw [tb_len]; exact h)]
    · rw [if_neg hk, tb_get h, if_neg (fun z => hk z.symm)]
  · rw [List.getElem?_eq_none_iff.mpr (by rw [List.length_set, tb_len]; omega), List.getElem?_eq_none_iff.mpr (by rw [tb_len]; omega)]
theorem tb_mapIdx {α β : Type} {n : Nat} {f : Nat → α} {g : Nat → α → β} : (tb n f).mapIdx g = tb n fun j => g j (f j) := by
  refine List.ext_getElem? fun i => ?_
  rw [List.getElem?_mapIdx]
  by_cases h : i < n
  · rw [tb_get h, tb_get h]; rfl
  · rw [List.getElem?_eq_none_iff.mpr (by rw [tb_len]; omega), List.getElem?_eq_none_iff.mpr (by rw [tb_len]; omega)]; rfl
theorem tb_zip {α β : Type} {n : Nat} {f : Nat → α} {g : Nat → β} : (tb n f).zip (tb n g) = tb n fun j => (f j, g j) := by
  refine List.ext_getElem? fun i => ?_
  by_cases h : i < n
  · rw [tb_get h]
    exact List.getElem?_zip_eq_some.mpr ⟨tb_get h, tb_get h⟩
  · rw [List.getElem?_eq_none_iff.mpr (by rw [List.length_zip, tb_len, tb_len]; omega), List.getElem?_eq_none_iff.mpr (by rw [tb_len]; omega)]
theorem atI_tb {α : Type} {n k : Nat} {f : Nat → α} (h : k < n) : atI (tb n f) (k : Int) = some (f k) := by
  unfold atI ixN
  rw [tb_len, if_pos (by omega), if_pos (by omega)]
  show (tb n f)[((k : Int)).toNat]? = _
  rw [Int.toNat_natCast]
  exact tb_get h
theorem ixN_nat {n k : Nat} (h : k < n) : ixN n (k : Int) = some k := by
  unfold ixN
  rw [if_pos (by omega), if_pos (by omega), Int.toNat_natCast]
def shR (m : Nat) (f : Nat → Rat) : D := .lst (tb m fun j => sh (f j))
def shM (n m : Nat) (E : Nat → Nat → Rat) : D := .lst (tb n fun i => shR m (E i))
theorem shR_congr {m : Nat} {f g : Nat → Rat} (h : ∀ j, j < m → f j = g j) : shR m f = shR m g := by
  unfold shR
  rw [tb_congr fun j hj => by rw [h j hj]]
def stpE (E : Nat → Nat → Rat) (k : Nat) : Nat → Nat → Rat := fun i j =>
  if i = k then (if j = k then 0 else E k j / (1 - E k k)) else (if j = k then 0 else E i j + E i k * (E k j / (1 - E k k)))
def EK (E : Nat → Nat → Rat) : Nat → Nat → Nat → Rat
  | 0 => E
  | k + 1 => stpE (EK E k) k
def Good (n m s : Nat) (E : Nat → Nat → Rat) : Prop := ∀ i j, i < n → j < m → 0 ≤ E i j ∧ Sz s (E i j)
theorem sub1_pos {q : Rat} (h : q < 1) : 0 < 1 - q := by grind
theorem Good.step {n m s k : Nat} {E : Nat → Nat → Rat} (h : Good n m s E) (hk : k < n) (hm : k < m) (h1 : E k k < 1) : Good n m (4 * s + 3) (stpE E k) := fun i j hi hj => by
  have a := h k k hk hm
  have b := h k j hk hj
  have c := h i j hi hj
  have e := h i k hi hm
  have p := sub1_pos h1
  have z : Sz (4 * s + 3) (0 : Rat) := sz_0.mono (by omega)
  have g0 : 0 ≤ E k j / (1 - E k k) := q_nn_div b.1 p
  have gs : Sz (s + (1 + s + 1)) (E k j / (1 - E k k)) := sz_div b.2 (sz_sub sz_1 a.2) p
  unfold stpE
  by_cases h1 : i = k
  · rw [if_pos h1]
    by_cases h2 : j = k
    · rw [if_pos h2]; exact ⟨by decide, z⟩
    · rw [if_neg h2]; exact ⟨g0, gs.mono (by omega)⟩
  · rw [if_neg h1]
    by_cases h2 : j = k
    · rw [if_pos h2]; exact ⟨by decide, z⟩
    · rw [if_neg h2]
      exact ⟨q_nn_add c.1 (q_nn_mul e.1 g0), (sz_add c.2 (sz_mul e.2 gs)).mono (by omega)⟩
def Piv (n : Nat) (E : Nat → Nat → Rat) : Prop := ∀ k, k < n → EK E k k k < 1
def sK (s : Nat) : Nat → Nat
  | 0 => s
  | k + 1 => 4 * sK s k + 3
theorem sK_mono {s j k : Nat} (h : j ≤ k) : sK s j ≤ sK s k := by
  induction k with
  | zero => rw [Nat.le_zero.mp h]; exact Nat.le_refl _
  | succ k ih =>
    rcases Nat.lt_or_ge j (k + 1) with h1 | h1
    · have := ih (by omega)
      rw [sK]; omega
    · rw [show j = k + 1 by omega]; exact Nat.le_refl _
theorem Good.at {n m s : Nat} {E : Nat → Nat → Rat} (h : Good n m s E) (hm : n ≤ m) : ∀ k, k ≤ n → (∀ j, j < k → EK E j j j < 1) → Good n m (sK s k) (EK E k)
  | 0, _, _ => h
  | k + 1, hk, hp => (Good.at h hm k (by omega) fun j hj => hp j (by omega)).step (by omega) (by omega) (hp k (by omega))
theorem EK_zero {E : Nat → Nat → Rat} : ∀ k i j, j < k → EK E k i j = 0
  | 0, _, _, h => by omega
  | k + 1, i, j, h => by
    rw [EK]
    unfold stpE
    by_cases h2 : j = k
    · rw [if_pos h2, if_pos h2]; simp
    · rw [if_neg h2, if_neg h2, EK_zero k k j (by omega), EK_zero k i j (by omega)]
      split <;> grind
def Slv (n : Nat) (E : Nat → Nat → Rat) (x : Nat → Rat) : Prop := ∀ i, i < n → x i = sumR n (fun j => E i j * x j) + E i n
theorem Slv.back {n k : Nat} {E : Nat → Nat → Rat} {x : Nat → Rat} (hk : k < n) (h1 : E k k < 1) (h : Slv n (stpE E k) x) : Slv n E x := by
  have p := sub1_pos h1
  have ne : 1 - E k k ≠ 0 := by grind
  have hn : ¬ n = k := by omega
  have row : ∀ c : Nat → Rat, sumR n (fun j => (if j = k then 0 else c j) * x j) = sumR n (fun j => c j * x j) - c k * x k := fun c => by
    rw [← sumR_but (f := fun j => c j * x j) hk]
    refine sumR_congr fun j _ => ?_
    by_cases hj : j = k
    · rw [if_pos hj, if_pos hj]; grind
    · rw [if_neg hj, if_neg hj]
  have g : sumR n (fun j => E k j / (1 - E k k) * x j) = sumR n (fun j => E k j * x j) / (1 - E k k) := by
    have : sumR n (fun j => E k j / (1 - E k k) * x j) = sumR n (fun j => (1 / (1 - E k k)) * (E k j * x j)) := sumR_congr fun j _ => by grind
    rw [this, sumR_mul]
    grind
  have hx : x k = sumR n (fun j => E k j * x j) + E k n := by
    have e := h k hk
    have e1 : (fun j => stpE E k k j * x j) = fun j => (if j = k then 0 else E k j / (1 - E k k)) * x j := by
      funext j; unfold stpE; rw [if_pos rfl]
    have e2 : stpE E k k n = E k n / (1 - E k k) := by unfold stpE; rw [if_pos rfl, if_neg hn]
    rw [e1, e2, row (fun j => E k j / (1 - E k k)), g] at e
    grind
  intro i hi
  by_cases hik : i = k
  · subst hik; exact hx
  · have e := h i hi
    have e1 : (fun j => stpE E k i j * x j) = fun j => (if j = k then 0 else E i j + E i k * (E k j / (1 - E k k))) * x j := by
      funext j; unfold stpE; rw [if_neg hik]
    have e2 : stpE E k i n = E i n + E i k * (E k n / (1 - E k k)) := by unfold stpE; rw [if_neg hik, if_neg hn]
    have e3 : sumR n (fun j => (E i j + E i k * (E k j / (1 - E k k))) * x j) = sumR n (fun j => E i j * x j) + E i k * (sumR n (fun j => E k j * x j) / (1 - E k k)) := by
      rw [← g, ← sumR_mul, ← sumR_add]
      exact sumR_congr fun j _ => by grind
    rw [e1, e2, row (fun j => E i j + E i k * (E k j / (1 - E k k))), e3] at e
    grind
theorem Slv.all {n : Nat} {E : Nat → Nat → Rat} (hp : Piv n E) : Slv n E fun i => EK E n i n := by
  have last : Slv n (EK E n) fun i => EK E n i n := fun i hi => by
    rw [sumR_zero fun j hj => by rw [EK_zero n i j hj]; grind]
    grind
  have go : ∀ k, k ≤ n → Slv n (EK E (n - k)) fun i => EK E n i n := fun k => by
    induction k with
    | zero => intro _; exact last
    | succ k ih =>
      intro hk
      have e := ih (by omega)
      rw [show n - k = (n - (k + 1)) + 1 by omega, EK] at e
      exact Slv.back (by omega) (hp _ (by omega)) e
  have := go n (Nat.le_refl _)
  rwa [Nat.sub_self] at this
theorem EK_cols {n : Nat} {E E' : Nat → Nat → Rat} (h : ∀ i j, i < n → j < n → E i j = E' i j) : ∀ k, k ≤ n → ∀ i j, i < n → j < n → EK E k i j = EK E' k i j
  | 0, _, i, j, hi, hj => h i j hi hj
  | k + 1, hk, i, j, hi, hj => by
    have ih := EK_cols h k (by omega)
    rw [EK, EK]
    unfold stpE
    rw [ih k j (by omega) hj, ih k k (by omega) (by omega), ih i j hi hj, ih i k hi (by omega)]
def LK (W : Nat → Nat → Rat) : Nat → Nat → Nat → Rat
  | 0 => W
  | a + 1 => fun i j => if a < i ∧ a < j then LK W a i j + (LK W a i a * (1 / (1 - LK W a a a))) * LK W a a j else LK W a i j
theorem LK_EK {W : Nat → Nat → Rat} : ∀ a i j, a ≤ i → a ≤ j → LK W a i j = EK W a i j
  | 0, _, _, _, _ => rfl
  | a + 1, i, j, hi, hj => by
    rw [LK, EK]
    unfold stpE
    dsimp only
    rw [if_pos ⟨by omega, by omega⟩, if_neg (by omega), if_neg (by omega), LK_EK a i j (by omega) (by omega), LK_EK a i a (by omega) (by omega), LK_EK a a a (by omega) (by omega), LK_EK a a j (by omega) (by omega)]
    grind
def nnR (m s : Nat) (f : Nat → Rat) : Prop := ∀ j, j < m → 0 ≤ f j ∧ Sz s (f j)
def C_cleared : List D → D → Prop := fun ds d => ∃ (m k : Nat) (f : Nat → Rat), ds = [shR m f, .int k] ∧ d = shR m (fun j => if j = k then 0 else f j) ∧ k < m ∧ m ≤ 10000
def C_without : List D → D → Prop := fun ds d => ∃ (m k s : Nat) (f : Nat → Rat), ds = [shR m f, .int k] ∧ d = shR m (fun j => if j = k then 0 else f j / (1 - f k)) ∧ k < m ∧ m ≤ 10000 ∧ nnR m s f ∧ 4 * s + 3 ≤ big ∧ f k < 1
def C_put : List D → D → Prop := fun ds d => ∃ (m k s : Nat) (f g : Nat → Rat), ds = [shR m f, .int k, shR m g] ∧ d = shR m (fun j => if j = k then 0 else f j + f k * g j) ∧ k < m ∧ m ≤ 10000 ∧ nnR m s f ∧ nnR m (2 * s + 2) g ∧ 4 * s + 3 ≤ big ∧ g k = 0
def wE (n : Nat) (W : Nat → Nat → Rat) (e : Nat → Rat) : Nat → Nat → Rat := fun i j => if j < n then W i j else e i
def SysOk (n s : Nat) (W : Nat → Nat → Rat) (e : Nat → Rat) : Prop := n ≤ 1000 ∧ Good n n s W ∧ nnR n s e ∧ sK s n ≤ big
def C_solved : List D → D → Prop := fun ds d => ∃ (n s : Nat) (W : Nat → Nat → Rat) (e : Nat → Rat), ds = [shM n n W, shR n e] ∧ d = shR n (fun i => EK (wE n W e) n i n) ∧ SysOk n s W e ∧ Piv n W
def C_solvedX (c : Addr) : List D → Addr → Prop := fun ds c' => c' = c ∧ ∃ (n s : Nat) (W : Nat → Nat → Rat) (e : Nat → Rat), ds = [shM n n W, shR n e] ∧ SysOk n s W e ∧ ¬ Piv n W
def C_withoutX (c : Addr) : List D → Addr → Prop := fun ds c' => c' = c ∧ ∃ (m k s : Nat) (f : Nat → Rat), ds = [shR m f, .int k] ∧ k < m ∧ m ≤ 10000 ∧ nnR m s f ∧ s ≤ big ∧ ¬ f k < 1
end L3
namespace L3
open PySem PySem.Spec PySem.Calls PyProof.Rows L2
theorem sIx_nat' {n d k : Nat} (h : k ≤ n) : HT.sIx n d (some (k : Int)) = k := by rw [HT.sIx_nat]; omega
theorem cut_take {ds : List D} {k : Nat} (h : k ≤ ds.length) : cutD ds none (some (k : Int)) = ds.take k := by
  unfold cutD
  rw [HT.sIx_none, sIx_nat' h]
  simp
theorem cut_drop {ds : List D} {k : Nat} (h : k ≤ ds.length) : cutD ds (some (k : Int)) none = ds.drop k := by
  unfold cutD
  rw [HT.sIx_none, sIx_nat' h, List.take_of_length_le (by rw [List.length_drop]; omega)]
theorem clr_eq {α : Type} {m k : Nat} {f : Nat → α} {x : α} (h : k < m) : (tb m f).take k ++ [x] ++ (tb m f).drop (k + 1) = tb m fun j => if j = k then x else f j := by
  rw [← tb_set, List.set_eq_take_append_cons_drop, if_pos (by rw [tb_len]; exact h)]
  simp
theorem cut_tbT {m k : Nat} {f : Nat → D} (h : k ≤ m) : cutD (tb m f) none (some (k : Int)) = (tb m f).take k := cut_take (by rw [tb_len]; exact h)
theorem cut_tbD {m k : Nat} {f : Nat → D} (h : k + 1 ≤ m) : cutD (tb m f) (some ((k : Int) + 1)) none = (tb m f).drop (k + 1) := by
  rw [show ((k : Int) + 1) = ((k + 1 : Nat) : Int) by omega, cut_drop (by rw [tb_len]; exact h)]
theorem tb_ite {m k : Nat} {f : Nat → Rat} {x : Rat} : (tb m fun j => if j = k then sh x else sh (f j)) = tb m fun j => sh (if j = k then x else f j) := tb_congr fun j _ => by
  by_cases h : j = k
  · rw [if_pos h, if_pos h]
  · rw [if_neg h, if_neg h]
end L3
namespace L3
open PySem PySem.Spec PySem.Calls PyProof.Rows L2
def nums (lo n : Nat) : List D := tb n fun j => .int ((lo + j : Nat) : Int)
theorem nums_len {lo n : Nat} : (nums lo n).length = n := tb_len
theorem nums_lt {lo n i : Nat} {d : D} (h : (nums lo n)[i]? = some d) : i < n ∧ d = .int ((lo + i : Nat) : Int) := by
  have hi := (List.getElem?_eq_some_iff.mp h).1
  rw [nums_len] at hi
  unfold nums at h
  rw [tb_get hi] at h
  cases h
  exact ⟨hi, rfl⟩
theorem rngD_nums {lo n : Nat} : rngD (lo : Int) n = nums lo n := by
  unfold rngD nums
  refine tb_congr fun j _ => ?_
  congr 1
theorem i_rangeN {X : Cx} {Γ : Ga} {tg a : Expr} {p pos : Pos} {j : Int} {n : Nat} (hm : X.mg "range" = none) (hg : Gl X "range") (ha : P3 X Γ a (.int j)) (hj : j = (n : Int)) (hn : n < 2 ^ 62) (hs : starEach [a] X.env = [(false, eval a X.env)] := by rfl) : I3 X Γ tg (.Call (.Name "range" p) [a] [] pos) (nums 0 n) := by
  subst hj
  have h := i_range1 (tg := tg) (p := p) (pos := pos) hm hg ha (by omega) (by omega) hs
  rw [Int.toNat_natCast, show (0 : Int) = ((0 : Nat) : Int) from rfl, rngD_nums] at h
  exact h
theorem good_wE {n s : Nat} {W : Nat → Nat → Rat} {e : Nat → Rat} (h : Good n n s W) (he : nnR n s e) : Good n (n + 1) s (wE n W e) := fun i j hi hj => by
  unfold wE
  by_cases q : j < n
  · rw [if_pos q]; exact h i j hi q
  · rw [if_neg q]; exact he i hi
theorem wE_cols {n : Nat} {W : Nat → Nat → Rat} {e : Nat → Rat} : ∀ i j, i < n → j < n → wE n W e i j = W i j := fun i j _ hj => by
  unfold wE
  rw [if_pos hj]
theorem piv_wE {n : Nat} {W : Nat → Nat → Rat} {e : Nat → Rat} (h : Piv n W) : Piv n (wE n W e) := fun k hk => by
  rw [EK_cols wE_cols k (by omega) k k hk hk]
  exact h k hk
end L3
set_option Elab.async false
set_option linter.all false
set_option maxRecDepth 100000
set_option maxHeartbeats 4000000
namespace L3
open PySem PySem.Spec PySem.Calls PyProof.Rows L2
def Q3 (X : Cx) (Γ : Ga) (Ω : Om) (e : Expr) (d : D) : Prop := ∀ (B : Bs) (R : D → Om → Prop), R d Ω → V3 X B e Γ Ω R
def QL3 (X : Cx) (Γ : Ga) (Ω : Om) (es : List Expr) (ds : List D) : Prop := ∀ (B : Bs) (R : List D → Om → Prop), R ds Ω → VL3 X B es Γ Ω R
section
variable {X : Cx} {B : Bs} {Γ : Ga} {Ω : Om} {E : E3} {rest body : List Stmt} {tg iter a b e : Expr} {es : List Expr} {d : D} {ds : List D} {pos pos' p : Pos} {RL : List D → Om → Prop} {RT : Bool → Om → Prop}
theorem q_p (h : P3 X Γ e d) : Q3 X Γ Ω e d := fun B R r => v_pure h r
theorem ql_nil : QL3 X Γ Ω [] [] := fun B R r => vl_pure pl_nil r
theorem ql_cons (h : Q3 X Γ Ω e d) (t : QL3 X Γ Ω es ds) (hs : starEach (e :: es) X.env = (false, eval e X.env) :: starEach es X.env := by rfl) : QL3 X Γ Ω (e :: es) (d :: ds) := fun B R r => vl_cons (h B _ (t B _ r)) hs
theorem q_call {n k : Nat} {C : List D → D → Prop} {x : Str} {ps : List Str} (o : OkF X.prog X.w X.K X.mg X.base CX0 k x ps (spP X.K n C)) (hr : Room k X.A) (hg : Gl X x) (h : QL3 X Γ Ω (e :: es) ds) (hC : C ds d) (hn : ds.length = n := by rfl) (hdb : (x == ("__debug__" : Str)) = false := by decide)
    (he : starEach (e :: es) X.env = (false, eval e X.env) :: starEach es X.env := by rfl) (hpl : (backTo pos (starEach es X.env)).any (·.1) = false := by rfl) : Q3 X Γ Ω (.Call (.Name x p) (e :: es) [] pos) d := fun B R r => v_call o hr hg (h B _ ⟨d, hC, hn, r⟩) hdb he hpl
theorem q_ix {l : Addr} {i : Int} (ha : Q3 X Γ Ω a (.raw (.ref l))) (hm : (l, oLst X.K ds) ∈ Ω) (hb : Q3 X Γ Ω b (.int i)) (he : atI ds i = some d) (hs : PlainIx b := by exact fun _ _ => rfl) : Q3 X Γ Ω (.Subscript a b pos) d := fun B R r => v_ixO (ha B _ ⟨l, rfl, hb B _ ⟨i, ds, d, rfl, hm, he, r⟩⟩) hs
theorem q_len {l : Addr} (hm : X.mg "len" = none) (hg : Gl X "len") (ha : Q3 X Γ Ω a (.raw (.ref l))) (m : (l, oLst X.K ds) ∈ Ω) (he : starEach [a] X.env = (false, eval a X.env) :: starEach [] X.env := by rfl) : Q3 X Γ Ω (.Call (.Name "len" p) [a] [] pos) (.int ds.length) := fun B R r => v_lenO hm hg (ha B _ ⟨l, ds, rfl, m, r⟩) he
theorem w_setQ {i : Nat} {x : Str} (hN : X.N.Nodup) (hi : X.N[i]? = some x) (hx : Loc X.env.scope x) (h : Q3 X Γ Ω e d) (hw : W3 X B rest (Γ.set i (some d)) Ω E) (hs : swapsWith e (some (.Name x pos')) pos.line X.env = pure false := by rfl)
    (hf : X.fn x = true ∨ X.env.scope.names.lookup x = some .local := by first | exact .inl rfl | exact .inr rfl | assumption) : W3 X B (.Assign [.Name x pos'] e pos :: rest) Γ Ω E := w_setV hN hi hx (h B _ hw) hs hf
theorem iv_rangeQ {j : Int} {n : Nat} (hm : X.mg "range" = none) (hg : Gl X "range") (ha : Q3 X Γ Ω a (.int j)) (hj : j = (n : Int)) (hn : n < 2 ^ 62) (r : RL (nums 0 n) Ω) (hs : starEach [a] X.env = [(false, eval a X.env)] := by rfl) : IV3 X B tg (.Call (.Name "range" p) [a] [] pos) Γ Ω RL :=
  iv_range1 hm hg (ha B _ ⟨j, rfl, by omega, by omega, by rw [hj, Int.toNat_natCast, show (0 : Int) = ((0 : Nat) : Int) from rfl, rngD_nums]; exact r⟩) hs
theorem iv_rangeQ2 {i j : Int} {lo n : Nat} (hm : X.mg "range" = none) (hg : Gl X "range") (ha : Q3 X Γ Ω a (.int i)) (hb : Q3 X Γ Ω b (.int j)) (hi : i = (lo : Int)) (hj : (j - i).toNat = n) (hn : lo < 2 ^ 61 ∧ -(2 ^ 61) ≤ j ∧ j < 2 ^ 61) (r : RL (nums lo n) Ω)
    (hs : starEach [a, b] X.env = [(false, eval a X.env), (false, eval b X.env)] := by rfl) (hs2 : starEach [b] X.env = [(false, eval b X.env)] := by rfl) : IV3 X B tg (.Call (.Name "range" p) [a, b] [] pos) Γ Ω RL := fun F σ H S pins s I =>
  pi_range2 hg hm (pa_cons pe_w (pa_cons pe_w pa_nil hs2) (hs.trans (by rw [hs2]))) hs hs2 pins s σ H _ I ((ha B (fun d Ω' => d = .int i ∧ Ω' = Ω) ⟨rfl, rfl⟩ F σ H S).mono fun v H1 ⟨d, Ω1, F1, S1, f1, i1, e1, o1⟩ => by
    subst e1 o1
    refine (hb B (fun d Ω' => d = .int j ∧ Ω' = Ω1) ⟨rfl, rfl⟩ F1 σ H1 S1).mono fun u H2 ⟨d, Ω2, F2, S2, f2, i2, e2, o2⟩ => ?_
    subst e2 o2
    refine ⟨i, j, by rw [isI (i1.mono f2), isI i2], ⟨by omega, by omega, by omega, by omega⟩, nums lo n, Ω2, F2, S2, f1.trans f2, ?_, r⟩
    have := walk_rng (K := X.K) (F0 := F2) (lo := i) (n := (j - i).toNat)
    rw [hj, hi, rngD_nums] at this
    rw [hj, hi]
    exact this)
theorem w_setitemQ {o i : Expr} {spos tpos : Pos} {l : Addr} {k : Int} {j : Nat} {Ω4 : Om} (he : Q3 X Γ Ω e d) (ho : Q3 X Γ Ω o (.raw (.ref l))) (hi : Q3 X Γ Ω i (.int k)) (pm : Ω.Perm ((l, oLst X.K ds) :: Ω4)) (hj : ixN ds.length k = some j) (h : W3 X B rest Γ ((l, oLst X.K (ds.set j d)) :: Ω4) E)
    (hs : swapsWithSole [.Subscript o i tpos] e spos.line X.env = pure false := by rfl) (hw : swappedStores [.Subscript o i tpos] e X.env = pure none := by rfl) (h1 : (assignEach [.Subscript o i tpos] X.env).map (·.2) = [assign (.Subscript o i tpos) X.env] := by rfl)
    (ha : ∀ v, assign (.Subscript o i tpos) X.env v = (do
      let ov ← holding [v] (eval o X.env)
      let iv ← holding [v, ov] (eval i X.env)
      standAt tpos
      holding [v, ov, iv] (setItem ov iv v)
      release [v, ov, iv] []) := by intro _; rfl) : W3 X B (.Assign [.Subscript o i tpos] e spos :: rest) Γ Ω E :=
  w_setitem (he B _ (ho B _ ⟨l, rfl, hi B _ ⟨k, j, ds, Ω4, rfl, pm, hj, h⟩⟩)) hs hw h1 ha
theorem compV_read {elt : Expr} {sc : Scope} {N : List Str} {nt : Nat} {caps : List Nat} {R : D → Om → Prop} {F : Hp} {σ : L2.St} {H : Hp} {Q : VK}
    (h : IV3 X B tg iter Γ Ω fun ds Ω1 => ∃ J : Nat → List D → Om → Prop, J 0 [] Ω1 ∧ (∀ i gs Ω', J i gs Ω' → gs.length < sizeLine) ∧
      (∀ c i d gs Ω', ds[i]? = some d → J i gs Ω' → ∃ Γ1, G3 (X.comp sc N c) tg (capG nt caps Γ) d Γ1 ∧ Sub (capG nt caps Γ) Γ1 ∧ ∀ q : Addr × Ow, V3 (X.comp sc N c) B elt Γ1 (q :: Ω') fun e Ω2 => ∃ Ω3, Ω2.Perm (q :: Ω3) ∧ J (i + 1) (gs ++ [e]) Ω3) ∧
      ∀ a gs Ω', J ds.length gs Ω' → R (.raw (.ref a)) ((a, oLst X.K gs) :: Ω'))
    (S0 : Sat X.K B Γ Ω F σ H) (hQ : ∀ v H', (∃ d Ω' F', Sat X.K B Γ Ω' F' σ H' ∧ Same F F' ∧ Is X.K F' d v ∧ R d Ω') → Q v H') :
    tComp nt caps (WI X tg iter) (fun c => gW (X.comp sc N c) tg) tTrue (fun c => WE (X.comp sc N c) elt) σ H Q := by
  refine (h F σ H S0).mono fun Jt H1 ⟨ds, Ω1, F1, S1, p1, w, J, h0, hz, step, hd⟩ D hD c =>
    ⟨fun i m σ' ys H' => i + m = ds.length ∧ ∃ gs Ω' F', Same F1 F' ∧ Sat X.K B (capG nt caps Γ) ((D, oLst X.K gs) :: Ω') F' σ' H' ∧ H' D = some (.lst ys) ∧ IsL X.K F' gs ys ∧ J i gs Ω', ?_, ?_⟩
  · refine ⟨ds.length, by omega, [], Ω1, F1, Same.refl _, ?_, upd_same, IsL.nil, h0⟩
    exact (S1.new (Pur.layOwn S1.fh hD) hD (S1.fh.free hD) upd_same fun F2 e => ⟨[], rfl, IsL.nil⟩).slots (Sl.cap S1.sl)
  · rintro i m σ' ys H' ⟨hm, gs, Ω', F', f', S', hH, il, j⟩
    refine ⟨hH, by rw [il.len]; exact hz i gs Ω' j, ?_⟩
    obtain ⟨w1, w2⟩ := w i F' H' f' S'.fh
    cases z : ds[i]? with
    | none =>
      have hl : ds.length ≤ i := List.getElem?_eq_none_iff.mp z
      have e : i = ds.length := by omega
      subst e
      exact .inl ⟨w2 hl, hQ _ _ ⟨.raw (.ref D), _, F', S'.slots (S1.sl.mono f'), p1.trans f', i_raw F', hd D gs Ω' j⟩⟩
    | some d =>
      have hl : i < ds.length := (List.getElem?_eq_some_iff.mp z).1
      obtain ⟨go, y⟩ := w1 d z
      obtain ⟨Γ1, ⟨g, pg, gq⟩, sub, he⟩ := step c i d gs Ω' z j
      refine .inr ⟨go, fun x H2 hy pins s u I2 r => ?_⟩
      obtain ⟨F2, p2, ix⟩ := y x H2 hy
      refine pg pins s σ' H2 x u _ I2 r (gq F2 σ' H2 x _ p2.fh ix (S'.sl.mono p2.ff) I2.len fun σ3 sl3 _ => ?_)
      unfold tTrue
      dsimp only
      rw [if_pos rfl]
      refine WE.mono (he (D, oLst X.K gs) F2 σ3 H2 ((S'.pur p2).slots sl3)) fun v H5 ⟨e, Ω2, F5, S5, f5, iv, Ω3, pm, j5⟩ => ?_
      have S5' := S5.perm pm.symm
      obtain ⟨fD, o, hD5, ho⟩ := S5'.own (D, oLst X.K gs) (by simp)
      obtain ⟨ys', rfl, il'⟩ := ho F5 (Same.refl _)
      refine ⟨ys', hD5, by rw [il'.len]; exact hz i gs Ω' j, m - 1, by omega, by omega, gs ++ [e], Ω3, F5, f'.trans (p2.ff.trans f5), ?_, upd_same, il'.append (IsL.cons iv IsL.nil), j5⟩
      exact (S5'.turn fun F6 e6 => ⟨_, rfl, (il'.mono e6).append (IsL.cons (iv.mono e6) IsL.nil)⟩).slots (S5'.sl.sub sub)
theorem w_setCV {elt : Expr} {sc SX : Scope} {N XN : List Str} {nt : Nat} {caps : List Nat} {y : Str} {py : Pos} {i : Nat} {spos : Pos} (S : CompOk SX sc XN N nt caps) (hnd : X.N.Nodup) (hix : X.N[i]? = some y) (hy : Loc X.env.scope y)
    (h : IV3 X B tg iter Γ Ω fun ds Ω1 => ∃ J : Nat → List D → Om → Prop, J 0 [] Ω1 ∧ (∀ i gs Ω', J i gs Ω' → gs.length < sizeLine) ∧
      (∀ c i d gs Ω', ds[i]? = some d → J i gs Ω' → ∃ Γ1, G3 (X.comp sc N c) tg (capG nt caps Γ) d Γ1 ∧ Sub (capG nt caps Γ) Γ1 ∧ ∀ q : Addr × Ow, V3 (X.comp sc N c) B elt Γ1 (q :: Ω') fun e Ω2 => ∃ Ω3, Ω2.Perm (q :: Ω3) ∧ J (i + 1) (gs ++ [e]) Ω3) ∧
      ∀ a gs Ω', J ds.length gs Ω' → W3 X B rest (Γ.set i (some (.raw (.ref a)))) ((a, oLst X.K gs) :: Ω') E)
    (hsw : swapsWith (.ListComp elt [⟨tg, iter, [], 0⟩] sc pos) (some (.Name y py)) spos.line X.env = pure true := by rfl) (hc : X.calm = true := by rfl) (hX : X.env.scope = SX := by rfl) (hN : X.N = XN := by rfl)
    (hs : ∀ x, foldedSetIterable iter X.env x = pure x := by intro _; rfl) (hf : X.fn y = true ∨ X.env.scope.names.lookup y = some .local := by first | exact .inl rfl | exact .inr rfl) : W3 X B (.Assign [.Name y py] (.ListComp elt [⟨tg, iter, [], 0⟩] sc pos) spos :: rest) Γ Ω E := fun F σ H S' pins s I => by
  refine pss_cons (ps_comp S hnd hix hy pi_w (fun c => pg_w) (fun c => pts_nil (c := c)) (fun c => pe_w) hsw hc hX hN hs hf) pss_w pins s σ H _ I (compV_read (R := fun d Ω' => W3 X B rest (Γ.set i (some d)) Ω' E) (Q := fun x H1 => gName i x σ H1 (WS X rest (E.to X.K B F))) h S' ?_)
  rintro v H' ⟨d, Ω', F', S1, f1, iv, w⟩
  exact to_mono f1 (w F' _ H' (S1.slots (Sl.set S1.sl (by rw [I.len]; exact (List.getElem?_eq_some_iff.mp hix).1) iv)))
end
def cellsF (K : PySem.W.Frag) (n m : Nat) (ad : Nat → Addr) (E : Nat → Nat → Rat) : Om := tb n fun i => (ad i, oLst K (tb m fun j => sh (E i j)))
def adrs (n : Nat) (ad : Nat → Addr) : List D := tb n fun i => .raw (.ref (ad i))
theorem tb_mem {α : Type} {n k : Nat} {f : Nat → α} (h : k < n) : f k ∈ tb n f := List.mem_of_getElem? (tb_get h)
theorem perm_erase {α : Type} : ∀ {l : List α} {k : Nat} {x : α}, l[k]? = some x → l.Perm (x :: l.eraseIdx k)
  | [], _, _, h => by simp at h
  | y :: l, 0, x, h => by
    simp at h
    subst h
    exact List.Perm.refl _
  | y :: l, k + 1, x, h => by
    have ih := perm_erase (l := l) (k := k) (x := x) (by simpa using h)
    rw [List.eraseIdx_cons_succ]
    exact (List.Perm.cons y ih).trans (List.Perm.swap ..)
theorem tb_perm {α : Type} {n k : Nat} {f : Nat → α} (h : k < n) : (tb n f).Perm (f k :: (tb n f).eraseIdx k) := perm_erase (tb_get h)
theorem tb_erase {α : Type} {n k : Nat} {f g : Nat → α} (h : ∀ j, j ≠ k → f j = g j) : (tb n f).eraseIdx k = (tb n g).eraseIdx k := by
  have e : tb n g = (tb n f).set k (g k) := by
    rw [tb_set]
    refine tb_congr fun j _ => ?_
    by_cases hj : j = k
    · rw [if_pos hj, hj]
    · rw [if_neg hj, h j hj]
  rw [e, List.eraseIdx_set_eq]
theorem cells_mem {K : PySem.W.Frag} {n m k : Nat} {ad : Nat → Addr} {E : Nat → Nat → Rat} (h : k < n) : (ad k, oLst K (tb m fun j => sh (E k j))) ∈ cellsF K n m ad E := tb_mem (f := fun i => (ad i, oLst K (tb m fun j => sh (E i j)))) h
theorem cells_turn {K : PySem.W.Frag} {n m k : Nat} {ad : Nat → Addr} {E E' : Nat → Nat → Rat} (h : k < n) (he : ∀ i j, i ≠ k → E i j = E' i j) : (cellsF K n m ad E').Perm ((ad k, oLst K (tb m fun j => sh (E' k j))) :: (cellsF K n m ad E).eraseIdx k) := by
  have := tb_perm (f := fun i => (ad i, oLst K (tb m fun j => sh (E' i j)))) h
  rw [tb_erase (g := fun i => (ad i, oLst K (tb m fun j => sh (E i j)))) fun i hi => by rw [show E' i = E i from funext fun j => (he i j hi).symm]] at this
  exact this
theorem row_set {m j : Nat} {f g : Nat → Rat} (h : ∀ i, i ≠ j → f i = g i) : (tb m fun i => sh (f i)).set j (sh (g j)) = tb m fun i => sh (g i) := by
  rw [tb_set]
  refine tb_congr fun i _ => ?_
  by_cases hi : i = j
  · rw [if_pos hi, hi]
  · rw [if_neg hi, h i hi]
theorem Sat.freezeRow {K : PySem.W.Frag} {B : Bs} {Γ : Ga} {Ω : Om} {F : Hp} {σ : L2.St} {H : Hp} {l a : Addr} {k : Nat} {gs rs : List D} (hk : gs[k]? = some (.raw (.ref a))) (S : Sat K B Γ ((l, oLst K gs) :: (a, oLst K rs) :: Ω) F σ H) : ∃ F', Sat K B Γ ((l, oLst K (gs.set k (.lst rs))) :: Ω) F' σ H ∧ Same F F' := by
  have S1 : Sat K B Γ ((a, oLst K rs) :: (l, oLst K gs) :: Ω) F σ H := S.perm (List.Perm.swap ..)
  obtain ⟨F', S2, f, ia⟩ := S1.freeze
  refine ⟨F', ⟨S2.f0, S2.fh, S2.fr, S2.kp, S2.nd, fun q hq => ?_, fun q hq => ?_, S2.sl⟩, f⟩
  · rcases List.mem_cons.mp hq with z | z
    · subst z; exact S2.od (l, oLst K gs) (by simp)
    · exact S2.od q (List.mem_cons_of_mem _ z)
  · rcases List.mem_cons.mp hq with z | z
    · subst z
      obtain ⟨fl, o, ho, h3⟩ := S2.own (l, oLst K gs) (by simp)
      refine ⟨fl, o, ho, fun F2 e2 => ?_⟩
      obtain ⟨xs, rfl, il⟩ := h3 F2 e2
      refine ⟨xs, rfl, ?_⟩
      have := il.set k (ia.mono e2)
      obtain ⟨x, hx, ix⟩ := il.get hk
      have e : xs.set k (V.ref a) = xs := by
        have ex := isR ix
        rw [ex] at hx
        refine List.ext_getElem? fun j => ?_
        rw [List.getElem?_set]
        split
        · rename_i hj
          subst hj
          rw [if_pos (List.getElem?_eq_some_iff.mp hx).1, hx]
        · rfl
      rwa [e] at this
    · exact S2.own q (List.mem_cons_of_mem _ z)
theorem tb_shift {α : Type} {n : Nat} {f : Nat → α} : tb (n + 1) f = f 0 :: tb n fun i => f (i + 1) := by
  unfold tb
  rw [List.range_succ_eq_map, List.map_cons, List.map_map]
  rfl
theorem Sat.freezeRows {K : PySem.W.Frag} {B : Bs} {Γ : Ga} {m : Nat} {σ : L2.St} {H : Hp} {l : Addr} : ∀ (n : Nat) {Ω : Om} {F : Hp} {ad : Nat → Addr} {E : Nat → Nat → Rat} {pre : List D}, Sat K B Γ ((l, oLst K (pre ++ adrs n ad)) :: (cellsF K n m ad E ++ Ω)) F σ H →
    ∃ F', Sat K B Γ ((l, oLst K (pre ++ tb n fun i => shR m (E i))) :: Ω) F' σ H ∧ Same F F'
  | 0, Ω, F, ad, E, pre, S => ⟨F, S, Same.refl _⟩
  | n + 1, Ω, F, ad, E, pre, S => by
    unfold adrs cellsF at S
    rw [tb_shift, tb_shift] at S
    obtain ⟨F1, S1, f1⟩ := Sat.freezeRow (k := pre.length) (by rw [List.getElem?_append_right (Nat.le_refl _), Nat.sub_self]; rfl) S
    rw [List.set_append_right _ _ (Nat.le_refl _), Nat.sub_self, List.set_cons_zero, show (pre ++ D.lst (tb m fun j => sh (E 0 j)) :: tb n fun i => D.raw (V.ref (ad (i + 1)))) = (pre ++ [D.lst (tb m fun j => sh (E 0 j))]) ++ tb n fun i => D.raw (V.ref (ad (i + 1))) by simp] at S1
    obtain ⟨F2, S2, f2⟩ := Sat.freezeRows n (ad := fun i => ad (i + 1)) (E := fun i => E (i + 1)) (pre := pre ++ [D.lst (tb m fun j => sh (E 0 j))]) S1
    refine ⟨F2, ?_, f1.trans f2⟩
    rw [List.append_assoc, List.singleton_append] at S2
    rw [tb_shift]
    exact S2
theorem w_freezeRows {X : Cx} {B : Bs} {Γ : Ga} {Ω : Om} {E3' : E3} {sts : List Stmt} {l : Addr} {n m : Nat} {ad : Nat → Addr} {E : Nat → Nat → Rat} (h : W3 X B sts Γ ((l, oLst X.K (tb n fun i => shR m (E i))) :: Ω) E3') : W3 X B sts Γ ((l, oLst X.K (adrs n ad)) :: (cellsF X.K n m ad E ++ Ω)) E3' := fun F σ H S => by
  obtain ⟨F', S', f⟩ := Sat.freezeRows n (pre := []) S
  exact to_mono f (h F' σ H S')
theorem own_uniq {Ω : Om} (nd : (Ω.map (·.1)).Nodup) : ∀ {a : Addr} {w w' : Ow}, (a, w) ∈ Ω → (a, w') ∈ Ω → w = w' := by
  induction Ω with
  | nil => intro a w w' h; cases h
  | cons r Ω ih =>
    intro a w w' h h'
    rw [List.map_cons, List.nodup_cons] at nd
    rcases List.mem_cons.mp h with z | z
    · rcases List.mem_cons.mp h' with z' | z'
      · rw [← z] at z'; injection z' with _ e; exact e.symm
      · exact absurd (List.mem_map.mpr ⟨(a, w'), z', by rw [← z]⟩) nd.1
    · rcases List.mem_cons.mp h' with z' | z'
      · exact absurd (List.mem_map.mpr ⟨(a, w), z, by rw [← z']⟩) nd.1
      · exact ih nd.2 z z'
def spD (K : PySem.W.Frag) (n : Nat) (C0 : List D → Prop) (C : List D → D → Prop) : Sp := fun vs H Q _ => ∃ (a : Addr) (us : List V) (ds : List D) (F : Hp) (x : Int), vs = .ref a :: us ∧ ds.length + 1 = n ∧ Same F H ∧ F a = none ∧ H a = some (.lst [.int x]) ∧ 0 ≤ x ∧ x < 2147483647 ∧ IsL K F ds us ∧ C0 ds ∧
  ∀ d, C ds d → ∀ (v : V) (H' F' : Hp) (x' : Int), Same F F' → Same F' H' → (∀ b o, b ≠ a → H b = some o → H' b = some o) → (∀ b, F' b ≠ none → F b ≠ none ∨ H b = none) → F' a = none → H' a = some (.lst [.int x']) → 0 ≤ x' → x' < 2147483647 → Is K F' d v → Q v H'
theorem spD.len {K : PySem.W.Frag} {n : Nat} {C0 : List D → Prop} {C : List D → D → Prop} {vs : List V} {H : Hp} {Q : VK} {E : XK} (h : spD K n C0 C vs H Q E) : vs.length = n := by
  obtain ⟨a, us, ds, F, x, rfl, l, _, _, _, _, _, i, _⟩ := h
  rw [List.length_cons, i.len, l]
section
variable {P : Program} {w : World} {K : PySem.W.Frag} {mg : Str → Option Value} {base : Heap} {x : Str} {st : Stmt} {N ps : List Str} {k n : Nat}
theorem ok_draws {C0 : List D → Prop} {C : List D → D → Prop} (d : DefK K mg x st ps) (S : FnScope N ps (defScope st)) (hn : ps.length = n)
    (body : ∀ (f : Addr) (cdv : Value) (A : Around) (outer : List Env) (s : Shared) (H : Hp) (E : XK), Room k (A.deeper (envOfC x (defScope st) s.heap.objs.size f cdv)) → ∀ (a : Addr) (ds : List D), C0 ds → ∀ B : Bs,
      W3 (cx0 P w K mg base N x st f cdv A outer s H E) B (defBody st) (startG N (.raw (.ref a) :: ds)) [(a, oDice)] ⟨fun _ _ => False, fun r Ω => C ds r ∧ Ω = [(a, oDice)], fun _ _ => False, fun _ _ => False⟩) :
    OkF P w K mg base CX0 (k + 1) x ps (spD K n C0 C) := by
  refine d.ok S (fun vs H Q E h => (spD.len h).trans hn.symm) fun f cdv A outer s H vs Q E hr h => ⟨_, pss_w, ?_⟩
  obtain ⟨a, us, ds, F, x0, rfl, hl, fh, fa, ha, b1, b2, il, c0, q⟩ := h
  have il' : IsL K F (.raw (.ref a) :: ds) (.ref a :: us) := IsL.cons (i_raw F) il
  have S0 : Sat K ⟨[a], F, H⟩ (startG N (.raw (.ref a) :: ds)) [(a, oDice)] F (L2.start N (.ref a :: us)) H := by
    refine ⟨Same.refl _, fh, fun _ q => .inl q, fun _ _ _ e => e, by simp, fun p hp => ?_, fun p hp => ?_, Sl.start il'⟩
    · rw [List.mem_singleton.mp hp]; exact .inl (by simp)
    · rw [List.mem_singleton.mp hp]; exact ⟨fa, _, ha, fun _ _ => ⟨x0, rfl, b1, b2⟩⟩
  refine ends_mono (D := E3.to K ⟨[a], F, H⟩ F ⟨fun _ _ => False, fun r Ω => C ds r ∧ Ω = [(a, oDice)], fun _ _ => False, fun _ _ => False⟩) (D' := { nx := fun _ H' => Q .non H', rt := Q }) ?_ ?_ ?_ ?_ (body f cdv A outer s H E hr a ds c0 ⟨[a], F, H⟩ F _ H S0)
  · rintro σ' H' ⟨_, _, _, _, _, z⟩
    exact z.elim
  · rintro v H' ⟨r, Ω', F', ⟨σ', S'⟩, f', iv, hC, rfl⟩
    obtain ⟨fa', o', ha', ho⟩ := S'.own (a, oDice) (by simp)
    obtain ⟨x', rfl, c1, c2⟩ := ho F' (Same.refl _)
    refine q r hC v H' F' x' S'.f0 S'.fh (fun b o hb e => S'.kp b o (by simpa using hb) e) (fun b hb => ?_) fa' ha' c1 c2 iv
    rcases S'.fr b hb with z | z | z
    · exact .inl z
    · exact .inr z
    · have e : b = a := by simpa using z
      subst e
      exact absurd fa' hb
  · rintro σ' H' ⟨_, _, _, _, _, z⟩
    exact z.elim
  · rintro σ' H' ⟨_, _, _, _, _, z⟩
    exact z.elim
end
theorem v_callD {X : Cx} {B : Bs} {Γ : Ga} {Ω : Om} {x : Str} {ps : List Str} {k n : Nat} {C0 : List D → Prop} {C : List D → D → Prop} {a : Expr} {es : List Expr} {p pos : Pos} {l : Addr} {R : D → Om → Prop} (o : OkF X.prog X.w X.K X.mg X.base CX0 k x ps (spD X.K n C0 C)) (hr : Room k X.A) (hg : Gl X x) (ha : P3 X Γ a (.raw (.ref l))) (hm : (l, oDice) ∈ Ω)
    (h : VL3 X B es Γ Ω fun ds Ω1 => Ω1 = Ω ∧ ds.length + 1 = n ∧ C0 ds ∧ ∀ d, C ds d → R d Ω) (hdb : (x == ("__debug__" : Str)) = false := by decide)
    (he : starEach (a :: es) X.env = (false, eval a X.env) :: starEach es X.env := by rfl) (hpl : (backTo pos (starEach es X.env)).any (·.1) = false := by rfl) : V3 X B (.Call (.Name x p) (a :: es) [] pos) Γ Ω R := fun F σ H S pins s I =>
  pe_fn o hr hg (pa_cons ha pa_w he) hdb he hpl pins s σ H _ I ⟨F, S.fh, S.sl, fun v H1 F1 p1 i1 => (h F1 σ H1 (S.pur p1)).mono fun us H2 ⟨ds, Ω2, F2, S2, f2, il, e2, hn, c0, q⟩ => by
    dsimp only
    rw [List.append_nil]
    subst e2
    cases isR i1
    obtain ⟨fa, o', ha', ho⟩ := S2.own _ hm
    obtain ⟨x0, rfl, b1, b2⟩ := ho F2 (Same.refl _)
    refine ⟨l, us, ds, F2, x0, rfl, hn, S2.fh, fa, ha', b1, b2, il, c0, fun d hd v H' F' x' g1 g2 g3 g4 g5 g6 g7 g8 iv => ⟨d, Ω2, F', ?_, p1.ff.trans (f2.trans g1), iv, q d hd⟩⟩
    have od := S2.od _ hm
    refine ⟨S2.f0.trans g1, g2, fun b hb => ?_, fun b o hb e => ?_, S2.nd, S2.od, fun r hr => ?_, S2.sl.mono g1⟩
    · rcases g4 b hb with z | z
      · exact S2.fr b z
      · exact (S2.freeB z).elim (fun w => .inr (.inl w)) fun w => .inr (.inr w)
    · by_cases hbl : b = l
      · subst hbl
        rcases od with z | z
        · exact absurd z hb
        · have z' : B.H b = none := z
          rw [z'] at e; cases e
      · exact g3 b o hbl (S2.kp b o hb e)
    · obtain ⟨h1, o2, h2, h3⟩ := S2.own r hr
      by_cases hrl : r.1 = l
      · have er : r = (l, oDice) := by
          obtain ⟨r1, r2⟩ := r
          dsimp only at hrl
          subst hrl
          have := own_uniq S2.nd hr hm
          rw [this]
        subst er
        exact ⟨g5, _, g6, fun _ _ => ⟨x', rfl, g7, g8⟩⟩
      · refine ⟨?_, o2, g3 _ _ hrl h2, fun F3 e3 => h3 F3 (g1.trans e3)⟩
        cases zz : F' r.1 with
        | none => rfl
        | some u =>
          rcases g4 r.1 (by rw [zz]; simp) with z | z
          · exact absurd h1 z
          · rw [h2] at z; cases z⟩
end L3
set_option Elab.async false
set_option linter.all false
set_option maxRecDepth 100000
set_option maxHeartbeats 4000000
namespace L3
open PySem PySem.Spec PySem.Calls PyProof.Rows L2
def C_ends : List D → D → Prop := fun ds d => ∃ (n s : Nat) (W : Nat → Nat → Rat) (b : Bool), ds = [shM n n W] ∧ d = .bl b ∧ (b = true ↔ Piv n W) ∧ n ≤ 1000 ∧ Good n n s W ∧ sK s n ≤ big
theorem adrs_snoc {i : Nat} {a : Addr} {ad : Nat → Addr} : adrs i ad ++ [D.raw (V.ref a)] = adrs (i + 1) fun j => if j = i then a else ad j := by
  unfold adrs
  rw [tb_succ]
  dsimp only
  rw [if_pos rfl]
  congr 1
  exact tb_congr fun j hj => by rw [if_neg (by omega)]
theorem cells_snoc {K : PySem.W.Frag} {i m : Nat} {a : Addr} {ad : Nat → Addr} {W : Nat → Nat → Rat} : cellsF K (i + 1) m (fun j => if j = i then a else ad j) W = cellsF K i m ad W ++ [(a, oLst K (tb m fun j => sh (W i j)))] := by
  unfold cellsF
  rw [tb_succ]
  dsimp only
  rw [if_pos rfl]
  congr 1
  exact tb_congr fun j hj => by rw [if_neg (by omega)]
theorem cells_congr {K : PySem.W.Frag} {n m : Nat} {ad : Nat → Addr} {E E' : Nat → Nat → Rat} (h : ∀ i j, i < n → j < m → E i j = E' i j) : cellsF K n m ad E = cellsF K n m ad E' := by
  unfold cellsF
  refine tb_congr fun i hi => ?_
  rw [tb_congr (f := fun j => sh (E i j)) (g := fun j => sh (E' i j)) fun j hj => by rw [h i j hi hj]]
def L2K (W : Nat → Nat → Rat) (a k : Nat) : Nat → Nat → Rat := fun i j => if i < k then LK W (a + 1) i j else LK W a i j
def L3K (W : Nat → Nat → Rat) (a k j : Nat) : Nat → Nat → Rat := fun i b => if i < k ∨ (i = k ∧ b < j) then LK W (a + 1) i b else LK W a i b
theorem LK_low {W : Nat → Nat → Rat} {a i j : Nat} (h : ¬ (a < i ∧ a < j)) : LK W (a + 1) i j = LK W a i j := by
  rw [LK]
  dsimp only
  rw [if_neg h]
theorem LK_new {W : Nat → Nat → Rat} {a i j : Nat} (h1 : a < i) (h2 : a < j) : LK W (a + 1) i j = LK W a i j + (LK W a i a * (1 / (1 - LK W a a a))) * LK W a a j := by
  rw [LK]
  dsimp only
  rw [if_pos ⟨h1, h2⟩]
theorem L2K_start {W : Nat → Nat → Rat} {a : Nat} : L2K W a (a + 1 + 0) = LK W a := by
  funext i j
  unfold L2K
  split
  · exact LK_low (by omega)
  · rfl
theorem L2K_at {W : Nat → Nat → Rat} {a k i : Nat} : some (sh (L2K W a k i a)) = some (sh (LK W a i a)) := by
  unfold L2K
  split
  · rw [LK_low (by omega)]
  · rfl
theorem L2K_end {W : Nat → Nat → Rat} {a k i j : Nat} (h : i < k) : L2K W a k i j = LK W (a + 1) i j := by
  unfold L2K
  rw [if_pos h]
theorem L3K_start {W : Nat → Nat → Rat} {a k : Nat} : L3K W a k (a + 1 + 0) = L2K W a k := by
  funext i j
  unfold L3K L2K
  by_cases h : i < k
  · rw [if_pos (.inl h), if_pos h]
  · rw [if_neg h]
    split
    · exact LK_low (by omega)
    · rfl
theorem L3K_old {W : Nat → Nat → Rat} {a k j : Nat} : some (sh (L3K W a k j k j)) = some (sh (LK W a k j)) := by
  unfold L3K
  rw [if_neg (by omega)]
theorem L3K_piv {W : Nat → Nat → Rat} {a k j b : Nat} : some (sh (L3K W a k j a b)) = some (sh (LK W a a b)) := by
  unfold L3K
  split
  · rw [LK_low (by omega)]
  · rfl
theorem L3K_new {W : Nat → Nat → Rat} {a k j : Nat} (h1 : a < k) (h2 : a < j) : L3K W a k (j + 1) k j = LK W (a + 1) k j := by
  unfold L3K
  rw [if_pos (.inr ⟨rfl, by omega⟩)]
theorem L3K_row {W : Nat → Nat → Rat} {a k j i : Nat} (h : i ≠ j) : L3K W a k j k i = L3K W a k (j + 1) k i := by
  unfold L3K
  by_cases q : i < j
  · rw [if_pos (.inr ⟨rfl, q⟩), if_pos (.inr ⟨rfl, by omega⟩)]
  · rw [if_neg (by omega), if_neg (by omega)]
theorem L3K_other {W : Nat → Nat → Rat} {a k j i b : Nat} (h : i ≠ k) : L3K W a k j i b = L3K W a k (j + 1) i b := by
  unfold L3K
  by_cases q : i < k
  · rw [if_pos (.inl q), if_pos (.inl q)]
  · rw [if_neg (by omega), if_neg (by omega)]
theorem L3K_end {W : Nat → Nat → Rat} {a k n i b : Nat} (h : b < n) : L3K W a k n i b = L2K W a (k + 1) i b := by
  unfold L3K L2K
  by_cases q : i < k + 1
  · rw [if_pos q, if_pos (by omega)]
  · rw [if_neg q, if_neg (by omega)]
theorem one_by {q : Rat} (h : q < 1) : 1 / (1 - q) = Rat.divInt (q.den : Int) ((q.den : Int) - q.num) := by
  have e : 1 - q = Rat.divInt ((q.den : Int) - q.num) (q.den : Int) := by
    rw [← My.q_sub 1 q]
    show Rat.divInt (1 * (q.den : Int) - q.num * 1) (1 * (q.den : Int)) = _
    rw [Int.one_mul, Int.mul_one]
  rw [e, Rat.div_def, Rat.inv_divInt, Rat.one_mul]
end L3
set_option Elab.async false
set_option linter.all false
set_option maxRecDepth 100000
set_option maxHeartbeats 4000000
namespace L3
open PySem PySem.Spec PySem.Calls PyProof.Rows L2
def C0_drawn : List D → Prop := fun ds => ∃ n : Nat, ds = [.int (n : Int)] ∧ n ≤ 6
def C_drawn : List D → D → Prop := fun ds d => ∃ (n : Nat) (W : Nat → Nat → Rat) (e : Nat → Rat), ds = [.int (n : Int)] ∧ d = .tup [shM n n W, shR n e] ∧ Good n n 5 W ∧ nnR n 5 e
theorem Q3.v {X : Cx} {B : Bs} {Γ : Ga} {Ω : Om} {e : Expr} {d : D} {R : D → Om → Prop} (h : Q3 X Γ Ω e d) (r : R d Ω) : V3 X B e Γ Ω R := h B R r
theorem pf_eq {X : Cx} {Γ : Ga} {e : Expr} {ds ds' : List D} (h : PF3 X Γ e ds') (q : ds' = ds) : PF3 X Γ e ds := q ▸ h
theorem perm_rot3 {α : Type} {x y z : α} {t : List α} : (x :: y :: z :: t).Perm (z :: x :: y :: t) := (List.Perm.cons x (List.Perm.swap ..)).trans (List.Perm.swap ..)
theorem perm_rot4 {α : Type} {x y z w : α} {t : List α} : (x :: y :: z :: w :: t).Perm (w :: x :: y :: z :: t) := (List.Perm.cons x perm_rot3).trans (List.Perm.swap ..)
theorem perm_end {α : Type} {x y z w : α} {t : List α} : (x :: y :: w :: (t ++ [z])).Perm (x :: y :: z :: w :: t) :=
  List.Perm.cons x (List.Perm.cons y (((List.perm_append_singleton z t).cons w).trans (List.Perm.swap ..)))
theorem sum_in : ∀ {ns : List Int}, (∀ x ∈ ns, 0 ≤ x ∧ x < 4) → 0 ≤ ns.sum ∧ ns.sum ≤ 3 * ns.length
  | [], _ => by simp
  | n :: ns, h => by
    have a := sum_in (ns := ns) fun x hx => h x (List.mem_cons_of_mem _ hx)
    have b := h n (by simp)
    rw [List.sum_cons, List.length_cons]
    omega
theorem ends_snoc {i : Nat} {x : Rat} {e : Nat → Rat} : (tb i fun r => sh (e r)) ++ [sh x] = tb (i + 1) fun r => sh (if r = i then x else e r) := by
  rw [tb_succ, if_pos rfl]
  congr 1
  exact tb_congr fun j hj => by rw [if_neg (by omega)]
theorem cells_snoc2 {K : PySem.W.Frag} {i m : Nat} {a : Addr} {ad : Nat → Addr} {W : Nat → Nat → Rat} {g : Nat → Rat} : cellsF K i m ad W ++ [(a, oLst K (tb m fun j => sh (g j)))] = cellsF K (i + 1) m (fun j => if j = i then a else ad j) fun r j => if r = i then g j else W r j := by
  unfold cellsF
  rw [tb_succ]
  dsimp only
  rw [if_pos rfl]
  congr 1
  · refine tb_congr fun j hj => ?_
    rw [if_neg (by omega)]
    congr 2
    exact tb_congr fun k _ => by rw [if_neg (by omega)]
  · simp
theorem sh_int (i : Int) : sh (i : Rat) = .tup [.int i, .int 1] := rfl
theorem sh_one {r : Int} (h : 0 ≤ r) : sh (Rat.divInt 1 (1 + r)) = .tup [.int 1, .int (1 + r)] := by
  unfold sh
  have hb : 0 < 1 + r := by omega
  have g : My.G 1 (1 + r) = 1 := by
    show ((Int.gcd 1 (1 + r) : Nat) : Int) = 1
    rw [Int.one_gcd]
    rfl
  rw [← My.num_share hb, ← My.den_share hb, g]
  congr 2
  · congr 2
    · exact Int.fdiv_one _
theorem int_nn {i : Int} (h : 0 ≤ i) : 0 ≤ (i : Rat) := Rat.intCast_nonneg.mpr h
theorem sz_int {i : Int} {n : Nat} (h : i.natAbs < 2 ^ (n + 1)) : Sz (n + 1) (i : Rat) := by
  refine ⟨by simpa using h, ?_⟩
  show 1 < 2 ^ (n + 1)
  exact Nat.one_lt_two_pow (by omega)
end L3
set_option Elab.async false
set_option linter.all false
set_option maxRecDepth 100000
set_option maxHeartbeats 4000000
namespace L3
open PySem PySem.Spec PySem.Calls PyProof.Rows L2
structure Errs (K : PySem.W.Frag) (mg : Str → Option Value) (S A1 A2 A3 A4 A5 R : Addr) (b1 b2 b3 b4 b5 : Bool) : Prop where
  mS : mg "ScoreError" = some (.ref S)
  m1 : mg "NoShare" = some (.ref A1)
  m2 : mg "NoEnd" = some (.ref A2)
  m3 : mg "NoGrammar" = some (.ref A3)
  m4 : mg "NoTree" = some (.ref A4)
  m5 : mg "NoText" = some (.ref A5)
  xS : PySem.W.exmOne K (.ref R) (.ref S) = some true
  xR : PySem.W.exmOne K (.ref R) (.ref R) = some true
  kS : PySem.W.kitOne K (.ref R) (.ref S) = some true
  kV : PySem.W.kitOne K (.ref R) (.type "ValueError") = some true
  k1 : PySem.W.kitOne K (.ref R) (.ref A1) = some b1
  k2 : PySem.W.kitOne K (.ref R) (.ref A2) = some b2
  k3 : PySem.W.kitOne K (.ref R) (.ref A3) = some b3
  k4 : PySem.W.kitOne K (.ref R) (.ref A4) = some b4
  k5 : PySem.W.kitOne K (.ref R) (.ref A5) = some b5
  c : ExCls K R
  q : XcK K R
theorem errs_mk {K : PySem.W.Frag} {h : Heap} {mg : Str → Option Value} (X : K.In h) (G : h.Ns mainGlobals mg) {S A1 A2 A3 A4 A5 R : Addr} {b1 b2 b3 b4 b5 : Bool} {oc : Value} {od : Option Addr} {cd : ClassData} {osl : Array (Option Value)}
    (aS : PySem.W.nsIn K mainGlobals "ScoreError" = some (some (.ref S))) (a1 : PySem.W.nsIn K mainGlobals "NoShare" = some (some (.ref A1))) (a2 : PySem.W.nsIn K mainGlobals "NoEnd" = some (some (.ref A2)))
    (a3 : PySem.W.nsIn K mainGlobals "NoGrammar" = some (some (.ref A3))) (a4 : PySem.W.nsIn K mainGlobals "NoTree" = some (some (.ref A4))) (a5 : PySem.W.nsIn K mainGlobals "NoText" = some (some (.ref A5)))
    (c1 : PySem.W.excIn K R [.type "ValueError", .type "Exception", .type "BaseException", .type "object"] "ValueError.__new__" = true)
    (g1 : PySem.W.findIn K (.ref R) "__getattribute__" = some (some (.builtin "BaseException.__getattribute__"))) (g2 : PySem.W.findIn K (.ref R) "__getattr__" = some none)
    (g3 : PySem.W.findIn K (.ref R) "__class__" = some (some (.builtin "object.__class__"))) (g4 : PySem.W.specialIn K (.builtin "object.__class__") "__get__" = some (some (.builtin "getset_descriptor.__get__")))
    (g5 : PySem.W.takesIn K (.builtin "object.__class__") = some true) (g6 : PySem.W.mroIn K R (.type "object") = some true) (g7 : PySem.W.mroIn K R (.type "BaseException") = some true)
    (lk : K.lookup R = some ⟨oc, od, .cls cd, osl⟩) (xS : PySem.W.exmOne K (.ref R) (.ref S) = some true) (xR : PySem.W.exmOne K (.ref R) (.ref R) = some true) (kS : PySem.W.kitOne K (.ref R) (.ref S) = some true) (kV : PySem.W.kitOne K (.ref R) (.type "ValueError") = some true)
    (k1 : PySem.W.kitOne K (.ref R) (.ref A1) = some b1) (k2 : PySem.W.kitOne K (.ref R) (.ref A2) = some b2) (k3 : PySem.W.kitOne K (.ref R) (.ref A3) = some b3) (k4 : PySem.W.kitOne K (.ref R) (.ref A4) = some b4) (k5 : PySem.W.kitOne K (.ref R) (.ref A5) = some b5) :
    Errs K mg S A1 A2 A3 A4 A5 R b1 b2 b3 b4 b5 :=
  ⟨PySem.W.mg_of X G aS, PySem.W.mg_of X G a1, PySem.W.mg_of X G a2, PySem.W.mg_of X G a3, PySem.W.mg_of X G a4, PySem.W.mg_of X G a5, xS, xR, kS, kV, k1, k2, k3, k4, k5, ⟨c1⟩, ⟨g1, g2, g3, g4, g5, g6, g7, _, lk, _, rfl⟩⟩
def spLaw3 (K : PySem.W.Frag) : Sp := fun vs H Q _ => ∃ (a : Addr) (ns : List Int), vs = [.ref a] ∧ SqL K H a (ns.map V.int) ∧ ns.length ≤ 63 ∧ ∀ H', Q (.bl true) H'
theorem ok_law3 {P : Program} {w : World} {K : PySem.W.Frag} {mg : Str → Option Value} {base : Heap} {f : Addr} {fd : FuncData} {st : Stmt} {N : List Str} {k : Nat} {x : Str} (F : Fun K "law" "law" st f fd) (S : FnScope N [x] (defScope st))
    (body : ∀ (cdv : Value) (A : Around) (outer : List Env) (s : Shared) (H : Hp) (E : XK), Room k (A.deeper (envOfC "law" (defScope st) s.heap.objs.size f cdv)) → ∀ (ns : List Int), ns.length ≤ 63 → ∀ B : Bs, B.M = [] →
      W3 (cx0 P w K mg base N "law" st f cdv A outer s H E) B (defBody st) (startG N [.scr ns]) [] ⟨fun _ _ => False, fun r _ => r = .bl true, fun _ _ => False, fun _ _ => False⟩) : FnOk P w K mg base CX0 (k + 1) f fd [x] (spLaw3 K) := by
  refine F.ok S (fun vs H Q E h => ?_) fun cdv A outer s H vs Q E hr h => ⟨_, pss_w, ?_⟩
  · obtain ⟨a, ns, rfl, _⟩ := h
    rfl
  · obtain ⟨a, ns, rfl, hS, hlen, q⟩ := h
    have il : IsL K H [.scr ns] [.ref a] := IsL.cons (by simp only [Is]; exact ⟨a, rfl, hS⟩) IsL.nil
    refine ends_mono (D := E3.to K ⟨[], H, H⟩ H ⟨fun _ _ => False, fun r _ => r = .bl true, fun _ _ => False, fun _ _ => False⟩) (D' := { nx := fun _ H' => Q .non H', rt := Q }) ?_ ?_ ?_ ?_ (body cdv A outer s H E hr ns hlen ⟨[], H, H⟩ rfl H _ H (Sat.entry (Same.refl _) il))
    · rintro σ' H' ⟨_, _, _, _, _, z⟩
      exact z.elim
    · rintro v H' ⟨r, Ω', F', ⟨σ', S'⟩, f', iv, rfl⟩
      rw [isB iv]
      exact q H'
    · rintro σ' H' ⟨_, _, _, _, _, z⟩
      exact z.elim
    · rintro σ' H' ⟨_, _, _, _, _, z⟩
      exact z.elim
theorem sp_law3 {K : PySem.W.Frag} {H : Hp} {a : Addr} {ns : List Int} (h : ns.length ≤ 63) (hS : SqL K H a (ns.map V.int)) : spLaw3 K [.ref a] H (fun v _ => v = .bl true) fun _ _ _ => False := ⟨a, ns, rfl, hS, h, fun _ => rfl⟩
theorem pln_lst {ds : List D} : pln (.lst ds) = plnL ds := by rw [pln]
theorem plnL_all : ∀ {ds : List D}, (∀ d ∈ ds, pln d = true) → plnL ds = true
  | [], _ => by rw [plnL]
  | d :: ds, h => by rw [plnL, h d (by simp), plnL_all fun e he => h e (List.mem_cons_of_mem _ he)]; rfl
theorem plnL_two {a b : D} (ha : pln a = true) (hb : pln b = true) : plnL [a, b] = true := plnL_all fun d hd => by
  rcases List.mem_cons.mp hd with rfl | hd
  · exact ha
  · rw [List.mem_singleton.mp hd]; exact hb
theorem mem_tb {α : Type} {n : Nat} {f : Nat → α} {x : α} (h : x ∈ tb n f) : ∃ i, i < n ∧ x = f i := by
  unfold tb at h
  obtain ⟨i, hi, e⟩ := List.mem_map.mp h
  exact ⟨i, List.mem_range.mp hi, e.symm⟩
theorem pln_sh {q : Rat} : pln (sh q) = true := rfl
theorem pln_shR {m : Nat} {f : Nat → Rat} : pln (shR m f) = true := by
  unfold shR
  rw [pln_lst]
  exact plnL_all fun d hd => by
    obtain ⟨i, _, rfl⟩ := mem_tb hd
    exact pln_sh
theorem pln_shM {n m : Nat} {f : Nat → Nat → Rat} : pln (shM n m f) = true := by
  unfold shM
  rw [pln_lst]
  exact plnL_all fun d hd => by
    obtain ⟨i, _, rfl⟩ := mem_tb hd
    exact pln_shR
theorem depL_le {k : Nat} : ∀ {ds : List D}, (∀ d ∈ ds, dep d ≤ k) → depL ds ≤ k
  | [], _ => by rw [depL]; exact Nat.zero_le _
  | d :: ds, h => by
    rw [depL]
    exact Nat.max_le.mpr ⟨h d (by simp), depL_le fun e he => h e (List.mem_cons_of_mem _ he)⟩
theorem dep_sh1 {q : Rat} : dep (sh q) ≤ 1 := by
  show max 0 (max 0 0) + 1 ≤ 1
  decide
theorem dep_shR {m : Nat} {f : Nat → Rat} : dep (shR m f) ≤ 2 := by
  unfold shR
  rw [dep]
  exact Nat.succ_le_succ (depL_le fun d hd => by
    obtain ⟨i, _, rfl⟩ := mem_tb hd
    exact dep_sh1)
theorem dep_shM {n m : Nat} {f : Nat → Nat → Rat} : dep (shM n m f) ≤ 3 := by
  unfold shM
  rw [dep]
  exact Nat.succ_le_succ (depL_le fun d hd => by
    obtain ⟨i, _, rfl⟩ := mem_tb hd
    exact dep_shR)
theorem dep_two {a b : D} (ha : dep a ≤ 3) (hb : dep b ≤ 2) : dep (.lst [a, b]) ≤ 60 := by
  rw [dep]
  have : depL [a, b] ≤ 3 := depL_le fun d hd => by
    rcases List.mem_cons.mp hd with rfl | hd
    · exact ha
    · rw [List.mem_singleton.mp hd]; omega
  omega
mutual
theorem kin_self : ∀ {d : D}, pln d = true → kin d d = true
  | .non, _ => rfl
  | .bl _, _ => rfl
  | .int _, _ => rfl
  | .str _, _ => rfl
  | .tup a, h => by rw [kin]; rw [pln] at h; exact kins_self h
  | .lst a, h => by rw [kin]; rw [pln] at h; exact kins_self h
  | .raw _, h => by simp [pln] at h
  | .dk _ _, h => by simp [pln] at h
  | .dt _ _, h => by simp [pln] at h
  | .obj _ _ _, h => by simp [pln] at h
  | .exc _, h => by simp [pln] at h
  | .scr _, h => by simp [pln] at h
theorem kins_self : ∀ {d : List D}, plnL d = true → kins d d = true
  | [], _ => rfl
  | a :: as, h => by
    rw [plnL, Bool.and_eq_true] at h
    rw [kins, kin_self h.1, kins_self h.2]; rfl
end
def C_refused : List D → D → Prop := fun ds d => ∃ (n s : Nat) (W : Nat → Nat → Rat) (e : Nat → Rat), ds = [shM n n W, shR n e] ∧ d = .bl true ∧ SysOk n s W e ∧ ¬ Piv n W
end L3
namespace L3
open PySem PySem.Spec PySem.Calls PyProof.Rows L2
theorem globPair {K : PySem.W.Frag} {h : Heap} {mg : Str → Option Value} (X : K.In h) (G : h.Ns mainGlobals mg) {x : Str} {l : Addr} {od : Option Addr} {i j : Int} {t u : Tok} {n : Nat} {sl : Array (Option Value)} (a : PySem.W.nsIn K mainGlobals x = some (some (.ref l)))
    (lk : K.lookup l = some ⟨.type "tuple", od, .seq #[.int i t, .int j u] n, sl⟩) : GlobD K mg x (.tup [.int i, .int j]) :=
  ⟨.ref l, .ref l, PySem.W.mg_of X G a, rfl, fun F => Is.tupI (xs := [.int i, .int j]) (.inr ⟨_, _, _, lk, rfl, rfl, by show 2 ≤ sizeLine; decide, .cons ⟨_, rfl⟩ (.cons ⟨_, rfl⟩ .nil)⟩) (IsL.cons (i_int F) (IsL.cons (i_int F) IsL.nil))⟩
end L3
set_option Elab.async false
set_option linter.all false
set_option maxRecDepth 100000
set_option maxHeartbeats 4000000
namespace L3
open PySem PySem.Spec PySem.Calls PyProof.Rows L2
theorem dv_le {a g : Int} (h : 0 ≤ a) (hg : 0 < g) : 0 ≤ a / g ∧ a / g ≤ a := ⟨Int.ediv_nonneg h (Int.le_of_lt hg), Int.ediv_le_self _ h⟩
theorem dv_fit {a b : Int} {n : Nat} (h : 0 ≤ b ∧ b ≤ a) (ha : a.natAbs < 2 ^ n) : b.natAbs < 2 ^ n := by omega
theorem pow_mono {m n : Nat} (h : m ≤ n) : 2 ^ m ≤ 2 ^ n := Nat.pow_le_pow_right (by decide) h
theorem sh_mul (p q : Rat) : sh (p * q) = D.tup [D.int ((Rat.divInt p.num q.den).num * (Rat.divInt q.num p.den).num), D.int (((Rat.divInt p.num q.den).den : Int) * ((Rat.divInt q.num p.den).den : Int))] := by
  unfold sh
  rw [My.mul_num, My.mul_den, ← My.num_share (My.den_pos' q), ← My.num_share (My.den_pos' p), ← My.den_share (My.den_pos' q), ← My.den_share (My.den_pos' p), Int.natCast_mul, Int.natCast_ediv, Int.natCast_ediv,
    Int.fdiv_eq_ediv_of_nonneg _ (Int.le_of_lt (My.G_pos (My.den_pos' q))), Int.fdiv_eq_ediv_of_nonneg _ (Int.le_of_lt (My.G_pos (My.den_pos' p))), Int.fdiv_eq_ediv_of_nonneg _ (Int.le_of_lt (My.G_pos (My.den_pos' q))), Int.fdiv_eq_ediv_of_nonneg _ (Int.le_of_lt (My.G_pos (My.den_pos' p)))]
  rfl
theorem inv_parts {q : Rat} (h : 0 < q) : q⁻¹.num = (q.den : Int) ∧ (q⁻¹.den : Int) = q.num := by
  have hp := My.q_num_pos h
  rw [Rat.num_inv, Rat.den_inv]
  constructor
  · rw [Int.sign_eq_one_of_pos hp, Int.one_mul]
  · rw [if_neg (by omega)]
    omega
theorem sh_inv {q : Rat} (h : 0 < q) : sh q⁻¹ = D.tup [D.int (q.den : Int), D.int q.num] := by
  unfold sh
  rw [(inv_parts h).1, (inv_parts h).2]
theorem sz_inv {q : Rat} {n : Nat} (h : 0 < q) (s : Sz n q) : Sz n q⁻¹ := by
  have e := inv_parts h
  have hp := My.q_num_pos h
  obtain ⟨s1, s2⟩ := s
  refine ⟨?_, ?_⟩
  · rw [e.1]; exact s2
  · have := e.2
    omega
end L3
set_option Elab.async false
set_option linter.all false
set_option maxRecDepth 100000
set_option maxHeartbeats 4000000
namespace L3
open PySem PySem.Spec PySem.Calls PyProof.Rows L2
theorem r_comp {X : Cx} {B : Bs} {Γ : Ga} {Ω : Om} {tg iter elt : Expr} {ifs : List Expr} {sc SX : Scope} {N XN : List Str} {nt : Nat} {caps : List Nat} {pos : Pos} (S : CompOk SX sc XN N nt caps) (h : R3 X B Γ Ω iter) (hc : X.calm = true := by rfl) (hX : X.env.scope = SX := by rfl)
    (hs : ∀ x, foldedSetIterable iter X.env x = pure x := by intro _; rfl) : R3 X B Γ Ω (.ListComp elt [⟨tg, iter, ifs, 0⟩] sc pos) := fun F σ H S' Q pins s I => by
  rw [eval_ListComp]
  refine wpAny_comprehension_free (use := none) rfl hs (closure_caps (S.hf I hX)) S.kind S.loc (thn (h F σ H S' (fun _ _ => False) pins s I) fun v s1 h1 => ?_)
  obtain ⟨_, _, _, _, f⟩ := h1
  exact f.elim
def wM (n : Nat) (W B : Nat → Nat → Rat) : Nat → Nat → Rat := fun i j => if j < n then W i j else B i (j - n)
theorem good_wM {n m s : Nat} {W B : Nat → Nat → Rat} (h : Good n n s W) (hb : Good n m s B) : Good n (n + m) s (wM n W B) := fun i j hi hj => by
  unfold wM
  by_cases q : j < n
  · rw [if_pos q]; exact h i j hi q
  · rw [if_neg q]; exact hb i (j - n) hi (by omega)
theorem wM_cols {n : Nat} {W B : Nat → Nat → Rat} : ∀ i j, i < n → j < n → wM n W B i j = W i j := fun i j _ hj => by
  unfold wM
  rw [if_pos hj]
theorem piv_wM {n : Nat} {W B : Nat → Nat → Rat} (h : Piv n W) : Piv n (wM n W B) := fun k hk => by
  rw [EK_cols wM_cols k (by omega) k k hk hk]
  exact h k hk
theorem tb_append {α : Type} {n : Nat} {f : Nat → α} : ∀ {m : Nat} {g : Nat → α}, tb n f ++ tb m g = tb (n + m) fun j => if j < n then f j else g (j - n)
  | 0, g => by
    show tb n f ++ [] = tb n _
    rw [List.append_nil]
    exact tb_congr fun j hj => by rw [if_pos hj]
  | m + 1, g => by
    rw [show n + (m + 1) = (n + m) + 1 from rfl, tb_succ, tb_succ, ← List.append_assoc, tb_append, if_neg (by omega), Nat.add_sub_cancel_left]
theorem wM_row {n m i : Nat} {W B : Nat → Nat → Rat} : (tb n fun j => sh (W i j)) ++ (tb m fun j => sh (B i j)) = tb (n + m) fun j => sh (wM n W B i j) := by
  rw [tb_append]
  refine tb_congr fun j _ => ?_
  unfold wM
  by_cases q : j < n
  · rw [if_pos q, if_pos q]
  · rw [if_neg q, if_neg q]
theorem tb_drop {α : Type} {n m : Nat} {f : Nat → α} : (tb (n + m) f).drop n = tb m fun j => f (n + j) := by
  refine List.ext_getElem? fun i => ?_
  rw [List.getElem?_drop]
  by_cases h : i < m
  · rw [tb_get h, tb_get (by omega)]
  · rw [List.getElem?_eq_none_iff.mpr (by rw [tb_len]; omega), List.getElem?_eq_none_iff.mpr (by rw [tb_len]; omega)]
def SysM (n m s : Nat) (W B : Nat → Nat → Rat) : Prop := n ≤ 1000 ∧ m ≤ 1000 ∧ Good n n s W ∧ Good n m s B ∧ sK s n ≤ big
def C_rows : List D → D → Prop := fun ds d => ∃ (n m s : Nat) (W B : Nat → Nat → Rat), ds = [shM n n W, shM n m B] ∧ d = shM n m (fun i j => EK (wM n W B) n i (n + j)) ∧ SysM n m s W B ∧ Piv n W
def C_rowsX (c : Addr) : List D → Addr → Prop := fun ds c' => c' = c ∧ ∃ (n m s : Nat) (W B : Nat → Nat → Rat), ds = [shM n n W, shM n m B] ∧ SysM n m s W B ∧ ¬ Piv n W
theorem SysOk.m {n s : Nat} {W : Nat → Nat → Rat} {e : Nat → Rat} (h : SysOk n s W e) : SysM n 1 s W (fun r _ => e r) := ⟨h.1, by decide, h.2.1, fun i _ hi _ => h.2.2.1 i hi, h.2.2.2⟩
end L3
set_option Elab.async false
set_option linter.all false
set_option maxRecDepth 100000
set_option maxHeartbeats 4000000
namespace L2
open PySem PySem.Spec PySem.Calls PyProof.Rows
section
variable {X : Cx}
end
end L2
namespace L3
open PySem PySem.Spec PySem.Calls PyProof.Rows L2
section
variable {X : Cx} {Γ : Ga} {tg a b c : Expr} {pos p : Pos} {x y z : Str} {bs : List Bool}
end
section
variable {L : Bool} {K : PySem.W.Frag} {B : Bs} {Γ Γ' : Ga} {Ω : Om} {F F1 : Hp} {σ : L2.St} {H H1 : Hp}
end
section
variable {X : Cx} {B : Bs} {Γ Γ' : Ga} {Ω : Om} {E : E3} {rest : List Stmt} {e : Expr} {d : D} {ds : List D} {k : Bool} {R : D → Om → Prop} {RT : Bool → Om → Prop} {L : Bool}
end
end L3
set_option Elab.async false
set_option linter.all false
set_option maxRecDepth 100000
set_option maxHeartbeats 4000000
namespace L2
open PySem PySem.Spec PySem.Calls PyProof.Rows
section
variable {P : Program} {w : World} {K : PySem.W.Frag} {mg : Str → Option Value} {base : Heap} {C : Addr} {m q x : Str} {st : Stmt} {N ps : List Str} {k : Nat} {sp : Sp}
end
end L2
namespace L3
open PySem PySem.Spec PySem.Calls PyProof.Rows L2
section
variable {X : Cx} {B : Bs} {Γ : Ga} {Ω : Om} {E : E3} {rest : List Stmt} {e o : Expr} {es : List Expr} {d : D} {ds : List D} {C : Addr} {fs : List Str} {f : Str} {pos pos' p apos : Pos} {R : D → Om → Prop}
end
section
variable {X : Cx} {sts : List Stmt} {N : List Str} {n : Nat} {vs : List V} {H : Hp} {Q : VK} {E : XK}
end
section
variable {P : Program} {w : World} {K : PySem.W.Frag} {mg : Str → Option Value} {base : Heap} {x m q : Str} {st : Stmt} {N ps : List Str} {k n : Nat} {Cc : Addr}
end
section
variable {X : Cx} {Γ : Ga} {d : D} {ds gs : List D} {n k : Nat} {Cc : Addr} {fs : List Str} {x m : Str} {ps : List Str} {e o : Expr} {es : List Expr} {p pos apos : Pos}
end
end L3
set_option Elab.async false
set_option linter.all false
set_option maxRecDepth 100000
set_option maxHeartbeats 4000000
namespace L2
open PySem PySem.Spec PySem.Calls PyProof.Rows
section
variable {P : Program} {w : World} {A : Around} {E : Value → Shared → Prop} {s : Shared}
end
end L2
set_option Elab.async false
set_option linter.all false
set_option maxRecDepth 100000
set_option maxHeartbeats 4000000
namespace L3
open PySem PySem.Spec PySem.Calls PyProof.Rows L2
section
variable {X : Cx} {pins : List (Addr × Obj)} {σ : L2.St} {H : Hp} {s : Shared}
end
section
variable {X : Cx} {pins : List (Addr × Obj)} {σ : L2.St} {H : Hp} {s : Shared} {l : Addr} {xs : List (List K2 × Addr × Value)} {kvs : List (List K2 × D)}
end
section
variable {X : Cx}
end
section
variable {X : Cx} {B : Bs} {Γ : Ga} {Ω : Om} {E : E3} {rest : List Stmt} {a b e o i : Expr} {pos pos' spos tpos : Pos} {R : D → Om → Prop} {RT : Bool → Om → Prop} {x : Str}
end
end L3
set_option Elab.async false
set_option linter.all false
set_option maxRecDepth 100000
set_option maxHeartbeats 4000000
namespace L3
open PySem PySem.Spec PySem.Calls PyProof.Rows L2
section
variable {X : Cx} {Γ : Ga} {a b c : Expr} {pos : Pos} {x y z : Str}
end
section
variable {P : Program} {w : World} {K : PySem.W.Frag} {mg : Str → Option Value} {base : Heap} {x q : Str} {st : Stmt} {N ps : List Str} {k n : Nat} {Cc : Addr}
end
end L3
set_option Elab.async false
set_option linter.all false
set_option maxRecDepth 100000
set_option maxHeartbeats 4000000
namespace L2
open PySem PySem.Spec PySem.Calls PyProof.Rows
end L2
namespace L3
open PySem PySem.Spec PySem.Calls PyProof.Rows L2
section
variable {X : Cx} {B : Bs} {Γ : Ga} {Ω : Om} {E : E3} {rest : List Stmt} {a b e : Expr} {es : List Expr} {pos p : Pos} {ds gs : List D} {x : Str} {k n : Nat} {R : D → Om → Prop}
end
end L3
set_option Elab.async false
set_option linter.all false
set_option maxRecDepth 100000
set_option maxHeartbeats 4000000
namespace L3
open PySem PySem.Spec PySem.Calls PyProof.Rows L2
end L3
set_option Elab.async false
set_option linter.all false
set_option maxRecDepth 100000
set_option maxHeartbeats 4000000
namespace L3
open PySem
end L3
set_option Elab.async false
set_option linter.all false
set_option maxRecDepth 100000
set_option maxHeartbeats 4000000
namespace L3
open PySem PySem.Spec PySem.Calls PyProof.Rows L2
section
variable {X : Cx} {B : Bs} {Γ : Ga} {Ω : Om} {a l e : Expr} {pos p2 : Pos} {R : D → Om → Prop}
end
section
variable {X : Cx} {B : Bs} {Γ : Ga} {Ω : Om} {E : E3} {rest body : List Stmt} {e c : Expr} {pos : Pos}
end
end L3
namespace L3
open PySem PySem.Spec PySem.Calls PyProof.Rows L2
end L3
set_option Elab.async false
set_option linter.all false
set_option maxRecDepth 100000
set_option maxHeartbeats 4000000
namespace L3
open PySem PySem.Spec PySem.Calls PyProof.Rows L2
end L3
namespace L3
open PySem PySem.Spec PySem.Calls PyProof.Rows L2
end L3
namespace L3
open PySem PySem.Spec PySem.Calls PyProof.Rows L2
end L3
namespace L3
end L3
namespace L3
open PySem
end L3
namespace L3
open PySem
end L3
namespace L3
open PySem
end L3
set_option Elab.async false
set_option linter.all false
set_option maxRecDepth 100000
set_option maxHeartbeats 4000000
namespace L3
open PySem PySem.Spec PySem.Calls PyProof.Rows L2
end L3
set_option Elab.async false
set_option linter.all false
set_option maxRecDepth 100000
set_option maxHeartbeats 4000000
namespace L3
open PySem PySem.Spec PySem.Calls PyProof.Rows L2
section
variable {hs ws : List Str} {rs : List Rule} {st : Str}
end
end L3
namespace L3
open PySem PySem.Spec PySem.Calls PyProof.Rows L2
end L3
namespace L3
open PySem PySem.Spec PySem.Calls PyProof.Rows L2
end L3
set_option Elab.async false
set_option linter.all false
set_option maxRecDepth 100000
set_option maxHeartbeats 4000000
namespace Law
open PySem L2 L3
def top (i : Nat) : Stmt := PySem.Challenge.pw_scoreflow_k03_systems_solved.main.body.getD i (.Pass ⟨0, 0, 0, 0⟩)
abbrev s_common_divisor : Stmt := top 10
abbrev s_share : Stmt := top 11
abbrev s_added : Stmt := top 12
abbrev s_lessened : Stmt := top 13
abbrev s_timed : Stmt := top 14
abbrev s_parted : Stmt := top 15
abbrev s_is_less : Stmt := top 16
abbrev s_solved : Stmt := top 18
abbrev s_solved_rows : Stmt := top 19
abbrev s_without_itself : Stmt := top 20
abbrev s_put_in : Stmt := top 21
abbrev s_cleared : Stmt := top 22
abbrev s_law_cell_at : Stmt := top 24
abbrev s_law_dice : Stmt := top 25
abbrev s_law_roll : Stmt := top 26
abbrev s_law_whole : Stmt := top 27
abbrev s_law_share : Stmt := top 28
abbrev s_law_added : Stmt := top 29
abbrev s_law_timed : Stmt := top 30
abbrev s_law_is_share : Stmt := top 31
abbrev s_law_drawn : Stmt := top 32
abbrev s_law_ends : Stmt := top 33
abbrev s_law_refused : Stmt := top 34
abbrev s_law : Stmt := top 35
theorem sc_common_divisor : FnScope ["one", "other", "rest"] ["one", "other"] (defScope s_common_divisor) := ⟨rfl, rfl, rfl, by decide +kernel, rfl, by decide +kernel, by decide +kernel⟩
theorem sc_share : FnScope ["top", "bottom", "divisor"] ["top", "bottom"] (defScope s_share) := ⟨rfl, rfl, rfl, by decide +kernel, rfl, by decide +kernel, by decide +kernel⟩
theorem sc_added : FnScope ["one", "other", "divisor", "top", "left"] ["one", "other"] (defScope s_added) := ⟨rfl, rfl, rfl, by decide +kernel, rfl, by decide +kernel, by decide +kernel⟩
theorem sc_lessened : FnScope ["one", "other"] ["one", "other"] (defScope s_lessened) := ⟨rfl, rfl, rfl, by decide +kernel, rfl, by decide +kernel, by decide +kernel⟩
theorem sc_timed : FnScope ["one", "other", "first", "second"] ["one", "other"] (defScope s_timed) := ⟨rfl, rfl, rfl, by decide +kernel, rfl, by decide +kernel, by decide +kernel⟩
theorem sc_parted : FnScope ["one", "other"] ["one", "other"] (defScope s_parted) := ⟨rfl, rfl, rfl, by decide +kernel, rfl, by decide +kernel, by decide +kernel⟩
theorem sc_is_less : FnScope ["one", "other"] ["one", "other"] (defScope s_is_less) := ⟨rfl, rfl, rfl, by decide +kernel, rfl, by decide +kernel, by decide +kernel⟩
theorem sc_solved : FnScope ["ways", "ends"] ["ways", "ends"] (defScope s_solved) := ⟨rfl, rfl, rfl, by decide +kernel, rfl, by decide +kernel, by decide +kernel⟩
theorem sc_solved_rows : FnScope ["ways", "ends", "rows", "k", "found"] ["ways", "ends"] (defScope s_solved_rows) := ⟨rfl, rfl, rfl, by decide +kernel, rfl, by decide +kernel, by decide +kernel⟩
theorem sc_without_itself : FnScope ["row", "k", "left"] ["row", "k"] (defScope s_without_itself) := ⟨rfl, rfl, rfl, by decide +kernel, rfl, by decide +kernel, by decide +kernel⟩
theorem sc_put_in : FnScope ["row", "k", "found", "way"] ["row", "k", "found"] (defScope s_put_in) := ⟨rfl, rfl, rfl, by decide +kernel, rfl, by decide +kernel, by decide +kernel⟩
theorem sc_cleared : FnScope ["row", "k"] ["row", "k"] (defScope s_cleared) := ⟨rfl, rfl, rfl, by decide +kernel, rfl, by decide +kernel, by decide +kernel⟩
theorem sc_law_cell_at : FnScope ["_law_script", "_law_k"] ["_law_script", "_law_k"] (defScope s_law_cell_at) := ⟨rfl, rfl, rfl, by decide +kernel, rfl, by decide +kernel, by decide +kernel⟩
theorem sc_law_dice : FnScope ["_law_cell"] ["_law_cell"] (defScope s_law_dice) := ⟨rfl, rfl, rfl, by decide +kernel, rfl, by decide +kernel, by decide +kernel⟩
theorem sc_law_roll : FnScope ["_law_dice_here", "_law_most"] ["_law_dice_here", "_law_most"] (defScope s_law_roll) := ⟨rfl, rfl, rfl, by decide +kernel, rfl, by decide +kernel, by decide +kernel⟩
theorem sc_law_whole : FnScope ["_law_found"] ["_law_found"] (defScope s_law_whole) := ⟨rfl, rfl, rfl, by decide +kernel, rfl, by decide +kernel, by decide +kernel⟩
theorem sc_law_share : FnScope ["_law_top", "_law_bottom", "_law_one", "_law_other", "_law_rest"] ["_law_top", "_law_bottom"] (defScope s_law_share) := ⟨rfl, rfl, rfl, by decide +kernel, rfl, by decide +kernel, by decide +kernel⟩
theorem sc_law_added : FnScope ["_law_one", "_law_other"] ["_law_one", "_law_other"] (defScope s_law_added) := ⟨rfl, rfl, rfl, by decide +kernel, rfl, by decide +kernel, by decide +kernel⟩
theorem sc_law_timed : FnScope ["_law_one", "_law_other"] ["_law_one", "_law_other"] (defScope s_law_timed) := ⟨rfl, rfl, rfl, by decide +kernel, rfl, by decide +kernel, by decide +kernel⟩
theorem sc_law_is_share : FnScope ["_law_found"] ["_law_found"] (defScope s_law_is_share) := ⟨rfl, rfl, rfl, by decide +kernel, rfl, by decide +kernel, by decide +kernel⟩
theorem sc_law_drawn : FnScope ["_law_dice_here", "_law_many", "_law_ways", "_law_ends_here", "_law_k", "_law_parts", "_law_whole_here", "_law_one", "_law_other"] ["_law_dice_here", "_law_many"] (defScope s_law_drawn) := ⟨rfl, rfl, rfl, by decide +kernel, rfl, by decide +kernel, by decide +kernel⟩
theorem sc_law_ends : FnScope ["_law_ways", "_law_rows", "_law_at", "_law_own", "_law_rest", "_law_k", "_law_factor", "_law_j"] ["_law_ways"] (defScope s_law_ends) := ⟨rfl, rfl, rfl, by decide +kernel, rfl, by decide +kernel, by decide +kernel⟩
theorem sc_law_refused : FnScope ["_law_ways", "_law_ends_here", "e", "_law_beside"] ["_law_ways", "_law_ends_here"] (defScope s_law_refused) := ⟨rfl, rfl, rfl, by decide +kernel, rfl, by decide +kernel, by decide +kernel⟩
theorem sc_law : FnScope ["_law_script", "_law_dice_here", "_law_ways", "_law_ends_here", "_law_handed", "_law_found", "_law_one", "_law_k", "_law_due", "_law_j"] ["_law_script"] (defScope s_law) := ⟨rfl, rfl, rfl, by decide +kernel, rfl, by decide +kernel, by decide +kernel⟩
section
variable {P : Program} {w : World} {K : PySem.W.Frag} {mg : Str → Option Value} {base : Heap}
theorem ok_common_divisor  (d : DefK K mg "common_divisor" s_common_divisor ["one", "other"])  : OkF P w K mg base CX0 2 "common_divisor" ["one", "other"] (spP K 2 C_gcd) := by
  refine ok_pure d sc_common_divisor rfl fun f cdv A outer s H E hr ds r hC B hB => ?_
  obtain ⟨a, b, rfl, rfl, ha, hb⟩ := hC
  refine w_while PassesOwn.never (fun Γ _ => ∃ (x y : Int) (z : Option D), Γ = [some (.int x), some (.int y), z] ∧ 0 ≤ x ∧ 0 ≤ y ∧ My.G x y = My.G a b) (fun Γ _ => match Γ with | [_, some (.int y), _] => y.toNat | _ => 0) ⟨a, b, none, rfl, ha, hb, rfl⟩ ?_
  rintro Γ Ω ⟨x, y, z, rfl, hx, hy, hg⟩
  refine ⟨_, (t_cmp (c_gt (p_var (i := 1) rfl (.inl rfl) rfl) p_int)), fun hk => ?_, fun hk => ?_⟩
  · have hk := of_decide_eq_true hk
    refine w_set (i := 2) sc_common_divisor.nd rfl (.inl rfl) (p_mod (p_var (i := 0) rfl (.inl rfl) rfl) (p_var (i := 1) rfl (.inl rfl) rfl) ?_) ?_
    · exact hk
    refine w_set (i := 0) sc_common_divisor.nd rfl (.inl rfl) (p_var (i := 1) rfl (.inl rfl) rfl) ?_
    refine w_set (i := 1) sc_common_divisor.nd rfl (.inl rfl) (p_var (i := 2) rfl (.inl rfl) rfl) ?_
    refine w_nil ⟨⟨y, x % y, _, rfl, hy, (emod_in hk).1, (G_turnE hx hk).trans hg⟩, ?_⟩
    have := emod_in (a := x) hk
    show (x % y).toNat < y.toNat
    omega
  · have hk := of_decide_eq_false hk
    refine w_ret (p_var (i := 0) rfl (.inl rfl) rfl) ?_
    have y0 : y = 0 := by omega
    subst y0
    rw [My.G_end hx] at hg
    show D.int x = D.int (My.G a b)
    rw [hg]
theorem ok_share (ht : P.given.tree = none) (d : DefK K mg "share" s_share ["top", "bottom"]) (o_common_divisor : OkF P w K mg base CX0 2 "common_divisor" ["one", "other"] (spP K 2 C_gcd)) : OkF P w K mg base CX0 33 "share" ["top", "bottom"] (spP K 2 C_share) := by
  refine ok_pure d sc_share rfl fun f cdv A outer s H E hr ds r hC B hB => ?_
  obtain ⟨t, b, rfl, rfl, h1, h2⟩ := hC
  have py : Pyl (cx0 P w K mg base ["top", "bottom", "divisor"] "share" s_share f cdv A outer s H E) := (pyl_cx ht rfl rfl hr (Nat.le_refl _)).nox
  have g0 := My.G_pos (a := t) h2
  refine w_if (t_cmp (c_lt (p_var (i := 0) rfl (.inl rfl) rfl) p_int)) ?_ ?_
  · intro hk; have hk := of_decide_eq_true hk; omega
  · intro hk
    refine w_nil ?_
    refine w_if (t_cmp (c_lt (p_var (i := 1) rfl (.inl rfl) rfl) p_int)) ?_ ?_
    · intro hk; have hk := of_decide_eq_true hk; omega
    · intro hk
      refine w_nil ?_
      refine w_set (i := 2) sc_share.nd rfl (.inl rfl) (p_call (d := .int (My.G t b)) o_common_divisor (hr.mono (by decide)) rfl (pl_cons (p_var (i := 0) rfl (.inl rfl) rfl) (pl_cons (p_var (i := 1) rfl (.inl rfl) rfl) pl_nil)) ?_) ?_
      · exact ⟨t, b, rfl, rfl, h1, Int.le_of_lt h2⟩
      refine w_ret (p_tup (pl_cons (p_fdivP py (p_var (i := 0) rfl (.inl rfl) rfl) (p_var (i := 2) rfl (.inl rfl) rfl) ?_) (pl_cons (p_fdivP py (p_var (i := 1) rfl (.inl rfl) rfl) (p_var (i := 2) rfl (.inl rfl) rfl) ?_) pl_nil))) ?_
      · exact g0
      · exact g0
      show D.tup [D.int (t / My.G t b), D.int (b / My.G t b)] = sh (Rat.divInt t b)
      unfold sh
      rw [← My.num_share h2, ← My.den_share h2, Int.fdiv_eq_ediv_of_nonneg _ (Int.le_of_lt g0), Int.fdiv_eq_ediv_of_nonneg _ (Int.le_of_lt g0)]
theorem ok_added (ht : P.given.tree = none) (d : DefK K mg "added" s_added ["one", "other"]) (o_common_divisor : OkF P w K mg base CX0 2 "common_divisor" ["one", "other"] (spP K 2 C_gcd)) : OkF P w K mg base CX0 33 "added" ["one", "other"] (spP K 2 C_added) := by
  refine ok_pure d sc_added rfl fun f cdv A outer s H E hr ds r hC B hB => ?_
  obtain ⟨p, q, m, n, rfl, rfl, hp, hq, s1, s2, l1, l2, -⟩ := hC
  have py : Pyl (cx0 P w K mg base ["one", "other", "divisor", "top", "left"] "added" s_added f cdv A outer s H E) := (pyl_cx ht rfl rfl hr (by decide)).nox
  have g0 : 0 < My.G p.den q.den := My.G_pos (My.den_pos' q)
  have n1 := My.q_num_nn hp
  have n2 := My.q_num_nn hq
  have c1 := dv_le (a := (p.den : Int)) (g := My.G p.den q.den) (Int.le_of_lt (My.den_pos' p)) g0
  have c2 := dv_le (a := (q.den : Int)) (g := My.G p.den q.den) (Int.le_of_lt (My.den_pos' q)) g0
  refine w_set (i := 2) sc_added.nd rfl (.inl rfl) (p_call (d := .int (My.G p.den q.den)) o_common_divisor (hr.mono (by decide)) rfl (pl_cons (p_ixT (p_var (i := 0) rfl (.inl rfl) rfl) p_int rfl) (pl_cons (p_ixT (p_var (i := 1) rfl (.inl rfl) rfl) p_int rfl) pl_nil)) ?_) ?_
  · exact ⟨_, _, rfl, rfl, Int.le_of_lt (My.den_pos' p), Int.le_of_lt (My.den_pos' q)⟩
  refine w_set (i := 3) sc_added.nd rfl (.inl rfl) (p_add (p_mul (p_ixT (p_var (i := 0) rfl (.inl rfl) rfl) p_int rfl) (p_fdivP py (p_ixT (p_var (i := 1) rfl (.inl rfl) rfl) p_int rfl) (p_var (i := 2) rfl (.inl rfl) rfl) ?_) ?_) (p_mul (p_ixT (p_var (i := 1) rfl (.inl rfl) rfl) p_int rfl) (p_fdivP py (p_ixT (p_var (i := 0) rfl (.inl rfl) rfl) p_int rfl) (p_var (i := 2) rfl (.inl rfl) rfl) ?_) ?_)) ?_
  · exact g0
  · exact mul_fit s1.1 (dv_fit c2 (den_abs s2)) (by have : big = 67108864 := rfl; omega)
  · exact g0
  · exact mul_fit s2.1 (dv_fit c1 (den_abs s1)) (by have : big = 67108864 := rfl; omega)
  have t0 : 0 ≤ p.num * ((q.den : Int) / My.G p.den q.den) + q.num * ((p.den : Int) / My.G p.den q.den) := Int.add_nonneg (Int.mul_nonneg n1 c2.1) (Int.mul_nonneg n2 c1.1)
  have e := My.add_num n1 n2
  generalize hT : p.num * ((q.den : Int) / My.G p.den q.den) + q.num * ((p.den : Int) / My.G p.den q.den) = T at *
  have h0 : 0 < My.G T (My.G p.den q.den) := My.G_pos g0
  have c3 := dv_le (a := (q.den : Int)) (g := My.G T (My.G p.den q.den)) (Int.le_of_lt (My.den_pos' q)) h0
  refine w_set (i := 4) sc_added.nd rfl (.inl rfl) (p_call (d := .int (My.G T (My.G p.den q.den))) o_common_divisor (hr.mono (by decide)) rfl (pl_cons (p_var (i := 3) rfl (.inl rfl) rfl) (pl_cons (p_var (i := 2) rfl (.inl rfl) rfl) pl_nil)) ?_) ?_
  · exact ⟨_, _, rfl, rfl, t0, Int.le_of_lt g0⟩
  refine w_ret (p_tup (pl_cons (p_fdivP py (p_var (i := 3) rfl (.inl rfl) rfl) (p_var (i := 4) rfl (.inl rfl) rfl) ?_) (pl_cons (p_mul (p_fdivP py (p_ixT (p_var (i := 0) rfl (.inl rfl) rfl) p_int rfl) (p_var (i := 2) rfl (.inl rfl) rfl) ?_) (p_fdivP py (p_ixT (p_var (i := 1) rfl (.inl rfl) rfl) p_int rfl) (p_var (i := 4) rfl (.inl rfl) rfl) ?_) ?_) pl_nil))) ?_
  · exact h0
  · exact g0
  · exact h0
  · exact mul_fit (dv_fit c1 (den_abs s1)) (dv_fit c3 (den_abs s2)) (by have : big = 67108864 := rfl; omega)
  show D.tup [D.int (T / My.G T (My.G p.den q.den)), D.int ((p.den : Int) / My.G p.den q.den * ((q.den : Int) / My.G T (My.G p.den q.den)))] = sh (p + q)
  unfold sh
  rw [e.1, e.2]
theorem ok_is_less  (d : DefK K mg "is_less" s_is_less ["one", "other"])  : OkF P w K mg base CX0 2 "is_less" ["one", "other"] (spP K 2 C_less) := by
  refine ok_pure d sc_is_less rfl fun f cdv A outer s H E hr ds r hC B hB => ?_
  obtain ⟨p, q, m, n, rfl, rfl, s1, s2, l1, l2⟩ := hC
  refine w_ret (p_cmp (c_lt (p_mul (p_ixT (p_var (i := 0) rfl (.inl rfl) rfl) p_int rfl) (p_ixT (p_var (i := 1) rfl (.inl rfl) rfl) p_int rfl) ?_) (p_mul (p_ixT (p_var (i := 1) rfl (.inl rfl) rfl) p_int rfl) (p_ixT (p_var (i := 0) rfl (.inl rfl) rfl) p_int rfl) ?_))) ?_
  · exact fit_nd s1 s2 l1 l2
  · exact fit_nd s2 s1 l2 l1
  · show D.bl (decide (p.num * q.den < q.num * p.den)) = D.bl (decide (p < q))
    rw [decide_eq_decide.mpr (My.q_lt p q)]
theorem ok_lessened  (d : DefK K mg "lessened" s_lessened ["one", "other"]) (o_share : OkF P w K mg base CX0 33 "share" ["top", "bottom"] (spP K 2 C_share)) (o_is_less : OkF P w K mg base CX0 2 "is_less" ["one", "other"] (spP K 2 C_less)) : OkF P w K mg base CX0 34 "lessened" ["one", "other"] (spP K 2 C_lessened) := by
  refine ok_pure d sc_lessened rfl fun f cdv A outer s H E hr ds r hC B hB => ?_
  obtain ⟨p, q, m, n, rfl, rfl, hp, hq, s1, s2, l1, l2, hle⟩ := hC
  refine w_if (t_val (p_call (d := .bl (decide (p < q))) o_is_less (hr.mono (by decide)) rfl (pl_cons (p_var (i := 0) rfl (.inl rfl) rfl) (pl_cons (p_var (i := 1) rfl (.inl rfl) rfl) pl_nil)) ?_)) ?_ ?_
  · exact ⟨p, q, m, n, rfl, rfl, s1, s2, l1, l2⟩
  · intro hk; have hk := of_decide_eq_true hk; exact absurd hk (Rat.not_lt.mpr hle)
  · intro hk
    refine w_nil ?_
    refine w_ret (p_call (d := sh (p - q)) o_share (hr.mono (by decide)) rfl (pl_cons (p_sub (p_mul (p_ixT (p_var (i := 0) rfl (.inl rfl) rfl) p_int rfl) (p_ixT (p_var (i := 1) rfl (.inl rfl) rfl) p_int rfl) ?_) (p_mul (p_ixT (p_var (i := 1) rfl (.inl rfl) rfl) p_int rfl) (p_ixT (p_var (i := 0) rfl (.inl rfl) rfl) p_int rfl) ?_)) (pl_cons (p_mul (p_ixT (p_var (i := 0) rfl (.inl rfl) rfl) p_int rfl) (p_ixT (p_var (i := 1) rfl (.inl rfl) rfl) p_int rfl) ?_) pl_nil)) ?_) ?_
    · exact fit_nd s1 s2 l1 l2
    · exact fit_nd s2 s1 l2 l1
    · exact fit_dd s1 s2 l1 l2
    · exact ⟨_, _, rfl, by rw [My.q_sub], sub_nn hle, dd_pos⟩
    · rfl
theorem ok_timed  (d : DefK K mg "timed" s_timed ["one", "other"]) (o_share : OkF P w K mg base CX0 33 "share" ["top", "bottom"] (spP K 2 C_share)) : OkF P w K mg base CX0 34 "timed" ["one", "other"] (spP K 2 C_timed) := by
  refine ok_pure d sc_timed rfl fun f cdv A outer s H E hr ds r hC B hB => ?_
  obtain ⟨p, q, m, n, rfl, rfl, hp, hq, s1, s2, l1, l2, -⟩ := hC
  have n1 := My.q_num_nn hp
  have n2 := My.q_num_nn hq
  have z1 := sz_divInt (n := max m n) (My.den_pos' q) (Nat.lt_of_lt_of_le s1.1 (pow_mono (Nat.le_max_left m n))) (Nat.lt_of_lt_of_le (den_abs s2) (pow_mono (Nat.le_max_right m n)))
  have z2 := sz_divInt (n := max m n) (My.den_pos' p) (Nat.lt_of_lt_of_le s2.1 (pow_mono (Nat.le_max_right m n))) (Nat.lt_of_lt_of_le (den_abs s1) (pow_mono (Nat.le_max_left m n)))
  refine w_set (i := 2) sc_timed.nd rfl (.inl rfl) (p_call (d := sh (Rat.divInt p.num q.den)) o_share (hr.mono (by decide)) rfl (pl_cons (p_ixT (p_var (i := 0) rfl (.inl rfl) rfl) p_int rfl) (pl_cons (p_ixT (p_var (i := 1) rfl (.inl rfl) rfl) p_int rfl) pl_nil)) ?_) ?_
  · exact ⟨_, _, rfl, rfl, n1, My.den_pos' q⟩
  refine w_set (i := 3) sc_timed.nd rfl (.inl rfl) (p_call (d := sh (Rat.divInt q.num p.den)) o_share (hr.mono (by decide)) rfl (pl_cons (p_ixT (p_var (i := 1) rfl (.inl rfl) rfl) p_int rfl) (pl_cons (p_ixT (p_var (i := 0) rfl (.inl rfl) rfl) p_int rfl) pl_nil)) ?_) ?_
  · exact ⟨_, _, rfl, rfl, n2, My.den_pos' p⟩
  refine w_ret (p_tup (pl_cons (p_mul (p_ixT (p_var (i := 2) rfl (.inl rfl) rfl) p_int rfl) (p_ixT (p_var (i := 3) rfl (.inl rfl) rfl) p_int rfl) ?_) (pl_cons (p_mul (p_ixT (p_var (i := 2) rfl (.inl rfl) rfl) p_int rfl) (p_ixT (p_var (i := 3) rfl (.inl rfl) rfl) p_int rfl) ?_) pl_nil))) ?_
  · exact fit_nn z1 z2 (by omega) (by omega)
  · exact fit_dd z1 z2 (by omega) (by omega)
  show D.tup [D.int ((Rat.divInt p.num q.den).num * (Rat.divInt q.num p.den).num), D.int (((Rat.divInt p.num q.den).den : Int) * ((Rat.divInt q.num p.den).den : Int))] = sh (p * q)
  exact (sh_mul p q).symm
theorem ok_parted (g_NOUGHT : GlobD K mg "NOUGHT" (sh 0)) (d : DefK K mg "parted" s_parted ["one", "other"]) (o_timed : OkF P w K mg base CX0 34 "timed" ["one", "other"] (spP K 2 C_timed)) : OkF P w K mg base CX0 35 "parted" ["one", "other"] (spP K 2 C_parted) := by
  refine ok_pure d sc_parted rfl fun f cdv A outer s H E hr ds r hC B hB => ?_
  obtain ⟨p, q, m, n, rfl, rfl, hp, hq, s1, s2, l1, l2, h0⟩ := hC
  have hu := hr.units
  refine w_if (t_cmp (c_eq hu (p_var (i := 1) rfl (.inl rfl) rfl) (p_globD g_NOUGHT rfl) kin_sh dep_sh)) ?_ ?_
  · intro hk
    rw [beq_sh] at hk
    have hk := of_decide_eq_true hk
    rw [hk] at h0
    exact absurd h0 (by decide)
  · intro hk
    refine w_nil ?_
    refine w_ret (p_call (d := sh (p / q)) o_timed (hr.mono (by decide)) rfl (pl_cons (p_var (i := 0) rfl (.inl rfl) rfl) (pl_cons (p_tup (pl_cons (p_ixT (p_var (i := 1) rfl (.inl rfl) rfl) p_int rfl) (pl_cons (p_ixT (p_var (i := 1) rfl (.inl rfl) rfl) p_int rfl) pl_nil))) pl_nil)) ?_) ?_
    · refine ⟨p, q⁻¹, m, n, by rw [sh_inv h0], by rw [Rat.div_def], hp, Rat.le_of_lt (Rat.inv_pos.mpr h0), s1, sz_inv h0 s2, l1, l2, trivial⟩
    · rfl
end
end Law
set_option Elab.async false
set_option linter.all false
set_option maxRecDepth 100000
set_option maxHeartbeats 4000000
namespace Law
open PySem L2 L3
section
variable {P : Program} {w : World} {K : PySem.W.Frag} {mg : Str → Option Value} {base : Heap}
theorem ok_cleared (g_NOUGHT : GlobD K mg "NOUGHT" (sh 0)) (d : DefK K mg "cleared" s_cleared ["row", "k"])  : OkF P w K mg base CX0 2 "cleared" ["row", "k"] (spP K 2 C_cleared) := by
  refine ok_pure d sc_cleared rfl fun f cdv A outer s H E hr ds r hC B hB => ?_
  obtain ⟨m, k', f', rfl, rfl, hk, hm⟩ := hC
  refine w_ret (p_cat (p_cat (PF3.p (pf_slice (p_var (i := 0) rfl (.inl rfl) rfl) o_none (o_some (p_var (i := 1) rfl (.inl rfl) rfl)))) (p_lst (pl_cons (p_globD g_NOUGHT rfl) pl_nil)) ?_) (PF3.p (pf_slice (p_var (i := 0) rfl (.inl rfl) rfl) (o_some (p_add (p_var (i := 1) rfl (.inl rfl) rfl) p_int)) o_none)) ?_) ?_
  · rw [cut_tbT (by omega), tb_take (by omega), tb_len]; show k' + 1 ≤ sizeLine; unfold sizeLine; omega
  · rw [List.length_append, cut_tbT (by omega), tb_take (by omega), tb_len, cut_tbD (by omega), List.length_drop, tb_len]; show k' + 1 + _ ≤ sizeLine; unfold sizeLine; omega
  · rw [cut_tbT (by omega), cut_tbD (by omega), clr_eq hk, tb_ite]
    rfl
theorem ok_without_itself (z : Zs mg) (g_NOUGHT : GlobD K mg "NOUGHT" (sh 0)) (g_ONE : GlobD K mg "ONE" (sh 1)) (d : DefK K mg "without_itself" s_without_itself ["row", "k"]) (o_is_less : OkF P w K mg base CX0 2 "is_less" ["one", "other"] (spP K 2 C_less)) (o_lessened : OkF P w K mg base CX0 34 "lessened" ["one", "other"] (spP K 2 C_lessened)) (o_parted : OkF P w K mg base CX0 35 "parted" ["one", "other"] (spP K 2 C_parted)) (o_cleared : OkF P w K mg base CX0 2 "cleared" ["row", "k"] (spP K 2 C_cleared)) : OkF P w K mg base CX0 36 "without_itself" ["row", "k"] (spP K 2 C_without) := by
  refine ok_pure d sc_without_itself rfl fun f cdv A outer s H E hr ds r hC B hB => ?_
  obtain ⟨m, k', s', f', rfl, rfl, hk, hm, nn, hb, h1⟩ := hC
  have a := nn k' hk
  have p := sub1_pos h1
  have hu := hr.units
  have sb : Sz (1 + s' + 1) (1 - f' k') := sz_sub sz_1 a.2
  refine w_if (t_cmp (c_eq hu (p_ixL (d := sh (f' k')) (p_var (i := 0) rfl (.inl rfl) rfl) (p_var (i := 1) rfl (.inl rfl) rfl) ?_) (p_globD g_NOUGHT rfl) kin_sh dep_sh)) ?_ ?_
  · exact atI_tb hk
  · intro hz
    rw [beq_sh] at hz
    have hz := of_decide_eq_true hz
    refine w_ret (p_var (i := 0) rfl (.inl rfl) rfl) ?_
    refine shR_congr fun j hj => ?_
    rw [hz]
    by_cases h : j = k'
    · rw [if_pos h, h, hz]
    · rw [if_neg h]; grind
  intro _
  refine w_nil ?_
  refine w_if (t_not (t_val (p_call (d := .bl true) o_is_less (hr.mono (by decide)) rfl (pl_cons (p_ixL (d := sh (f' k')) (p_var (i := 0) rfl (.inl rfl) rfl) (p_var (i := 1) rfl (.inl rfl) rfl) ?_) (pl_cons (p_globD g_ONE rfl) pl_nil)) ?_))) ?_ ?_
  · exact atI_tb hk
  · exact ⟨f' k', 1, s', 1, rfl, by rw [decide_eq_true h1], a.2, sz_1, by omega, by decide⟩
  · intro hk; cases hk
  · intro _
    refine w_nil ?_
    refine w_set (i := 2) sc_without_itself.nd rfl (.inr rfl) (p_call (d := sh (1 - f' k')) o_lessened (hr.mono (by decide)) rfl (pl_cons (p_globD g_ONE rfl) (pl_cons (p_ixL (d := sh (f' k')) (p_var (i := 0) rfl (.inl rfl) rfl) (p_var (i := 1) rfl (.inl rfl) rfl) ?_) pl_nil)) ?_) ?_
    · exact atI_tb hk
    · exact ⟨1, f' k', 1, s', rfl, rfl, by decide, a.1, sz_1, a.2, by decide, by omega, Rat.le_of_lt h1⟩
    refine w_ret (PF3.p (pf_comp (SX := defScope s_without_itself) (XN := ["row", "k", "left"]) (N := ["way", "left"]) (nt := 1) (caps := [2]) (pre := (fun i => tb i fun j => sh (if j = k' then 0 else f' j / (1 - f' k')))) ⟨rfl, by decide +kernel, by decide +kernel, by decide +kernel, rfl, by decide +kernel⟩ (i_list (p_call (d := shR m (fun j => if j = k' then 0 else f' j)) o_cleared (hr.mono (by decide)) rfl (pl_cons (p_var (i := 0) rfl (.inl rfl) rfl) (pl_cons (p_var (i := 1) rfl (.inl rfl) rfl) pl_nil)) ?_)) ?_ ?_ ?_)) ?_
    · exact ⟨m, k', f', rfl, rfl, hk, hm⟩
    · intro i hi; rw [tb_len] at hi ⊢; unfold sizeLine; omega
    · rfl
    · intro c i d hd
      have hi : i < m := by
        have := (List.getElem?_eq_some_iff.mp hd).1
        rwa [tb_len] at this
      rw [tb_get hi] at hd
      cases hd
      refine ⟨_, (g_name (i := 0) (show List.Nodup (α := Str) ["way", "left"] by decide +kernel) rfl (.inl rfl)), (Sub.set rfl), .inl ⟨sh (if i = k' then 0 else f' i / (1 - f' k')), ts_nil, (p_call (d := sh (if i = k' then 0 else f' i / (1 - f' k'))) o_parted (hr.mono (by decide)) rfl (pl_cons (p_var (i := 0) rfl (.inl rfl) rfl) (pl_cons (p_var (i := 1) rfl (.inr (.inl rfl)) rfl) pl_nil)) ?_), ?_⟩⟩
      · refine ⟨_, 1 - f' k', s' + 1, 1 + s' + 1, rfl, ?_, ?_, Rat.le_of_lt p, ?_, sb, by omega, by omega, p⟩
        · dsimp only
          by_cases h : i = k'
          · rw [if_pos h, if_pos h]; congr 1; grind
          · rw [if_neg h, if_neg h]
        · dsimp only
          by_cases h : i = k'
          · rw [if_pos h]; decide
          · rw [if_neg h]; exact (nn i hi).1
        · dsimp only
          by_cases h : i = k'
          · rw [if_pos h]; exact sz_0.mono (by omega)
          · rw [if_neg h]; exact (nn i hi).2.mono (by omega)
      · exact tb_succ
    · rw [tb_len]; rfl
theorem ok_put_in (z : Zs mg) (g_NOUGHT : GlobD K mg "NOUGHT" (sh 0)) (d : DefK K mg "put_in" s_put_in ["row", "k", "found"]) (o_added : OkF P w K mg base CX0 33 "added" ["one", "other"] (spP K 2 C_added)) (o_timed : OkF P w K mg base CX0 34 "timed" ["one", "other"] (spP K 2 C_timed)) (o_cleared : OkF P w K mg base CX0 2 "cleared" ["row", "k"] (spP K 2 C_cleared)) : OkF P w K mg base CX0 35 "put_in" ["row", "k", "found"] (spP K 3 C_put) := by
  refine ok_pure d sc_put_in rfl fun f cdv A outer s H E hr ds r hC B hB => ?_
  obtain ⟨m, k', s', f', g', rfl, rfl, hk, hm, nn, nng, hb, hg⟩ := hC
  have a := nn k' hk
  have hu := hr.units
  refine w_set (i := 3) sc_put_in.nd rfl (.inr rfl) (p_ixL (d := sh (f' k')) (p_var (i := 0) rfl (.inl rfl) rfl) (p_var (i := 1) rfl (.inl rfl) rfl) ?_) ?_
  · exact atI_tb hk
  refine w_if (t_cmp (c_eq hu (p_var (i := 3) rfl (.inr (.inl rfl)) rfl) (p_globD g_NOUGHT rfl) kin_sh dep_sh)) ?_ ?_
  · intro hz
    rw [beq_sh] at hz
    have hz := of_decide_eq_true hz
    refine w_ret (p_var (i := 0) rfl (.inl rfl) rfl) ?_
    refine shR_congr fun j hj => ?_
    rw [hz]
    by_cases h : j = k'
    · rw [if_pos h, h, hz]
    · rw [if_neg h]; grind
  · intro hz
    refine w_nil ?_
    refine w_ret (PF3.p (pf_comp (SX := defScope s_put_in) (XN := ["row", "k", "found", "way"]) (N := ["kept", "more", "way"]) (nt := 2) (caps := [3]) (pre := (fun i => tb i fun j => sh (if j = k' then 0 else f' j + f' k' * g' j))) ⟨rfl, by decide +kernel, by decide +kernel, by decide +kernel, rfl, by decide +kernel⟩ (i_zip z.zip rfl (p_call (d := shR m (fun j => if j = k' then 0 else f' j)) o_cleared (hr.mono (by decide)) rfl (pl_cons (p_var (i := 0) rfl (.inl rfl) rfl) (pl_cons (p_var (i := 1) rfl (.inl rfl) rfl) pl_nil)) ?_) (p_var (i := 2) rfl (.inl rfl) rfl)) ?_ ?_ ?_)) ?_
    · exact ⟨m, k', f', rfl, rfl, hk, hm⟩
    · intro i hi
      unfold zipD at hi
      rw [List.length_map, tb_zip, tb_len] at hi
      rw [tb_len]; unfold sizeLine; omega
    · rfl
    · intro c i d hd
      unfold zipD at hd
      rw [tb_zip] at hd
      have hi : i < m := by
        have := (List.getElem?_eq_some_iff.mp hd).1
        rwa [List.length_map, tb_len] at this
      rw [List.getElem?_map, tb_get hi] at hd
      cases hd
      have zs : Sz (s' + 1) (if i = k' then 0 else f' i) := by
        by_cases h : i = k'
        · rw [if_pos h]; exact sz_0.mono (by omega)
        · rw [if_neg h]; exact (nn i hi).2.mono (by omega)
      have zn : 0 ≤ (if i = k' then 0 else f' i) := by
        by_cases h : i = k'
        · rw [if_pos h]; decide
        · rw [if_neg h]; exact (nn i hi).1
      refine ⟨_, (g_tup rfl (gl_cons (g_name (i := 0) (show List.Nodup (α := Str) ["kept", "more", "way"] by decide +kernel) rfl (.inl rfl)) (gl_cons (g_name (i := 1) (show List.Nodup (α := Str) ["kept", "more", "way"] by decide +kernel) rfl (.inl rfl)) gl_nil))), (Sub.trans (Sub.set rfl) (Sub.set rfl)), .inl ⟨sh (if i = k' then 0 else f' i + f' k' * g' i), ts_nil, (p_ite (d := sh (if i = k' then 0 else f' i + f' k' * g' i)) (t_cmp (c_eq hu (p_var (i := 1) rfl (.inl rfl) rfl) (p_globD g_NOUGHT rfl) kin_sh dep_sh)) (fun hc => (p_eq (p_var (i := 0) rfl (.inl rfl) rfl) ?_)) (fun hc => (p_eq (p_call (d := sh (if i = k' then 0 else f' i + f' k' * g' i)) o_added (hr.mono (by decide)) rfl (pl_cons (p_var (i := 0) rfl (.inl rfl) rfl) (pl_cons (p_call (d := sh (f' k' * g' i)) o_timed (hr.mono (by decide)) rfl (pl_cons (p_var (i := 2) rfl (.inr (.inl rfl)) rfl) (pl_cons (p_var (i := 1) rfl (.inl rfl) rfl) pl_nil)) ?_) pl_nil)) ?_) ?_))), ?_⟩⟩
      · rw [beq_sh] at hc
        have hc := of_decide_eq_true hc
        show sh (if i = k' then 0 else f' i) = sh (if i = k' then 0 else f' i + f' k' * g' i)
        rw [hc]
        congr 1
        by_cases h : i = k'
        · rw [if_pos h, if_pos h]
        · rw [if_neg h, if_neg h]; grind
      · exact ⟨f' k', g' i, s', 2 * s' + 2, rfl, rfl, a.1, (nng i hi).1, a.2, (nng i hi).2, by omega, by omega, trivial⟩
      · refine ⟨_, f' k' * g' i, s' + 1, s' + (2 * s' + 2), rfl, ?_, zn, q_nn_mul a.1 (nng i hi).1, zs, sz_mul a.2 (nng i hi).2, by omega, by omega, trivial⟩
        dsimp only
        by_cases h : i = k'
        · rw [if_pos h, if_pos h, h, hg]; congr 1; grind
        · rw [if_neg h, if_neg h]
      · rfl
      · exact tb_succ
    · unfold zipD
      rw [List.length_map, tb_zip, tb_len]; rfl
end
end Law
set_option Elab.async false
set_option linter.all false
set_option maxRecDepth 100000
set_option maxHeartbeats 4000000
namespace Law
open PySem L2 L3
section
variable {P : Program} {w : World} {K : PySem.W.Frag} {mg : Str → Option Value} {base : Heap}
theorem ok_solved_rows (z : Zs mg) (d : DefK K mg "solved_rows" s_solved_rows ["ways", "ends"]) (o_without_itself : OkF P w K mg base CX0 36 "without_itself" ["row", "k"] (spP K 2 C_without)) (o_put_in : OkF P w K mg base CX0 35 "put_in" ["row", "k", "found"] (spP K 3 C_put)) : OkF P w K mg base CX0 37 "solved_rows" ["ways", "ends"] (spP K 2 C_rows) := by
  refine ok_pure d sc_solved_rows rfl fun f cdv A outer s H E hr ds r hC B hB => ?_
  obtain ⟨n, m, s', W, B', rfl, rfl, ⟨hn, hm, gW, ge, hb⟩, hp⟩ := hC
  have G0 := good_wM gW ge
  have pE := piv_wM (B := B') hp
  refine w_setC (i := 2) (SX := defScope s_solved_rows) (XN := ["ways", "ends", "rows", "k", "found"]) (N := ["k", "ways", "ends"]) (nt := 1) (caps := [0, 1]) (pre := (fun i => tb i fun r => shR (n + m) (wM n W B' r)))  ⟨rfl, by decide +kernel, by decide +kernel, by decide +kernel, rfl, by decide +kernel⟩ sc_solved_rows.nd rfl (.inl rfl)  (i_rangeN (n := n) z.range rfl (p_lenL z.len rfl (p_var (i := 1) rfl (.inr (.inl rfl)) rfl)) ?_ ?_) ?_ ?_ ?_ ?_
  · rw [tb_len]
  · omega
  · intro i hi; rw [nums_len] at hi; rw [tb_len]; unfold sizeLine; omega
  · rfl
  · intro c i d hd
    obtain ⟨hi, rfl⟩ := nums_lt hd
    rw [Nat.zero_add]
    refine ⟨_, (g_name (i := 0) (show List.Nodup (α := Str) ["k", "ways", "ends"] by decide +kernel) rfl (.inl rfl)), (Sub.set rfl), .inl ⟨shR (n + m) (wM n W B' i), ts_nil, (p_eq (p_cat (PF3.p (pf_list z.list rfl (p_ixL (d := shR n (W i)) (p_var (i := 1) rfl (.inr (.inl rfl)) rfl) (p_var (i := 0) rfl (.inl rfl) rfl) ?_) (.inl rfl))) (PF3.p (pf_list z.list rfl (p_ixL (d := shR m (B' i)) (p_var (i := 2) rfl (.inr (.inl rfl)) rfl) (p_var (i := 0) rfl (.inl rfl) rfl) ?_) (.inl rfl))) ?_) ?_), ?_⟩⟩
    · exact atI_tb hi
    · exact atI_tb hi
    · rw [tb_len, tb_len]; unfold sizeLine; omega
    · exact congrArg D.lst wM_row
    · exact tb_succ
  refine w_for PassesOwn.never rfl (i_rangeN (n := n) z.range rfl (p_lenL z.len rfl (p_var (i := 1) rfl (.inr (.inl rfl)) rfl)) ?_ ?_) (fun i Γ _ => ∃ a b, Γ = [some (shM n n W), some (shM n m B'), some (shM n (n + m) (EK (wM n W B') i)), a, b]) ?_ ?_ ?_
  · rw [tb_len]
  · omega
  · refine ⟨none, none, ?_⟩
    rw [nums_len]
    rfl
  · rintro k d Γ Ω hd ⟨a, b, rfl⟩
    obtain ⟨hk, rfl⟩ := nums_lt hd
    rw [Nat.zero_add]
    have Gk := G0.at (Nat.le_add_right n m) k (by omega) fun j hj => pE j (by omega)
    have hs : 4 * sK s' k + 3 ≤ big := Nat.le_trans (show sK s' (k + 1) ≤ sK s' n from sK_mono (by omega)) hb
    refine ⟨_, (g_name (i := 3) sc_solved_rows.nd rfl (.inr rfl)), ?_⟩
    refine w_set (i := 4) sc_solved_rows.nd rfl (.inr rfl) (p_call (d := shR (n + m) (fun j => if j = k then 0 else EK (wM n W B') k k j / (1 - EK (wM n W B') k k k))) o_without_itself (hr.mono (by decide)) rfl (pl_cons (p_ixL (d := shR (n + m) (EK (wM n W B') k k)) (p_var (i := 2) rfl (.inl rfl) rfl) (p_var (i := 3) rfl (.inr (.inl rfl)) rfl) ?_) (pl_cons (p_var (i := 3) rfl (.inr (.inl rfl)) rfl) pl_nil)) ?_) ?_
    · exact atI_tb hk
    · exact ⟨n + m, k, sK s' k, EK (wM n W B') k k, rfl, rfl, by omega, by omega, fun j hj => Gk k j hk hj, hs, pE k hk⟩
    refine w_setC (i := 2) (SX := defScope s_solved_rows) (XN := ["ways", "ends", "rows", "k", "found"]) (N := ["place", "row", "k", "found"]) (nt := 2) (caps := [3, 4]) (pre := (fun i => tb i fun r => shR (n + m) (stpE (EK (wM n W B') k) k r)))  ⟨rfl, by decide +kernel, by decide +kernel, by decide +kernel, rfl, by decide +kernel⟩ sc_solved_rows.nd rfl (.inl rfl)  (i_enum z.enumerate rfl (p_var (i := 2) rfl (.inl rfl) rfl)) ?_ ?_ ?_ ?_
    · intro i hi
      unfold enumD at hi
      rw [List.length_mapIdx, tb_len] at hi
      rw [tb_len]; unfold sizeLine; omega
    · rfl
    · intro c i d hd
      unfold enumD at hd
      rw [tb_mapIdx] at hd
      have hi : i < n := by
        have := (List.getElem?_eq_some_iff.mp hd).1
        rwa [tb_len] at this
      rw [tb_get hi] at hd
      cases hd
      refine ⟨_, (g_tup rfl (gl_cons (g_name (i := 0) (show List.Nodup (α := Str) ["place", "row", "k", "found"] by decide +kernel) rfl (.inl rfl)) (gl_cons (g_name (i := 1) (show List.Nodup (α := Str) ["place", "row", "k", "found"] by decide +kernel) rfl (.inl rfl)) gl_nil))), (Sub.trans (Sub.set rfl) (Sub.set rfl)), .inl ⟨shR (n + m) (stpE (EK (wM n W B') k) k i), ts_nil, (p_ite (d := shR (n + m) (stpE (EK (wM n W B') k) k i)) (t_cmp (c_eqI (p_var (i := 0) rfl (.inl rfl) rfl) (p_var (i := 2) rfl (.inr (.inl rfl)) rfl))) (fun hc => (p_eq (p_var (i := 3) rfl (.inr (.inl rfl)) rfl) ?_)) (fun hc => (p_eq (p_call (d := shR (n + m) (stpE (EK (wM n W B') k) k i)) o_put_in (hr.mono (by decide)) rfl (pl_cons (p_var (i := 1) rfl (.inl rfl) rfl) (pl_cons (p_var (i := 2) rfl (.inr (.inl rfl)) rfl) (pl_cons (p_var (i := 3) rfl (.inr (.inl rfl)) rfl) pl_nil))) ?_) ?_))), ?_⟩⟩
      · have hc := of_decide_eq_true hc
        have hc : i = k := by omega
        subst hc
        refine shR_congr fun j hj => ?_
        unfold stpE
        rw [if_pos rfl]
      · have hc := of_decide_eq_false hc
        have hc : ¬ i = k := by omega
        refine ⟨n + m, k, sK s' k, EK (wM n W B') k i, _, rfl, ?_, by omega, by omega, fun j hj => Gk i j hi hj, fun j hj => ?_, hs, if_pos rfl⟩
        · refine shR_congr fun j hj => ?_
          unfold stpE
          rw [if_neg hc]
          by_cases h : j = k
          · rw [if_pos h, if_pos h]
          · rw [if_neg h, if_neg h, if_neg h]
        · have x := (Gk.step hk (by omega) (pE k hk)) k j hk hj
          dsimp only
          by_cases h : j = k
          · rw [if_pos h]; exact ⟨by decide, sz_0.mono (by omega)⟩
          · rw [if_neg h]
            exact ⟨q_nn_div (Gk k j hk hj).1 (sub1_pos (pE k hk)), (sz_div (Gk k j hk hj).2 (sz_sub sz_1 (Gk k k hk (by omega)).2) (sub1_pos (pE k hk))).mono (by omega)⟩
      · rfl
      · exact tb_succ
    refine w_nil ?_
    unfold enumD
    rw [List.length_mapIdx, tb_len]
    exact ⟨_, _, rfl⟩
  · rintro Γ Ω ⟨a, b, rfl⟩
    rw [nums_len]
    refine w_ret (PF3.p (pf_comp (SX := defScope s_solved_rows) (XN := ["ways", "ends", "rows", "k", "found"]) (N := ["row", "ends"]) (nt := 1) (caps := [1]) (pre := (fun i => tb i fun r => shR m (fun j => EK (wM n W B') n r (n + j)))) ⟨rfl, by decide +kernel, by decide +kernel, by decide +kernel, rfl, by decide +kernel⟩ (i_list (p_var (i := 2) rfl (.inl rfl) rfl)) ?_ ?_ ?_)) ?_
    · intro i hi
      rw [tb_len] at hi ⊢
      unfold sizeLine; omega
    · rfl
    · intro c i d hd
      have hi : i < n := by
        have := (List.getElem?_eq_some_iff.mp hd).1
        rwa [tb_len] at this
      rw [tb_get hi] at hd
      cases hd
      refine ⟨_, (g_name (i := 0) (show List.Nodup (α := Str) ["row", "ends"] by decide +kernel) rfl (.inl rfl)), (Sub.set rfl), .inl ⟨shR m (fun j => EK (wM n W B') n i (n + j)), ts_nil, (p_eq (PF3.p (pf_slice (p_var (i := 0) rfl (.inl rfl) rfl) (o_some (p_lenL z.len rfl (p_var (i := 1) rfl (.inr (.inl rfl)) rfl))) o_none)) ?_), ?_⟩⟩
      · rw [tb_len, cut_drop (by rw [tb_len]; omega), tb_drop]
        rfl
      · exact tb_succ
    · rw [tb_len]
      rfl
theorem ok_solved  (d : DefK K mg "solved" s_solved ["ways", "ends"]) (o_solved_rows : OkF P w K mg base CX0 37 "solved_rows" ["ways", "ends"] (spP K 2 C_rows)) : OkF P w K mg base CX0 38 "solved" ["ways", "ends"] (spP K 2 C_solved) := by
  refine ok_pure d sc_solved rfl fun f cdv A outer s H E hr ds r hC B hB => ?_
  obtain ⟨n, s', W, e, rfl, rfl, hs, hp⟩ := hC
  have hn := hs.1
  refine w_ret (PF3.p (pf_comp (SX := defScope s_solved) (XN := ["ways", "ends"]) (N := ["row"]) (nt := 1) (caps := []) (pre := (fun i => tb i fun r => sh (EK (wE n W e) n r n))) ⟨rfl, by decide +kernel, by decide +kernel, by decide +kernel, rfl, by decide +kernel⟩ (i_list (p_call (d := shM n 1 (fun i j => EK (wE n W e) n i (n + j))) o_solved_rows (hr.mono (by decide)) rfl (pl_cons (p_var (i := 0) rfl (.inl rfl) rfl) (pl_cons (PF3.p (pf_comp (SX := defScope s_solved) (XN := ["ways", "ends"]) (N := ["end"]) (nt := 1) (caps := []) (pre := (fun i => tb i fun r => shR 1 (fun _ => e r))) ⟨rfl, by decide +kernel, by decide +kernel, by decide +kernel, rfl, by decide +kernel⟩ (i_list (p_var (i := 1) rfl (.inl rfl) rfl)) ?_ ?_ ?_)) pl_nil)) ?_)) ?_ ?_ ?_)) ?_
  · intro i hi; rw [tb_len] at hi ⊢; unfold sizeLine; omega
  · rfl
  · intro c i d hd
    have hi : i < n := by
      have := (List.getElem?_eq_some_iff.mp hd).1
      rwa [tb_len] at this
    rw [tb_get hi] at hd
    cases hd
    refine ⟨_, (g_name (i := 0) (show List.Nodup (α := Str) ["end"] by decide +kernel) rfl (.inl rfl)), (Sub.set rfl), .inl ⟨shR 1 (fun _ => e i), ts_nil, (p_eq (p_lst (pl_cons (p_var (i := 0) rfl (.inl rfl) rfl) pl_nil)) ?_), ?_⟩⟩
    · rfl
    · exact tb_succ
  · rw [tb_len]
    exact ⟨n, 1, s', W, fun r _ => e r, rfl, rfl, hs.m, hp⟩
  · intro i hi; rw [tb_len] at hi ⊢; unfold sizeLine; omega
  · rfl
  · intro c i d hd
    have hi : i < n := by
      have := (List.getElem?_eq_some_iff.mp hd).1
      rwa [tb_len] at this
    rw [tb_get hi] at hd
    cases hd
    refine ⟨_, (g_name (i := 0) (show List.Nodup (α := Str) ["row"] by decide +kernel) rfl (.inl rfl)), (Sub.set rfl), .inl ⟨sh (EK (wE n W e) n i n), ts_nil, (p_ixL (d := sh (EK (wE n W e) n i n)) (p_var (i := 0) rfl (.inl rfl) rfl) p_int ?_), ?_⟩⟩
    · exact atI_tb (k := 0) (by omega)
    · exact tb_succ
  · rw [tb_len]; rfl
end
end Law
set_option Elab.async false
set_option linter.all false
set_option maxRecDepth 100000
set_option maxHeartbeats 4000000
namespace Law
open PySem L2 L3
section
variable {P : Program} {w : World} {K : PySem.W.Frag} {mg : Str → Option Value} {base : Heap}
theorem ok_without_itselfX {A2 : Addr}  (z : Zs mg) (g_NOUGHT : GlobD K mg "NOUGHT" (sh 0)) (g_ONE : GlobD K mg "ONE" (sh 1)) (c2 : ExCls K A2) (m2 : mg "NoEnd" = some (.ref A2)) (d : DefK K mg "without_itself" s_without_itself ["row", "k"]) (o_is_less : OkF P w K mg base CX0 2 "is_less" ["one", "other"] (spP K 2 C_less)) : OkF P w K mg base (CXo P w) 35 "without_itself" ["row", "k"] (spX K 2 (C_withoutX A2)) := by
  refine ok_raises d sc_without_itself rfl fun f cdv A outer s H E hr ds r hC B hB hE => ?_
  obtain ⟨rfl, m, k', s', f', rfl, hk, hm, nn, hb, h1⟩ := hC
  have a := nn k' hk
  have hu := hr.units
  refine w_if (t_cmp (c_eq hu (p_ixL (d := sh (f' k')) (p_var (i := 0) rfl (.inl rfl) rfl) (p_var (i := 1) rfl (.inl rfl) rfl) ?_) (p_globD g_NOUGHT rfl) kin_sh dep_sh)) ?_ ?_
  · exact atI_tb hk
  · intro hz
    rw [beq_sh] at hz
    have hz := of_decide_eq_true hz
    rw [hz] at h1
    exact absurd (by decide) h1
  intro _
  refine w_nil ?_
  refine w_if (t_not (t_val (p_call (d := .bl false) o_is_less (hr.mono (by decide)) rfl (pl_cons (p_ixL (d := sh (f' k')) (p_var (i := 0) rfl (.inl rfl) rfl) (p_var (i := 1) rfl (.inl rfl) rfl) ?_) (pl_cons (p_globD g_ONE rfl) pl_nil)) ?_))) ?_ ?_
  · exact atI_tb hk
  · exact ⟨f' k', 1, s', 1, rfl, by rw [decide_eq_false h1], a.2, sz_1, hb, by decide⟩
  · intro _
    exact w_raise rfl c2 rfl m2 (pl_cons p_str pl_nil) flies_o fun F σ H S => hE _ _ _ _ _ S
  · intro h; cases h
theorem ok_solved_rowsX {A2 : Addr} (z : Zs mg) (d : DefK K mg "solved_rows" s_solved_rows ["ways", "ends"]) (o_without_itself : OkF P w K mg base CX0 36 "without_itself" ["row", "k"] (spP K 2 C_without)) (o_put_in : OkF P w K mg base CX0 35 "put_in" ["row", "k", "found"] (spP K 3 C_put)) (o_without_itselfX : OkF P w K mg base (CXo P w) 35 "without_itself" ["row", "k"] (spX K 2 (C_withoutX A2))) : OkF P w K mg base (CXo P w) 37 "solved_rows" ["ways", "ends"] (spX K 2 (C_rowsX A2)) := by
  refine ok_raises d sc_solved_rows rfl fun f cdv A outer s H E hr ds r hC B hB hE => ?_
  obtain ⟨rfl, n, m, s', W, B', rfl, ⟨hn, hm, gW, ge, hb⟩, hp⟩ := hC
  have G0 := good_wM gW ge
  refine w_setC (i := 2) (SX := defScope s_solved_rows) (XN := ["ways", "ends", "rows", "k", "found"]) (N := ["k", "ways", "ends"]) (nt := 1) (caps := [0, 1]) (pre := (fun i => tb i fun r => shR (n + m) (wM n W B' r)))  ⟨rfl, by decide +kernel, by decide +kernel, by decide +kernel, rfl, by decide +kernel⟩ sc_solved_rows.nd rfl (.inl rfl)  (i_rangeN (n := n) z.range rfl (p_lenL z.len rfl (p_var (i := 1) rfl (.inr (.inl rfl)) rfl)) ?_ ?_) ?_ ?_ ?_ ?_
  · rw [tb_len]
  · omega
  · intro i hi; rw [nums_len] at hi; rw [tb_len]; unfold sizeLine; omega
  · rfl
  · intro c i d hd
    obtain ⟨hi, rfl⟩ := nums_lt hd
    rw [Nat.zero_add]
    refine ⟨_, (g_name (i := 0) (show List.Nodup (α := Str) ["k", "ways", "ends"] by decide +kernel) rfl (.inl rfl)), (Sub.set rfl), .inl ⟨shR (n + m) (wM n W B' i), ts_nil, (p_eq (p_cat (PF3.p (pf_list z.list rfl (p_ixL (d := shR n (W i)) (p_var (i := 1) rfl (.inr (.inl rfl)) rfl) (p_var (i := 0) rfl (.inl rfl) rfl) ?_) (.inl rfl))) (PF3.p (pf_list z.list rfl (p_ixL (d := shR m (B' i)) (p_var (i := 2) rfl (.inr (.inl rfl)) rfl) (p_var (i := 0) rfl (.inl rfl) rfl) ?_) (.inl rfl))) ?_) ?_), ?_⟩⟩
    · exact atI_tb hi
    · exact atI_tb hi
    · rw [tb_len, tb_len]; unfold sizeLine; omega
    · exact congrArg D.lst wM_row
    · exact tb_succ
  refine w_for PassesOwn.leaving rfl (i_rangeN (n := n) z.range rfl (p_lenL z.len rfl (p_var (i := 1) rfl (.inr (.inl rfl)) rfl)) ?_ ?_) (fun i Γ _ => (∀ j, j < i → EK (wM n W B') j j j < 1) ∧ ∃ a b, Γ = [some (shM n n W), some (shM n m B'), some (shM n (n + m) (EK (wM n W B') i)), a, b]) ?_ ?_ ?_
  · rw [tb_len]
  · omega
  · refine ⟨fun j hj => absurd hj (by omega), none, none, ?_⟩
    rw [nums_len]
    rfl
  · rintro k d Γ Ω hd ⟨pE, a, b, rfl⟩
    obtain ⟨hk, rfl⟩ := nums_lt hd
    rw [Nat.zero_add]
    have Gk := G0.at (Nat.le_add_right n m) k (by omega) fun j hj => pE j (by omega)
    have hs : 4 * sK s' k + 3 ≤ big := Nat.le_trans (show sK s' (k + 1) ≤ sK s' n from sK_mono (by omega)) hb
    refine ⟨_, (g_name (i := 3) sc_solved_rows.nd rfl (.inr rfl)), ?_⟩
    by_cases pk : EK (wM n W B') k k k < 1
    case neg =>
      refine w_setR (i := 4) sc_solved_rows.nd rfl (.inr rfl) (r_call o_without_itselfX (pass_o fun _ _ _ q => q) (hr.mono (by decide)) rfl (pl_cons (p_ixL (d := shR (n + m) (EK (wM n W B') k k)) (p_var (i := 2) rfl (.inl rfl) rfl) (p_var (i := 3) rfl (.inr (.inl rfl)) rfl) ?_) (pl_cons (p_var (i := 3) rfl (.inr (.inl rfl)) rfl) pl_nil)) ?_ fun F σ H S => hE _ _ _ _ _ S)
      · exact atI_tb hk
      · exact ⟨rfl, n + m, k, sK s' k, EK (wM n W B') k k, rfl, by omega, by omega, fun j hj => Gk k j hk hj, by omega, pk⟩
    refine w_set (i := 4) sc_solved_rows.nd rfl (.inr rfl) (p_call (d := shR (n + m) (fun j => if j = k then 0 else EK (wM n W B') k k j / (1 - EK (wM n W B') k k k))) o_without_itself (hr.mono (by decide)) rfl (pl_cons (p_ixL (d := shR (n + m) (EK (wM n W B') k k)) (p_var (i := 2) rfl (.inl rfl) rfl) (p_var (i := 3) rfl (.inr (.inl rfl)) rfl) ?_) (pl_cons (p_var (i := 3) rfl (.inr (.inl rfl)) rfl) pl_nil)) ?_) ?_
    · exact atI_tb hk
    · exact ⟨n + m, k, sK s' k, EK (wM n W B') k k, rfl, rfl, by omega, by omega, fun j hj => Gk k j hk hj, hs, pk⟩
    refine w_setC (i := 2) (SX := defScope s_solved_rows) (XN := ["ways", "ends", "rows", "k", "found"]) (N := ["place", "row", "k", "found"]) (nt := 2) (caps := [3, 4]) (pre := (fun i => tb i fun r => shR (n + m) (stpE (EK (wM n W B') k) k r)))  ⟨rfl, by decide +kernel, by decide +kernel, by decide +kernel, rfl, by decide +kernel⟩ sc_solved_rows.nd rfl (.inl rfl)  (i_enum z.enumerate rfl (p_var (i := 2) rfl (.inl rfl) rfl)) ?_ ?_ ?_ ?_
    · intro i hi
      unfold enumD at hi
      rw [List.length_mapIdx, tb_len] at hi
      rw [tb_len]; unfold sizeLine; omega
    · rfl
    · intro c i d hd
      unfold enumD at hd
      rw [tb_mapIdx] at hd
      have hi : i < n := by
        have := (List.getElem?_eq_some_iff.mp hd).1
        rwa [tb_len] at this
      rw [tb_get hi] at hd
      cases hd
      refine ⟨_, (g_tup rfl (gl_cons (g_name (i := 0) (show List.Nodup (α := Str) ["place", "row", "k", "found"] by decide +kernel) rfl (.inl rfl)) (gl_cons (g_name (i := 1) (show List.Nodup (α := Str) ["place", "row", "k", "found"] by decide +kernel) rfl (.inl rfl)) gl_nil))), (Sub.trans (Sub.set rfl) (Sub.set rfl)), .inl ⟨shR (n + m) (stpE (EK (wM n W B') k) k i), ts_nil, (p_ite (d := shR (n + m) (stpE (EK (wM n W B') k) k i)) (t_cmp (c_eqI (p_var (i := 0) rfl (.inl rfl) rfl) (p_var (i := 2) rfl (.inr (.inl rfl)) rfl))) (fun hc => (p_eq (p_var (i := 3) rfl (.inr (.inl rfl)) rfl) ?_)) (fun hc => (p_eq (p_call (d := shR (n + m) (stpE (EK (wM n W B') k) k i)) o_put_in (hr.mono (by decide)) rfl (pl_cons (p_var (i := 1) rfl (.inl rfl) rfl) (pl_cons (p_var (i := 2) rfl (.inr (.inl rfl)) rfl) (pl_cons (p_var (i := 3) rfl (.inr (.inl rfl)) rfl) pl_nil))) ?_) ?_))), ?_⟩⟩
      · have hc := of_decide_eq_true hc
        have hc : i = k := by omega
        subst hc
        refine shR_congr fun j hj => ?_
        unfold stpE
        rw [if_pos rfl]
      · have hc := of_decide_eq_false hc
        have hc : ¬ i = k := by omega
        refine ⟨n + m, k, sK s' k, EK (wM n W B') k i, _, rfl, ?_, by omega, by omega, fun j hj => Gk i j hi hj, fun j hj => ?_, hs, if_pos rfl⟩
        · refine shR_congr fun j hj => ?_
          unfold stpE
          rw [if_neg hc]
          by_cases h : j = k
          · rw [if_pos h, if_pos h]
          · rw [if_neg h, if_neg h, if_neg h]
        · dsimp only
          by_cases h : j = k
          · rw [if_pos h]; exact ⟨by decide, sz_0.mono (by omega)⟩
          · rw [if_neg h]
            exact ⟨q_nn_div (Gk k j hk hj).1 (sub1_pos pk), (sz_div (Gk k j hk hj).2 (sz_sub sz_1 (Gk k k hk (by omega)).2) (sub1_pos pk)).mono (by omega)⟩
      · rfl
      · exact tb_succ
    refine w_nil ?_
    unfold enumD
    rw [List.length_mapIdx, tb_len]
    refine ⟨fun j hj => ?_, _, _, rfl⟩
    rcases Nat.lt_or_ge j k with q | q
    · exact pE j q
    · rw [show j = k by omega]; exact pk
  · rintro Γ Ω ⟨pE, a, b, rfl⟩
    rw [nums_len] at pE
    refine absurd (fun k hk => ?_) hp
    rw [← EK_cols (wM_cols (B := B')) k (by omega) k k hk hk]
    exact pE k hk
theorem ok_solvedX {A2 : Addr} (d : DefK K mg "solved" s_solved ["ways", "ends"]) (o_solved_rowsX : OkF P w K mg base (CXo P w) 37 "solved_rows" ["ways", "ends"] (spX K 2 (C_rowsX A2))) : OkF P w K mg base (CXo P w) 38 "solved" ["ways", "ends"] (spX K 2 (C_solvedX A2)) := by
  refine ok_raises d sc_solved rfl fun f cdv A outer s H E hr ds r hC B hB hE => ?_
  obtain ⟨rfl, n, s', W, e, rfl, hs, hp⟩ := hC
  have hn := hs.1
  refine w_retR (r_comp (SX := defScope s_solved) (XN := ["ways", "ends"]) (N := ["row"]) (nt := 1) (caps := []) ⟨rfl, by decide +kernel, by decide +kernel, by decide +kernel, rfl, by decide +kernel⟩ (r_call o_solved_rowsX (pass_o fun _ _ _ q => q) (hr.mono (by decide)) rfl (pl_cons (p_var (i := 0) rfl (.inl rfl) rfl) (pl_cons (PF3.p (pf_comp (SX := defScope s_solved) (XN := ["ways", "ends"]) (N := ["end"]) (nt := 1) (caps := []) (pre := (fun i => tb i fun r => shR 1 (fun _ => e r))) ⟨rfl, by decide +kernel, by decide +kernel, by decide +kernel, rfl, by decide +kernel⟩ (i_list (p_var (i := 1) rfl (.inl rfl) rfl)) ?_ ?_ ?_)) pl_nil)) ?_ fun F σ H S => hE _ _ _ _ _ S))
  · intro i hi; rw [tb_len] at hi ⊢; unfold sizeLine; omega
  · rfl
  · intro c i d hd
    have hi : i < n := by
      have := (List.getElem?_eq_some_iff.mp hd).1
      rwa [tb_len] at this
    rw [tb_get hi] at hd
    cases hd
    refine ⟨_, (g_name (i := 0) (show List.Nodup (α := Str) ["end"] by decide +kernel) rfl (.inl rfl)), (Sub.set rfl), .inl ⟨shR 1 (fun _ => e i), ts_nil, (p_eq (p_lst (pl_cons (p_var (i := 0) rfl (.inl rfl) rfl) pl_nil)) ?_), ?_⟩⟩
    · rfl
    · exact tb_succ
  · rw [tb_len]
    exact ⟨rfl, n, 1, s', W, fun r _ => e r, rfl, hs.m, hp⟩
end
end Law
set_option Elab.async false
set_option linter.all false
set_option maxRecDepth 100000
set_option maxHeartbeats 4000000
namespace Law
open PySem L2 L3
section
variable {P : Program} {w : World} {K : PySem.W.Frag} {mg : Str → Option Value} {base : Heap}
theorem ok_law_cell_at (z : Zs mg) (d : DefK K mg "_law_cell_at" s_law_cell_at ["_law_script", "_law_k"])  : OkF P w K mg base CX0 2 "_law_cell_at" ["_law_script", "_law_k"] (spP K 2 C_cell) := by
  refine ok_pure d sc_law_cell_at rfl fun f cdv A outer s H E hr ds r hC B hB => ?_
  obtain ⟨ns, k, rfl, rfl⟩ := hC
  refine w_if (t_cmp (c_lt (p_var (i := 1) rfl (.inl rfl) rfl) (p_lenI z.len rfl (p_var (i := 0) rfl (.inl rfl) rfl)))) ?_ ?_
  · intro hk
    have hk := of_decide_eq_true hk
    refine w_ret (p_ixI (n := ns.getD k 0) (p_var (i := 0) rfl (.inl rfl) rfl) (p_var (i := 1) rfl (.inl rfl) rfl) ?_) ?_
    · have hk' : k < ns.length := by omega
      show atI ns (k : Int) = some (ns.getD k 0)
      unfold atI ixN
      rw [if_pos (by omega), if_pos (by omega)]
      show ns[((k : Int)).toNat]? = _
      rw [Int.toNat_natCast, List.getD_eq_getElem?_getD, List.getElem?_eq_getElem hk']
      rfl
    · rfl
  · intro hk
    have hk := of_decide_eq_false hk
    refine w_nil ?_
    refine w_ret p_int ?_
    show D.int 0 = D.int (ns.getD k 0)
    rw [List.getD_eq_getElem?_getD, List.getElem?_eq_none_iff.mpr (by omega)]
    rfl
theorem ok_law_whole (z : Zs mg) (d : DefK K mg "_law_whole" s_law_whole ["_law_found"])  : OkF P w K mg base CX0 2 "_law_whole" ["_law_found"] (spP K 1 C_whole) := by
  refine ok_pure d sc_law_whole rfl fun f cdv A outer s H E hr ds r hC B hB => ?_
  obtain ⟨i, rfl, rfl⟩ := hC
  refine w_ret (p_and (p_isin (k := true) z.isinstance rfl (p_var (i := 0) rfl (.inl rfl) rfl) (p_bltn rfl z.int bt_int (v := .ty "int") rfl) rfl (by rfl) (fun z => nomatch z)) fun _ => (p_one (p_not (p_isin (k := false) z.isinstance rfl (p_var (i := 0) rfl (.inl rfl) rfl) (p_bltn rfl z.bool bt_bool (v := .ty "bool") rfl) rfl (by rfl) (fun z => nomatch z))))) ?_
  rfl
theorem ok_law_share (ht : P.given.tree = none) (d : DefK K mg "_law_share" s_law_share ["_law_top", "_law_bottom"])  : OkF P w K mg base CX0 33 "_law_share" ["_law_top", "_law_bottom"] (spP K 2 C_share) := by
  refine ok_pure d sc_law_share rfl fun f cdv A outer s H E hr ds r hC B hB => ?_
  obtain ⟨t, b, rfl, rfl, h1, h2⟩ := hC
  have py : Pyl (cx0 P w K mg base ["_law_top", "_law_bottom", "_law_one", "_law_other", "_law_rest"] "_law_share" s_law_share f cdv A outer s H E) := (pyl_cx ht rfl rfl hr (Nat.le_refl _)).nox
  have g0 := My.G_pos (a := t) h2
  refine w_set (i := 2) sc_law_share.nd rfl (.inl rfl) (p_var (i := 0) rfl (.inl rfl) rfl) ?_
  refine w_set (i := 3) sc_law_share.nd rfl (.inl rfl) (p_var (i := 1) rfl (.inl rfl) rfl) ?_
  refine w_while PassesOwn.never (fun Γ _ => ∃ (x y : Int) (z : Option D), Γ = [some (.int t), some (.int b), some (.int x), some (.int y), z] ∧ 0 ≤ x ∧ 0 ≤ y ∧ My.G x y = My.G t b) (fun Γ _ => match Γ with | [_, _, _, some (.int y), _] => y.toNat | _ => 0) ⟨t, b, none, rfl, h1, Int.le_of_lt h2, rfl⟩ ?_
  rintro Γ Ω ⟨x, y, z, rfl, hx, hy, hg⟩
  refine ⟨_, (t_cmp (c_gt (p_var (i := 3) rfl (.inl rfl) rfl) p_int)), fun hk => ?_, fun hk => ?_⟩
  · have hk := of_decide_eq_true hk
    refine w_set (i := 4) sc_law_share.nd rfl (.inl rfl) (p_mod (p_var (i := 2) rfl (.inl rfl) rfl) (p_var (i := 3) rfl (.inl rfl) rfl) ?_) ?_
    · exact hk
    refine w_set (i := 2) sc_law_share.nd rfl (.inl rfl) (p_var (i := 3) rfl (.inl rfl) rfl) ?_
    refine w_set (i := 3) sc_law_share.nd rfl (.inl rfl) (p_var (i := 4) rfl (.inl rfl) rfl) ?_
    refine w_nil ⟨⟨y, x % y, _, rfl, hy, (emod_in hk).1, (G_turnE hx hk).trans hg⟩, ?_⟩
    have := emod_in (a := x) hk
    show (x % y).toNat < y.toNat
    omega
  · have hk := of_decide_eq_false hk
    have y0 : y = 0 := by omega
    subst y0
    rw [My.G_end hx] at hg
    subst hg
    refine w_ret (p_tup (pl_cons (p_fdivP py (p_var (i := 0) rfl (.inl rfl) rfl) (p_var (i := 2) rfl (.inl rfl) rfl) ?_) (pl_cons (p_fdivP py (p_var (i := 1) rfl (.inl rfl) rfl) (p_var (i := 2) rfl (.inl rfl) rfl) ?_) pl_nil))) ?_
    · exact g0
    · exact g0
    show D.tup [D.int (t / My.G t b), D.int (b / My.G t b)] = sh (Rat.divInt t b)
    unfold sh
    rw [← My.num_share h2, ← My.den_share h2, Int.fdiv_eq_ediv_of_nonneg _ (Int.le_of_lt g0), Int.fdiv_eq_ediv_of_nonneg _ (Int.le_of_lt g0)]
theorem ok_law_added  (d : DefK K mg "_law_added" s_law_added ["_law_one", "_law_other"]) (o_law_share : OkF P w K mg base CX0 33 "_law_share" ["_law_top", "_law_bottom"] (spP K 2 C_share)) : OkF P w K mg base CX0 34 "_law_added" ["_law_one", "_law_other"] (spP K 2 C_added) := by
  refine ok_pure d sc_law_added rfl fun f cdv A outer s H E hr ds r hC B hB => ?_
  obtain ⟨p, q, m, n, rfl, rfl, hp, hq, s1, s2, l1, l2, -⟩ := hC
  refine w_ret (p_call (d := sh (p + q)) o_law_share (hr.mono (by decide)) rfl (pl_cons (p_add (p_mul (p_ixT (p_var (i := 0) rfl (.inl rfl) rfl) p_int rfl) (p_ixT (p_var (i := 1) rfl (.inl rfl) rfl) p_int rfl) ?_) (p_mul (p_ixT (p_var (i := 1) rfl (.inl rfl) rfl) p_int rfl) (p_ixT (p_var (i := 0) rfl (.inl rfl) rfl) p_int rfl) ?_)) (pl_cons (p_mul (p_ixT (p_var (i := 0) rfl (.inl rfl) rfl) p_int rfl) (p_ixT (p_var (i := 1) rfl (.inl rfl) rfl) p_int rfl) ?_) pl_nil)) ?_) ?_
  · exact fit_nd s1 s2 l1 l2
  · exact fit_nd s2 s1 l2 l1
  · exact fit_dd s1 s2 l1 l2
  · exact ⟨_, _, rfl, by rw [My.q_add], sum_nn hp hq, dd_pos⟩
  · rfl
theorem ok_law_timed  (d : DefK K mg "_law_timed" s_law_timed ["_law_one", "_law_other"]) (o_law_share : OkF P w K mg base CX0 33 "_law_share" ["_law_top", "_law_bottom"] (spP K 2 C_share)) : OkF P w K mg base CX0 34 "_law_timed" ["_law_one", "_law_other"] (spP K 2 C_timed) := by
  refine ok_pure d sc_law_timed rfl fun f cdv A outer s H E hr ds r hC B hB => ?_
  obtain ⟨p, q, m, n, rfl, rfl, hp, hq, s1, s2, l1, l2, -⟩ := hC
  refine w_ret (p_call (d := sh (p * q)) o_law_share (hr.mono (by decide)) rfl (pl_cons (p_mul (p_ixT (p_var (i := 0) rfl (.inl rfl) rfl) p_int rfl) (p_ixT (p_var (i := 1) rfl (.inl rfl) rfl) p_int rfl) ?_) (pl_cons (p_mul (p_ixT (p_var (i := 0) rfl (.inl rfl) rfl) p_int rfl) (p_ixT (p_var (i := 1) rfl (.inl rfl) rfl) p_int rfl) ?_) pl_nil)) ?_) ?_
  · exact fit_nn s1 s2 l1 l2
  · exact fit_dd s1 s2 l1 l2
  · exact ⟨_, _, rfl, by rw [My.q_mul], Int.mul_nonneg (My.q_num_nn hp) (My.q_num_nn hq), dd_pos⟩
  · rfl
theorem ok_law_is_share (z : Zs mg) (d : DefK K mg "_law_is_share" s_law_is_share ["_law_found"]) (o_law_whole : OkF P w K mg base CX0 2 "_law_whole" ["_law_found"] (spP K 1 C_whole)) : OkF P w K mg base CX0 3 "_law_is_share" ["_law_found"] (spP K 1 C_isShare) := by
  refine ok_pure d sc_law_is_share rfl fun f cdv A outer s H E hr ds r hC B hB => ?_
  obtain ⟨q, rfl, rfl, hq⟩ := hC
  refine w_if (PW3.t (tw_or (t_not (t_val (p_isin (k := true) z.isinstance rfl (p_var (i := 0) rfl (.inl rfl) rfl) (p_bltn rfl z.tuple bt_tuple (v := .ty "tuple") rfl) rfl (by rfl) (fun z => nomatch z)))) fun _ => (tw_or1 (t_cmp (c_neI (p_lenT z.len rfl (p_var (i := 0) rfl (.inl rfl) rfl)) p_int))))) ?_ ?_
  · intro h; exact absurd h (by simp)
  · intro _
    refine w_nil ?_
    refine w_ret (p_and (p_call (d := .bl true) o_law_whole (hr.mono (by decide)) rfl (pl_cons (p_ixT (p_var (i := 0) rfl (.inl rfl) rfl) p_int rfl) pl_nil) ?_) fun _ => (p_and (p_call (d := .bl true) o_law_whole (hr.mono (by decide)) rfl (pl_cons (p_ixT (p_var (i := 0) rfl (.inl rfl) rfl) p_int rfl) pl_nil) ?_) fun _ => (p_and (p_cmp (c_ge (p_ixT (p_var (i := 0) rfl (.inl rfl) rfl) p_int rfl) p_int)) fun _ => (p_one (p_cmp (c_ge (p_ixT (p_var (i := 0) rfl (.inl rfl) rfl) p_int rfl) p_int)))))) ?_
    · exact ⟨_, rfl, rfl⟩
    · exact ⟨_, rfl, rfl⟩
    · have n0 := My.q_num_nn hq
      have d0 := My.den_pos' q
      show D.bl (true && (true && (decide (0 ≤ q.num) && decide (1 ≤ (q.den : Int))))) = D.bl true
      rw [decide_eq_true n0, decide_eq_true (show (1 : Int) ≤ q.den by omega)]
      rfl
theorem ok_law_dice (d : DefK K mg "_law_dice" s_law_dice ["_law_cell"]) : OkF P w K mg base CX0 2 "_law_dice" ["_law_cell"] spDice := by
  refine d.ok (k := 1) sc_law_dice (fun vs H Q E h => ?_) (fun f cdv A outer s H vs Q E hr h => ⟨_, pss_one (ps_ret (pe_lst (pa_cons (pe_op op_mod (pv 0) pe_int) pa_nil))), ?_⟩)
  · obtain ⟨c, rfl, _⟩ := h
    rfl
  · obtain ⟨c, rfl, q⟩ := h
    have m := emod_in (a := c) (show (0 : Int) < 2147483647 by decide)
    exact ⟨_, rfl, _, _, rfl, rfl, (by show (0 : Int) < 2147483647; decide), (by show 1 ≤ sizeLine; decide), fun p hp => q p _ hp m.1 m.2⟩
theorem ok_law_roll (d : DefK K mg "_law_roll" s_law_roll ["_law_dice_here", "_law_most"]) : OkF P w K mg base CX0 2 "_law_roll" ["_law_dice_here", "_law_most"] spRoll := by
  refine d.ok (k := 1) sc_law_roll (fun vs H Q E h => ?_) (fun f cdv A outer s H vs Q E hr h => ⟨_, pss_cons (ps_asg (pe_op op_mod (pe_op op_add (pe_op op_mulI (pe_ix ix_list (pv 0) pe_int (fun _ _ => rfl)) pe_int) pe_int) pe_int) (pg_sub (pv 0) pe_int set_list)) (pss_one (ps_ret (pe_op op_mod (pe_op op_fdiv (pe_ix ix_list (pv 0) pe_int (fun _ _ => rfl)) pe_int) (pv 1)))), ?_⟩)
  · obtain ⟨a, m, x, rfl, _⟩ := h
    rfl
  · obtain ⟨a, m, x, rfl, h1, h2, hH, x0, x1, q⟩ := h
    have mm := emod_in (a := x * 48271 + 11) (show (0 : Int) < 2147483647 by decide)
    have mr := emod_in (a := (x * 48271 + 11) % 2147483647 / 7) h1
    refine ⟨_, rfl, a, _, _, _, rfl, rfl, SqL.of hH, atI_nat (j := 0) rfl, _, _, rfl, rfl, mul_small (by decide), _, _, rfl, rfl, _, _, rfl, rfl, (by show (0 : Int) < 2147483647; decide), ?_⟩
    refine ⟨_, rfl, a, _, _, 0, rfl, rfl, hH, rfl, ?_⟩
    refine ⟨_, rfl, a, _, _, _, rfl, rfl, SqL.of upd_same, atI_nat (j := 0) rfl, _, _, rfl, rfl, (by constructor <;> decide), _, rfl, _, _, rfl, rfl, h1, ?_⟩
    exact q _ _ mm.1 mm.2 mr.1 mr.2
end
end Law
set_option Elab.async false
set_option linter.all false
set_option maxRecDepth 100000
set_option maxHeartbeats 4000000
namespace Law
open PySem L2 L3
section
variable {P : Program} {w : World} {K : PySem.W.Frag} {mg : Str → Option Value} {base : Heap}
theorem ok_law_ends (z : Zs mg) (d : DefK K mg "_law_ends" s_law_ends ["_law_ways"]) (o_law_share : OkF P w K mg base CX0 33 "_law_share" ["_law_top", "_law_bottom"] (spP K 2 C_share)) (o_law_added : OkF P w K mg base CX0 34 "_law_added" ["_law_one", "_law_other"] (spP K 2 C_added)) (o_law_timed : OkF P w K mg base CX0 34 "_law_timed" ["_law_one", "_law_other"] (spP K 2 C_timed)) : OkF P w K mg base CX0 35 "_law_ends" ["_law_ways"] (spP K 1 C_ends) := by
  refine ok_pure d sc_law_ends rfl fun f cdv A outer s H E hr ds r hC B hB => ?_
  obtain ⟨n, s', W, b, rfl, rfl, hb, hn, gW, hsz⟩ := hC
  refine w_setCV (i := 1) (SX := defScope s_law_ends) (XN := ["_law_ways", "_law_rows", "_law_at", "_law_own", "_law_rest", "_law_k", "_law_factor", "_law_j"]) (N := ["_law_row"]) (nt := 1) (caps := []) ⟨rfl, by decide +kernel, by decide +kernel, by decide +kernel, rfl, by decide +kernel⟩ sc_law_ends.nd rfl (.inl rfl) (iv_pure (i_list (p_var (i := 0) rfl (.inl rfl) rfl)) ?_)
  refine ⟨fun i gs Ω' => i ≤ n ∧ ∃ ad, gs = adrs i ad ∧ Ω'.Perm (cellsF K i n ad W), ⟨Nat.zero_le _, fun _ => 0, rfl, List.Perm.refl _⟩, ?_, ?_, ?_⟩
  · rintro i gs Ω' ⟨hi, ad, rfl, _⟩
    unfold adrs
    rw [tb_len]; unfold sizeLine; omega
  · rintro c i d gs Ω' hd ⟨hi, ad, rfl, pm⟩
    have hi : i < n := by
      have := (List.getElem?_eq_some_iff.mp hd).1
      rwa [tb_len] at this
    rw [tb_get hi] at hd
    cases hd
    refine ⟨_, (g_name (i := 0) (show List.Nodup (α := Str) ["_law_row"] by decide +kernel) rfl (.inl rfl)), (Sub.set rfl), fun q => v_fresh (pf_list z.list rfl (p_var (i := 0) rfl (.inl rfl) rfl) (.inl rfl)) fun a => ⟨(a, oLst K (tb n fun j => sh (W i j))) :: Ω', List.Perm.swap .., hi, fun j => if j = i then a else ad j, ?_, ?_⟩⟩
    · exact adrs_snoc
    · exact ((List.Perm.cons _ pm).trans (List.perm_append_singleton _ _).symm).trans (by rw [cells_snoc])
  · rintro l gs Ω' ⟨-, ad, rfl, pm⟩
    rw [tb_len] at pm ⊢
    refine w_perm (pm.symm.cons _) ?_
    refine w_forV PassesOwn.never rfl (iv_rangeQ (n := n) z.range rfl (q_len z.len rfl (q_p (p_var (i := 1) rfl (.inl rfl) rfl)) (List.mem_cons_self ..)) (by unfold adrs; rw [tb_len]) (by omega) ?_)
    refine ⟨fun a Γ Ω => (∀ k, k < a → LK W k k k < 1) ∧ ∃ x2 x3 x4 x5 x6 x7, Γ = [some (shM n n W), some (.raw (.ref l)), x2, x3, x4, x5, x6, x7] ∧ Ω = (l, oLst K (adrs n ad)) :: cellsF K n n ad (LK W a), ⟨fun k hk => absurd hk (by omega), none, none, none, none, none, none, rfl, rfl⟩, ?_, ?_⟩
    · rintro a d Γ Ω hd ⟨hp, x2, x3, x4, x5, x6, x7, rfl, rfl⟩
      obtain ⟨ha, rfl⟩ := nums_lt hd
      rw [Nat.zero_add]
      have pE : ∀ j, j < a → EK W j j j < 1 := fun j hj => by rw [← LK_EK j j j (Nat.le_refl _) (Nat.le_refl _)]; exact hp j hj
      have Ga := gW.at (Nat.le_refl n) a (by omega) pE
      have GL : ∀ i j, a ≤ i → a ≤ j → i < n → j < n → 0 ≤ LK W a i j ∧ Sz (sK s' a) (LK W a i j) := fun i j h1 h2 h3 h4 => by rw [LK_EK a i j h1 h2]; exact Ga i j h3 h4
      have hsa : 4 * sK s' a + 3 ≤ big := Nat.le_trans (show sK s' (a + 1) ≤ sK s' n from sK_mono (by omega)) hsz
      have oo := GL a a (Nat.le_refl _) (Nat.le_refl _) ha ha
      refine ⟨_, (g_name (i := 2) sc_law_ends.nd rfl (.inl rfl)), ?_⟩
      refine w_setQ (i := 3) (d := sh (LK W a a a)) sc_law_ends.nd rfl (.inl rfl) (q_ix (q_ix (q_p (p_var (i := 1) rfl (.inl rfl) rfl)) (List.mem_cons_self ..) (q_p (p_var (i := 2) rfl (.inl rfl) rfl)) (atI_tb ha)) (List.mem_cons_of_mem _ (cells_mem ha)) (q_p (p_var (i := 2) rfl (.inl rfl) rfl)) (atI_tb ha)) ?_
      refine w_if (t_cmp (c_ge (p_ixT (p_var (i := 3) rfl (.inl rfl) rfl) p_int rfl) (p_ixT (p_var (i := 3) rfl (.inl rfl) rfl) p_int rfl))) ?_ ?_
      · intro hk
        have hk := of_decide_eq_true hk
        refine w_ret p_bl ?_
        show D.bl false = D.bl b
        cases b with
        | false => rfl
        | true =>
          have := hb.mp rfl a ha
          rw [← LK_EK a a a (Nat.le_refl _) (Nat.le_refl _)] at this
          have := q_lt1.mpr this
          omega
      · intro hk
        have hk := of_decide_eq_false hk
        have pa : LK W a a a < 1 := q_lt1.mp (by omega)
        have p1 := sub1_pos pa
        refine w_nil ?_
        refine w_set (i := 4) sc_law_ends.nd rfl (.inl rfl) (p_call (d := sh (1 / (1 - LK W a a a))) o_law_share (hr.mono (by decide)) rfl (pl_cons (p_ixT (p_var (i := 3) rfl (.inl rfl) rfl) p_int rfl) (pl_cons (p_sub (p_ixT (p_var (i := 3) rfl (.inl rfl) rfl) p_int rfl) (p_ixT (p_var (i := 3) rfl (.inl rfl) rfl) p_int rfl)) pl_nil)) ?_) ?_
        · exact ⟨_, _, rfl, congrArg sh (one_by pa), by have := My.den_pos' (LK W a a a); omega, by omega⟩
        have sr : Sz (1 + (1 + sK s' a + 1)) (1 / (1 - LK W a a a)) := sz_div sz_1 (sz_sub sz_1 oo.2) p1
        have nr : 0 ≤ 1 / (1 - LK W a a a) := q_nn_div (by decide) p1
        refine w_forV PassesOwn.never rfl (iv_rangeQ2 (lo := a + 1) (n := n - (a + 1)) z.range rfl (q_p (p_add (p_var (i := 2) rfl (.inl rfl) rfl) p_int)) (q_len z.len rfl (q_p (p_var (i := 1) rfl (.inl rfl) rfl)) (List.mem_cons_self ..)) (by omega) (by unfold adrs; rw [tb_len]; omega) (by unfold adrs; rw [tb_len]; omega) ?_)
        refine ⟨fun i Γ Ω => ∃ x5 x6 x7, Γ = [some (shM n n W), some (.raw (.ref l)), some (.int (a : Int)), some (sh (LK W a a a)), some (sh (1 / (1 - LK W a a a))), x5, x6, x7] ∧ Ω = (l, oLst K (adrs n ad)) :: cellsF K n n ad (L2K W a (a + 1 + i)), ⟨x5, x6, x7, rfl, by rw [L2K_start]⟩, ?_, ?_⟩
        · rintro i d Γ Ω hd ⟨x5, x6, x7, rfl, rfl⟩
          obtain ⟨hi, rfl⟩ := nums_lt hd
          generalize hkk : a + 1 + i = k
          have hk1 : a < k := by omega
          have hk2 : k < n := by omega
          refine ⟨_, (g_name (i := 5) sc_law_ends.nd rfl (.inl rfl)), ?_⟩
          refine w_setQ (i := 6) (d := sh (LK W a k a * (1 / (1 - LK W a a a)))) sc_law_ends.nd rfl (.inl rfl) (q_call o_law_timed (hr.mono (by decide)) rfl (ql_cons (q_ix (d := sh (LK W a k a)) (q_ix (q_p (p_var (i := 1) rfl (.inl rfl) rfl)) (List.mem_cons_self ..) (q_p (p_var (i := 5) rfl (.inl rfl) rfl)) (atI_tb hk2)) (List.mem_cons_of_mem _ (cells_mem hk2)) (q_p (p_var (i := 2) rfl (.inl rfl) rfl)) ?_) (ql_cons (q_p (p_var (i := 4) rfl (.inl rfl) rfl)) ql_nil)) ?_) ?_
          · rw [atI_tb ha, L2K_at]
          · exact ⟨_, _, sK s' a, _, rfl, rfl, (GL k a (by omega) (by omega) hk2 ha).1, nr, (GL k a (by omega) (by omega) hk2 ha).2, sr, by omega, by omega, trivial⟩
          have fac := sz_mul (GL k a (by omega) (by omega) hk2 ha).2 sr
          have facn := q_nn_mul (GL k a (by omega) (by omega) hk2 ha).1 nr
          refine w_forV PassesOwn.never rfl (iv_rangeQ2 (lo := a + 1) (n := n - (a + 1)) z.range rfl (q_p (p_add (p_var (i := 2) rfl (.inl rfl) rfl) p_int)) (q_len z.len rfl (q_p (p_var (i := 1) rfl (.inl rfl) rfl)) (List.mem_cons_self ..)) (by omega) (by unfold adrs; rw [tb_len]; omega) (by unfold adrs; rw [tb_len]; omega) ?_)
          refine ⟨fun i Γ Ω => ∃ x7, Γ = [some (shM n n W), some (.raw (.ref l)), some (.int (a : Int)), some (sh (LK W a a a)), some (sh (1 / (1 - LK W a a a))), some (.int (k : Int)), some (sh (LK W a k a * (1 / (1 - LK W a a a)))), x7] ∧ Ω = (l, oLst K (adrs n ad)) :: cellsF K n n ad (L3K W a k (a + 1 + i)), ⟨x7, rfl, by rw [L3K_start]⟩, ?_, ?_⟩
          · rintro i d Γ Ω hd ⟨x7, rfl, rfl⟩
            obtain ⟨hi, rfl⟩ := nums_lt hd
            generalize hjj : a + 1 + i = j
            have hj1 : a < j := by omega
            have hj2 : j < n := by omega
            refine ⟨_, (g_name (i := 7) sc_law_ends.nd rfl (.inl rfl)), ?_⟩
            have r1 := GL k j (by omega) (by omega) hk2 hj2
            have r2 := GL a j (by omega) (by omega) ha hj2
            refine w_setitemQ (d := sh (LK W (a + 1) k j)) (l := ad k) (j := j) (q_call o_law_added (hr.mono (by decide)) rfl
              (ql_cons (q_ix (d := sh (LK W a k j)) (q_ix (q_p (p_var (i := 1) rfl (.inl rfl) rfl)) (List.mem_cons_self ..) (q_p (p_var (i := 5) rfl (.inl rfl) rfl)) (atI_tb hk2)) (List.mem_cons_of_mem _ (cells_mem hk2)) (q_p (p_var (i := 7) rfl (.inl rfl) rfl)) ?_)
              (ql_cons (q_call (d := sh (LK W a k a * (1 / (1 - LK W a a a)) * LK W a a j)) o_law_timed (hr.mono (by decide)) rfl (ql_cons (q_p (p_var (i := 6) rfl (.inl rfl) rfl)) (ql_cons (q_ix (d := sh (LK W a a j)) (q_ix (q_p (p_var (i := 1) rfl (.inl rfl) rfl)) (List.mem_cons_self ..) (q_p (p_var (i := 2) rfl (.inl rfl) rfl)) (atI_tb ha)) (List.mem_cons_of_mem _ (cells_mem ha)) (q_p (p_var (i := 7) rfl (.inl rfl) rfl)) ?_) ql_nil)) ?_) ql_nil)) ?_)
              (q_ix (q_p (p_var (i := 1) rfl (.inl rfl) rfl)) (List.mem_cons_self ..) (q_p (p_var (i := 5) rfl (.inl rfl) rfl)) (atI_tb hk2)) (q_p (p_var (i := 7) rfl (.inl rfl) rfl)) (((cells_turn (E := L3K W a k j) (E' := L3K W a k j) hk2 fun _ _ _ => rfl).cons _).trans (List.Perm.swap ..)) (by rw [tb_len]; exact ixN_nat hj2) ?_
            · rw [atI_tb hj2, L3K_old]
            · rw [atI_tb hj2, L3K_piv]
            · exact ⟨_, _, _, sK s' a, rfl, rfl, facn, r2.1, fac, r2.2, by omega, by omega, trivial⟩
            · refine ⟨_, _, sK s' a, _, rfl, ?_, r1.1, q_nn_mul facn r2.1, r1.2, sz_mul fac r2.2, by omega, by omega, trivial⟩
              rw [LK_new hk1 hj1]
            · rw [show sh (LK W (a + 1) k j) = sh (L3K W a k (j + 1) k j) by rw [L3K_new hk1 hj1], row_set (g := L3K W a k (j + 1) k) fun i hi => L3K_row hi]
              refine w_perm (((cells_turn (E := L3K W a k j) hk2 fun i j' hi => L3K_other hi).cons _).trans (List.Perm.swap ..)) (w_nil ⟨_, rfl, ?_⟩)
              rw [← hjj, show a + 1 + i + 1 = a + 1 + (i + 1) by omega]
              rfl
          · rintro Γ Ω ⟨x7, rfl, rfl⟩
            rw [nums_len]
            refine w_nil ⟨_, _, _, rfl, ?_⟩
            rw [show a + 1 + (n - (a + 1)) = n by omega, cells_congr fun i' j' hi' hj' => L3K_end hj']
            rw [← hkk, show a + 1 + i + 1 = a + 1 + (i + 1) by omega]
        · rintro Γ Ω ⟨x5, x6, x7, rfl, rfl⟩
          rw [nums_len]
          refine w_nil ⟨fun k hk => ?_, _, _, _, _, _, _, rfl, ?_⟩
          · rcases Nat.lt_or_ge k a with q | q
            · exact hp k q
            · rw [show k = a by omega]; exact pa
          · rw [show a + 1 + (n - (a + 1)) = n by omega, cells_congr fun i' j' hi' hj' => L2K_end hi']
    · rintro Γ Ω ⟨hp, x2, x3, x4, x5, x6, x7, rfl, rfl⟩
      rw [nums_len] at hp
      refine w_ret p_bl ?_
      show D.bl true = D.bl b
      rw [hb.mpr fun k hk => by rw [← LK_EK k k k (Nat.le_refl _) (Nat.le_refl _)]; exact hp k hk]
end
end Law
set_option Elab.async false
set_option linter.all false
set_option maxRecDepth 100000
set_option maxHeartbeats 4000000
namespace Law
open PySem L2 L3
section
variable {P : Program} {w : World} {K : PySem.W.Frag} {mg : Str → Option Value} {base : Heap}
theorem ok_law_drawn (z : Zs mg) (d : DefK K mg "_law_drawn" s_law_drawn ["_law_dice_here", "_law_many"]) (o_law_roll : OkF P w K mg base CX0 2 "_law_roll" ["_law_dice_here", "_law_most"] spRoll) (o_law_share : OkF P w K mg base CX0 33 "_law_share" ["_law_top", "_law_bottom"] (spP K 2 C_share)) :
    OkF P w K mg base CX0 34 "_law_drawn" ["_law_dice_here", "_law_many"] (spD K 2 C0_drawn C_drawn) := by
  refine ok_draws d sc_law_drawn rfl fun f cdv A outer s H E hr a ds hC B => ?_
  obtain ⟨n, rfl, hn⟩ := hC
  refine w_own (i := 2) sc_law_drawn.nd rfl (.inl rfl) (pf_lst pl_nil) fun lw => ?_
  refine w_own (i := 3) sc_law_drawn.nd rfl (.inl rfl) (pf_lst pl_nil) fun le => ?_
  refine w_for PassesOwn.never rfl (i_rangeN (n := n) z.range rfl (p_var (i := 1) rfl (.inl rfl) rfl) ?_ ?_) (fun i Γ Ω => ∃ (ad : Nat → Addr) (W : Nat → Nat → Rat) (e : Nat → Rat) (x4 x5 x6 : Option D), Good i n 5 W ∧ nnR i 5 e ∧ Γ = [some (.raw (.ref a)), some (.int (n : Int)), some (.raw (.ref lw)), some (.raw (.ref le)), x4, x5, x6, none, none] ∧
    Ω = (le, oLst K (tb i fun r => sh (e r))) :: (lw, oLst K (adrs i ad)) :: (a, oDice) :: cellsF K i n ad W) ?_ ?_ ?_
  · rfl
  · omega
  · exact ⟨fun _ => 0, fun _ _ => 0, fun _ => 0, none, none, none, fun i j hi => absurd hi (by omega), fun j hj => absurd hj (by omega), rfl, rfl⟩
  · rintro i d Γ Ω hd ⟨ad, W, e, x4, x5, x6, gW, ge, rfl, rfl⟩
    obtain ⟨hi, rfl⟩ := nums_lt hd
    rw [Nat.zero_add]
    refine ⟨_, (g_name (i := 4) sc_law_drawn.nd rfl (.inl rfl)), ?_⟩
    -- parts
    refine w_setCV (i := 5) (SX := defScope s_law_drawn) (XN := ["_law_dice_here", "_law_many", "_law_ways", "_law_ends_here", "_law_k", "_law_parts", "_law_whole_here", "_law_one", "_law_other"]) (N := ["_law_j", "_law_dice_here"]) (nt := 1) (caps := [0]) ⟨rfl, by decide +kernel, by decide +kernel, by decide +kernel, rfl, by decide +kernel⟩ sc_law_drawn.nd rfl (.inl rfl) (iv_pure (i_rangeN (n := n) z.range rfl (p_var (i := 1) rfl (.inl rfl) rfl) rfl (by omega)) ?_)
    refine ⟨fun m gs Ω' => m ≤ n ∧ ∃ ns : List Int, ns.length = m ∧ gs = ns.map D.int ∧ (∀ x ∈ ns, 0 ≤ x ∧ x < 4) ∧ Ω' = (le, oLst K (tb i fun r => sh (e r))) :: (lw, oLst K (adrs i ad)) :: (a, oDice) :: cellsF K i n ad W, ⟨Nat.zero_le _, [], rfl, rfl, fun x hx => absurd hx (by simp), rfl⟩, ?_, ?_, ?_⟩
    · rintro m gs Ω' ⟨hm, ns, hl, rfl, _⟩
      rw [List.length_map, hl]; unfold sizeLine; omega
    · rintro c m d gs Ω' hd ⟨hm, ns, hl, rfl, hx, rfl⟩
      obtain ⟨hm, rfl⟩ := nums_lt hd
      refine ⟨_, (g_name (i := 0) (show List.Nodup (α := Str) ["_law_j", "_law_dice_here"] by decide +kernel) rfl (.inl rfl)), (Sub.set rfl), fun q => v_roll o_law_roll (hr.mono (by decide)) rfl (p_var (i := 1) rfl (.inr (.inl rfl)) rfl) (by simp) p_int (by decide) (by decide) fun r h1 h2 => ⟨_, List.Perm.refl _, hm, ns ++ [r], by rw [List.length_append, hl]; rfl, by rw [List.map_append]; rfl, fun x hx' => ?_, rfl⟩⟩
      rcases List.mem_append.mp hx' with y | y
      · exact hx x y
      · rw [List.mem_singleton.mp y]; exact ⟨h1, h2⟩
    · rintro lp gs Ω' ⟨-, ns, hl, rfl, hx, rfl⟩
      rw [nums_len] at hl
      refine w_freeze (i := 5) rfl ?_
      have sm := sum_in hx
      -- whole
      refine w_setV (i := 6) sc_law_drawn.nd rfl (.inr rfl) (v_add (v_pure (p_add (p_sum rfl z.sum rfl (p_var (i := 5) rfl (.inl rfl) rfl)) p_int) ⟨_, rfl, v_roll o_law_roll (hr.mono (by decide)) rfl (p_var (i := 0) rfl (.inr (.inl rfl)) rfl) (by simp) p_int (by decide) (by decide) fun r h1 h2 => ⟨r, rfl, ?_⟩⟩))
      generalize hw : ns.sum + 1 + r = wh
      have w0 : 0 < wh := by omega
      have w1 : wh < 32 := by omega
      -- ways
      refine w_appendV (i := 2) (l := lw) rfl (.inl rfl) rfl (List.mem_cons_of_mem _ (List.mem_cons_self ..)) (fun F o ⟨xs, e, _⟩ => ⟨xs, e⟩) (v_fresh (ds := tb n fun j => sh (Rat.divInt (ns.getD j 0) wh)) (pf_eq (pf_comp (SX := defScope s_law_drawn) (XN := ["_law_dice_here", "_law_many", "_law_ways", "_law_ends_here", "_law_k", "_law_parts", "_law_whole_here", "_law_one", "_law_other"]) (N := ["_law_part", "_law_whole_here"]) (nt := 1) (caps := [6]) (pre := fun m => tb m fun j => sh (Rat.divInt (ns.getD j 0) wh)) ⟨rfl, by decide +kernel, by decide +kernel, by decide +kernel, rfl, by decide +kernel⟩ (i_list (p_var (i := 5) rfl (.inl rfl) rfl)) ?_ rfl ?_) ?_) fun b => ⟨_, _, perm_rot3, ?_, ?_⟩)
      · intro m hm
        rw [List.length_map, hl] at hm
        rw [tb_len]; unfold sizeLine; omega
      · intro c m d hd
        have hm : m < ns.length := by
          have := (List.getElem?_eq_some_iff.mp hd).1
          rwa [List.length_map] at this
        rw [List.getElem?_map, List.getElem?_eq_getElem hm] at hd
        cases hd
        have eg : ns.getD m 0 = ns[m] := by rw [List.getD_eq_getElem?_getD, List.getElem?_eq_getElem hm]; rfl
        refine ⟨_, (g_name (i := 0) (show List.Nodup (α := Str) ["_law_part", "_law_whole_here"] by decide +kernel) rfl (.inl rfl)), (Sub.set rfl), .inl ⟨sh (Rat.divInt (ns.getD m 0) wh), ts_nil, p_call o_law_share (hr.mono (by decide)) rfl (pl_cons (p_var (i := 0) rfl (.inl rfl) rfl) (pl_cons (p_var (i := 1) rfl (.inr (.inl rfl)) rfl) pl_nil)) ⟨_, _, rfl, by rw [eg], (hx _ (List.getElem_mem hm)).1, w0⟩, tb_succ⟩⟩
      · rw [List.length_map, hl]
      · unfold adrs; rw [tb_len]; unfold sizeLine; omega
      -- ends
      refine w_appendV (i := 3) (l := le) rfl (.inl rfl) rfl (List.mem_cons_of_mem _ (List.mem_cons_of_mem _ (List.mem_cons_self ..))) (fun F o ⟨xs, e, _⟩ => ⟨xs, e⟩) (v_call o_law_share (hr.mono (by decide)) rfl (vl_cons (v_roll o_law_roll (hr.mono (by decide)) rfl (p_var (i := 0) rfl (.inr (.inl rfl)) rfl) (by simp) p_int (by decide) (by decide) fun r1 g1 g2 => vl_cons (v_add (v_pure p_int ⟨_, rfl, v_roll o_law_roll (hr.mono (by decide)) rfl (p_var (i := 0) rfl (.inr (.inl rfl)) rfl) (by simp) p_int (by decide) (by decide) fun r2 g3 g4 => ⟨r2, rfl, vl_pure pl_nil ?_⟩⟩)))))
      refine ⟨sh (Rat.divInt r1 (1 + r2)), ⟨_, _, rfl, rfl, g1, by omega⟩, rfl, _, _, perm_rot3, by rw [tb_len]; unfold sizeLine; omega, ?_⟩
      refine w_perm perm_end (w_nil ⟨fun j => if j = i then b else ad j, fun r j => if r = i then Rat.divInt (ns.getD j 0) wh else W r j, fun r => if r = i then Rat.divInt r1 (1 + r2) else e r, _, _, _, ?_, ?_, rfl, ?_⟩)
      · intro r j hr' hj
        dsimp only
        by_cases q : r = i
        · rw [if_pos q]
          have hj' : j < ns.length := by omega
          have eg : ns.getD j 0 = ns[j] := by rw [List.getD_eq_getElem?_getD, List.getElem?_eq_getElem hj']; rfl
          have b2 := hx _ (List.getElem_mem hj')
          rw [← eg] at b2
          exact ⟨Rat.divInt_nonneg b2.1 (by omega), sz_divInt w0 (by omega) (by omega)⟩
        · rw [if_neg q]; exact gW r j (by omega) hj
      · intro r hr'
        dsimp only
        by_cases q : r = i
        · rw [if_pos q]
          exact ⟨Rat.divInt_nonneg g1 (by omega), sz_divInt (by omega) (by omega) (by omega)⟩
        · rw [if_neg q]; exact ge r (by omega)
      · show (le, oLst K ((tb i fun r => sh (e r)) ++ [sh (Rat.divInt r1 (1 + r2))])) :: (lw, oLst K (adrs i ad ++ [D.raw (V.ref b)])) :: (a, oDice) :: (cellsF K i n ad W ++ [(b, oLst K (tb n fun j => sh (Rat.divInt (ns.getD j 0) wh)))]) = _
        rw [cells_snoc2, ends_snoc, adrs_snoc]
  · rintro Γ Ω ⟨ad, W, e, x4, x5, x6, gW, ge, rfl, rfl⟩
    rw [nums_len] at gW ge ⊢
    have fin : ∀ (W' : Nat → Nat → Rat) (x7 x8 : Option D), Good n n 5 W' → W3 (cx0 P w K mg base ["_law_dice_here", "_law_many", "_law_ways", "_law_ends_here", "_law_k", "_law_parts", "_law_whole_here", "_law_one", "_law_other"] "_law_drawn" s_law_drawn f cdv A outer s H E) B ((defBody s_law_drawn).drop 4) [some (.raw (.ref a)), some (.int (n : Int)), some (.raw (.ref lw)), some (.raw (.ref le)), x4, x5, x6, x7, x8]
        ((le, oLst K (tb n fun r => sh (e r))) :: (lw, oLst K (adrs n ad)) :: (a, oDice) :: cellsF K n n ad W') ⟨fun _ _ => False, fun r Ω => C_drawn [.int (n : Int)] r ∧ Ω = [(a, oDice)], fun _ _ => False, fun _ _ => False⟩ := by
      intro W' x7 x8 gW'
      refine w_freeze (i := 3) rfl ?_
      refine w_perm (Ω' := (lw, oLst K (adrs n ad)) :: (cellsF K n n ad W' ++ [(a, oDice)])) ((List.perm_append_singleton _ _).cons _) (w_freezeRows ?_)
      refine w_freeze (i := 2) rfl ?_
      exact w_ret (p_tup (pl_cons (p_var (i := 2) rfl (.inl rfl) rfl) (pl_cons (p_var (i := 3) rfl (.inl rfl) rfl) pl_nil))) ⟨⟨n, W', e, rfl, rfl, gW', ge⟩, rfl⟩
    refine w_ifV (vt_and2 (vt_pure (t_cmp (c_gt (p_var (i := 1) rfl (.inl rfl) rfl) p_int)) ?_))
    by_cases h0 : (0 : Int) < n
    · rw [decide_eq_true h0, if_pos rfl]
      refine vt_cmp op_eq (v_roll o_law_roll (hr.mono (by decide)) rfl (p_var (i := 0) rfl (.inr (.inl rfl)) rfl) (by simp) p_int (by decide) (by decide) fun r h1 h2 => v_pure p_int ⟨_, eqI_pure, fun _ => ?_, fun _ => w_nil (fin W none none gW)⟩)
      refine w_setV (i := 7) sc_law_drawn.nd rfl (.inl rfl) (v_roll o_law_roll (hr.mono (by decide)) rfl (p_var (i := 0) rfl (.inr (.inl rfl)) rfl) (by simp) (p_var (i := 1) rfl (.inl rfl) rfl) h0 (by omega) fun r1 a1 a2 => ?_)
      refine w_setV (i := 8) sc_law_drawn.nd rfl (.inl rfl) (v_roll o_law_roll (hr.mono (by decide)) rfl (p_var (i := 0) rfl (.inr (.inl rfl)) rfl) (by simp) (p_var (i := 1) rfl (.inl rfl) rfl) h0 (by omega) fun r2 b1 b2 => ?_)
      obtain ⟨u, rfl⟩ := Int.eq_ofNat_of_zero_le a1
      obtain ⟨v, rfl⟩ := Int.eq_ofNat_of_zero_le b1
      have hu : u < n := by omega
      have hv : v < n := by omega
      refine w_setitem (v_tup (vl_cons (v_add (v_pure p_int ⟨_, rfl, v_roll o_law_roll (hr.mono (by decide)) rfl (p_var (i := 0) rfl (.inr (.inl rfl)) rfl) (by simp) p_int (by decide) (by decide) fun r3 c1 c2 => ⟨r3, rfl, vl_pure (pl_cons p_int pl_nil) ⟨by (simp only [List.length_cons, List.length_nil]; decide), ?_⟩⟩⟩))))
      refine Q3.v (q_ix (q_p (p_var (i := 2) rfl (.inl rfl) rfl)) (List.mem_cons_of_mem _ (List.mem_cons_self ..)) (q_p (p_var (i := 7) rfl (.inl rfl) rfl)) (atI_tb hu)) ⟨ad u, rfl, v_pure (p_var (i := 8) rfl (.inl rfl) rfl) ⟨_, v, _, _, rfl, ((((cells_turn (E := W) (E' := W) hu fun _ _ _ => rfl).cons _).cons _).cons _).trans perm_rot4, by rw [tb_len]; exact ixN_nat hv, ?_⟩⟩
      have e1 : (D.tup [.int (1 + r3), .int 1]) = sh ((fun i j => if i = u ∧ j = v then ((1 + r3 : Int) : Rat) else W i j) u v) := by
        dsimp only
        rw [if_pos ⟨rfl, rfl⟩]
        exact (sh_int _).symm
      rw [e1, row_set (f := W u) (g := (fun i j => if i = u ∧ j = v then ((1 + r3 : Int) : Rat) else W i j) u) fun i hi => (if_neg (by omega)).symm]
      generalize hW1 : (fun i j => if i = u ∧ j = v then ((1 + r3 : Int) : Rat) else W i j) = W1
      refine w_perm (((((cells_turn (E := W) (E' := W1) hu fun i j hi => by rw [← hW1]; exact (if_neg (by omega)).symm).cons _).cons _).cons _).trans perm_rot4) ?_
      have gW1 : Good n n 5 W1 := fun i j hi hj => by
        rw [← hW1]
        dsimp only
        by_cases q : i = u ∧ j = v
        · rw [if_pos q]; exact ⟨int_nn (by omega), sz_int (by omega)⟩
        · rw [if_neg q]; exact gW i j hi hj
      refine w_setitem (v_tup (vl_cons (v_pure p_int (vl_cons (v_add (v_pure p_int ⟨_, rfl, v_roll o_law_roll (hr.mono (by decide)) rfl (p_var (i := 0) rfl (.inr (.inl rfl)) rfl) (by simp) p_int (by decide) (by decide) fun r4 d1 d2 => ⟨r4, rfl, vl_pure pl_nil ⟨by (simp only [List.length_cons, List.length_nil]; decide), ?_⟩⟩⟩))))))
      refine Q3.v (q_ix (q_p (p_var (i := 2) rfl (.inl rfl) rfl)) (List.mem_cons_of_mem _ (List.mem_cons_self ..)) (q_p (p_var (i := 8) rfl (.inl rfl) rfl)) (atI_tb hv)) ⟨ad v, rfl, v_pure (p_var (i := 7) rfl (.inl rfl) rfl) ⟨_, u, _, _, rfl, ((((cells_turn (E := W1) (E' := W1) hv fun _ _ _ => rfl).cons _).cons _).cons _).trans perm_rot4, by rw [tb_len]; exact ixN_nat hu, ?_⟩⟩
      have e2 : (D.tup [.int 1, .int (1 + r4)]) = sh ((fun i j => if i = v ∧ j = u then Rat.divInt 1 (1 + r4) else W1 i j) v u) := by
        dsimp only
        rw [if_pos ⟨rfl, rfl⟩]
        exact (sh_one d1).symm
      rw [e2, row_set (f := W1 v) (g := (fun i j => if i = v ∧ j = u then Rat.divInt 1 (1 + r4) else W1 i j) v) fun i hi => (if_neg (by omega)).symm]
      generalize hW2 : (fun i j => if i = v ∧ j = u then Rat.divInt 1 (1 + r4) else W1 i j) = W2
      refine w_perm (((((cells_turn (E := W1) (E' := W2) hv fun i j hi => by rw [← hW2]; exact (if_neg (by omega)).symm).cons _).cons _).cons _).trans perm_rot4) (w_nil (fin W2 _ _ ?_))
      intro i j hi hj
      rw [← hW2]
      dsimp only
      by_cases q : i = v ∧ j = u
      · rw [if_pos q]; exact ⟨Rat.divInt_nonneg (by omega) (by omega), sz_divInt (by omega) (by omega) (by omega)⟩
      · rw [if_neg q]; exact gW1 i j hi hj
    · rw [decide_eq_false h0, if_neg Bool.false_ne_true]
      exact ⟨fun h => absurd h (by simp), fun _ => w_nil (fin W none none gW)⟩
end
end Law
set_option Elab.async false
set_option linter.all false
set_option maxRecDepth 100000
set_option maxHeartbeats 4000000
namespace Law
open PySem L2 L3
section
variable {P : Program} {w : World} {K : PySem.W.Frag} {mg : Str → Option Value} {base : Heap}
theorem ok_law_refused {S A1 A2 A3 A4 A5 : Addr} (z : Zs mg) (er : Errs K mg S A1 A2 A3 A4 A5 A2 false true false false false) (d : DefK K mg "_law_refused" s_law_refused ["_law_ways", "_law_ends_here"]) (o_solvedX : OkF P w K mg base (CXo P w) 38 "solved" ["ways", "ends"] (spX K 2 (C_solvedX A2))) : OkF P w K mg base CX0 39 "_law_refused" ["_law_ways", "_law_ends_here"] (spP K 2 C_refused) := by
  refine ok_pure d sc_law_refused rfl fun f cdv A outer s H E hr ds r hC B hB => ?_
  obtain ⟨n, s', W, e, rfl, rfl, so, hp⟩ := hC
  refine w_try (i := 2) ⟨rfl, rfl, rfl⟩ rfl o_solvedX (hr.mono (by decide)) rfl (pl_cons (p_var (i := 0) rfl (.inl rfl) rfl) (pl_cons (p_var (i := 1) rfl (.inl rfl) rfl) pl_nil)) ⟨rfl, n, s', W, e, rfl, so, hp⟩ rfl er.m2 er.xR sc_law_refused.nd rfl rfl fun ea => ?_
  refine w_set (i := 3) sc_law_refused.nd rfl (.inl rfl) (p_or (p_isinX z.isinstance rfl (p_var (i := 2) rfl (.inl rfl) rfl) (p_glob rfl er.m1 (v := .ref A1) rfl i_raw) er.q er.k1 (fun z => nomatch z)) fun _ => (p_or (p_isinX z.isinstance rfl (p_var (i := 2) rfl (.inl rfl) rfl) (p_glob rfl er.m3 (v := .ref A3) rfl i_raw) er.q er.k3 (fun z => nomatch z)) fun _ => (p_or (p_isinX z.isinstance rfl (p_var (i := 2) rfl (.inl rfl) rfl) (p_glob rfl er.m4 (v := .ref A4) rfl i_raw) er.q er.k4 (fun z => nomatch z)) fun _ => (p_one (p_isinX z.isinstance rfl (p_var (i := 2) rfl (.inl rfl) rfl) (p_glob rfl er.m5 (v := .ref A5) rfl i_raw) er.q er.k5 (fun z => nomatch z)))))) ?_
  refine w_ret (p_and (p_isinX z.isinstance rfl (p_var (i := 2) rfl (.inl rfl) rfl) (p_glob rfl er.mS (v := .ref S) rfl i_raw) er.q er.kS (fun z => nomatch z)) fun _ => (p_and (p_isinX z.isinstance rfl (p_var (i := 2) rfl (.inl rfl) rfl) (p_bltn rfl z.ValueError bt_ValueError (v := .ty "ValueError") rfl) er.q er.kV (fun z => nomatch z)) fun _ => (p_one (p_not (p_var (i := 3) rfl (.inl rfl) rfl))))) ?_
  rfl
theorem ok_law (z : Zs mg) {f : Addr} {fd : FuncData} (F : Fun K "law" "law" s_law f fd) (o_law_cell_at : OkF P w K mg base CX0 2 "_law_cell_at" ["_law_script", "_law_k"] (spP K 2 C_cell)) (o_law_dice : OkF P w K mg base CX0 2 "_law_dice" ["_law_cell"] spDice) (o_law_drawn : OkF P w K mg base CX0 34 "_law_drawn" ["_law_dice_here", "_law_many"] (spD K 2 C0_drawn C_drawn))
    (o_law_ends : OkF P w K mg base CX0 35 "_law_ends" ["_law_ways"] (spP K 1 C_ends)) (o_law_refused : OkF P w K mg base CX0 39 "_law_refused" ["_law_ways", "_law_ends_here"] (spP K 2 C_refused)) (o_solved : OkF P w K mg base CX0 38 "solved" ["ways", "ends"] (spP K 2 C_solved)) (o_law_is_share : OkF P w K mg base CX0 3 "_law_is_share" ["_law_found"] (spP K 1 C_isShare)) (o_law_added : OkF P w K mg base CX0 34 "_law_added" ["_law_one", "_law_other"] (spP K 2 C_added)) (o_law_timed : OkF P w K mg base CX0 34 "_law_timed" ["_law_one", "_law_other"] (spP K 2 C_timed)) : FnOk P w K mg base CX0 40 f fd ["_law_script"] (spLaw3 K) := by
  refine ok_law3 (k := 39) F sc_law fun cdv A outer s H E hr ns hlen B hB => ?_
  have hu := hr.units
  refine w_setV (i := 1) sc_law.nd rfl (.inl rfl) (v_dice o_law_dice (hr.mono (by decide)) rfl (p_call (d := .int (ns.getD 0 0)) o_law_cell_at (hr.mono (by decide)) rfl (pl_cons (p_var (i := 0) rfl (.inl rfl) rfl) (pl_cons p_int pl_nil)) ⟨ns, 0, rfl, rfl⟩) fun l => ?_)
  have m7 := emod_in (a := ns.getD 1 0) (show (0 : Int) < 7 by decide)
  obtain ⟨n, hn⟩ := Int.eq_ofNat_of_zero_le m7.1
  have hn6 : n ≤ 6 := by omega
  refine w_asgV (v_callD o_law_drawn (hr.mono (by decide)) rfl (p_var (i := 1) rfl (.inl rfl) rfl) (List.mem_cons_self ..) (vl_pure (pl_cons (p_mod (p_call (d := .int (ns.getD 1 0)) o_law_cell_at (hr.mono (by decide)) rfl (pl_cons (p_var (i := 0) rfl (.inl rfl) rfl) (pl_cons p_int pl_nil)) ⟨ns, 1, rfl, rfl⟩) p_int (by decide)) pl_nil) ⟨rfl, rfl, ⟨n, by rw [hn], hn6⟩, ?_⟩))
  rintro d ⟨n', W, e, en, rfl, gW, ge⟩
  have hn' : n' = n := by
    have : (D.int (ns.getD 1 0 % 7)) = D.int n' := by simpa using en
    rw [hn] at this
    have := D.int.inj this
    omega
  subst hn'
  refine ⟨_, (g_tup rfl (gl_cons (g_name (i := 2) sc_law.nd rfl (.inl rfl)) (gl_cons (g_name (i := 3) sc_law.nd rfl (.inl rfl)) gl_nil))), ?_⟩
  have hs : sK 5 n' ≤ big := Nat.le_trans (sK_mono (k := 6) hn6) (by decide)
  have so : SysOk n' 5 W e := ⟨by omega, gW, ge, hs⟩
  -- handed
  refine w_set (i := 4) (d := .lst [shM n' n' W, shR n' e]) sc_law.nd rfl (.inl rfl) (p_lst (pl_cons (PF3.p (pf_eq (ds := tb n' fun i => shR n' (W i)) (pf_comp (SX := defScope s_law) (XN := ["_law_script", "_law_dice_here", "_law_ways", "_law_ends_here", "_law_handed", "_law_found", "_law_one", "_law_k", "_law_due", "_law_j"]) (N := ["_law_row"]) (nt := 1) (caps := []) (pre := fun i => tb i fun i => shR n' (W i)) ⟨rfl, by decide +kernel, by decide +kernel, by decide +kernel, rfl, by decide +kernel⟩ (i_list (p_var (i := 2) rfl (.inl rfl) rfl)) ?_ rfl ?_) (by rw [tb_len]))) (pl_cons (PF3.p (pf_list z.list rfl (p_var (i := 3) rfl (.inl rfl) rfl) (.inl rfl))) pl_nil))) ?_
  · intro i hi; rw [tb_len] at hi ⊢; unfold sizeLine; omega
  · intro c i d hd
    have hi : i < n' := by
      have := (List.getElem?_eq_some_iff.mp hd).1
      rwa [tb_len] at this
    rw [tb_get hi] at hd
    cases hd
    exact ⟨_, (g_name (i := 0) (show List.Nodup (α := Str) ["_law_row"] by decide +kernel) rfl (.inl rfl)), (Sub.set rfl), .inl ⟨shR n' (W i), ts_nil, PF3.p (pf_list z.list rfl (p_var (i := 0) rfl (.inl rfl) rfl) (.inl rfl)), tb_succ⟩⟩
  by_cases hp : Piv n' W
  case neg =>
    refine w_if (t_not (t_val (p_call (d := .bl false) o_law_ends (hr.mono (by decide)) rfl (pl_cons (p_var (i := 2) rfl (.inl rfl) rfl) pl_nil) ⟨n', 5, W, false, rfl, rfl, ⟨fun h => absurd h (by simp), fun h => absurd h hp⟩, by omega, gW, hs⟩))) (fun _ => ?_) (fun h => absurd h (by simp))
    exact w_ret (p_call (d := .bl true) o_law_refused (hr.mono (by decide)) rfl (pl_cons (p_ixL (d := shM n' n' W) (p_var (i := 4) rfl (.inl rfl) rfl) p_int rfl) (pl_cons (p_ixL (d := shR n' e) (p_var (i := 4) rfl (.inl rfl) rfl) p_int rfl) pl_nil)) ⟨n', 5, W, e, rfl, rfl, so, hp⟩) rfl
  refine w_if (t_not (t_val (p_call (d := .bl true) o_law_ends (hr.mono (by decide)) rfl (pl_cons (p_var (i := 2) rfl (.inl rfl) rfl) pl_nil) ⟨n', 5, W, true, rfl, rfl, ⟨fun _ => hp, fun _ => rfl⟩, by omega, gW, hs⟩))) (fun h => absurd h (by simp)) (fun _ => w_nil ?_)
  generalize hx : (fun i => EK (wE n' W e) n' i n') = x
  refine w_set (i := 5) sc_law.nd rfl (.inl rfl) (p_call (d := shR n' x) o_solved (hr.mono (by decide)) rfl (pl_cons (p_ixL (d := shM n' n' W) (p_var (i := 4) rfl (.inl rfl) rfl) p_int rfl) (pl_cons (p_ixL (d := shR n' e) (p_var (i := 4) rfl (.inl rfl) rfl) p_int rfl) pl_nil)) ⟨n', 5, W, e, rfl, by rw [← hx], so, hp⟩) ?_
  have G6 := (good_wE gW ge).at (Nat.le_succ n') n' (Nat.le_refl _) fun j hj => piv_wE hp j hj
  have nx : nnR n' (sK 5 n') x := fun i hi => by rw [← hx]; exact G6 i n' hi (by omega)
  have eqs : ∀ i, i < n' → x i = sumR n' (fun j => W i j * x j) + e i := fun i hi => by
    have q := Slv.all (piv_wE (e := e) hp) i hi
    rw [hx] at q
    rw [q]
    unfold wE
    rw [if_neg (by omega)]
    congr 1
    exact sumR_congr fun j hj => by rw [if_pos hj]
  refine w_if (PW3.t (tw_or (t_cmp (c_ne hu (p_var (i := 4) rfl (.inl rfl) rfl) (p_lst (pl_cons (p_var (i := 2) rfl (.inl rfl) rfl) (pl_cons (p_var (i := 3) rfl (.inl rfl) rfl) pl_nil))) ?_ ?_)) fun _ => (tw_or (t_not (t_val (p_isin (k := true) z.isinstance rfl (p_var (i := 5) rfl (.inl rfl) rfl) (p_bltn rfl z.list bt_list (v := .ty "list") rfl) rfl (by rfl) (fun z => nomatch z)))) fun _ => (tw_or1 (t_cmp (c_neI (p_lenL z.len rfl (p_var (i := 5) rfl (.inl rfl) rfl)) (p_lenL z.len rfl (p_var (i := 3) rfl (.inl rfl) rfl)))))))) ?_ ?_
  · exact kin_self (by rw [pln_lst, plnL_two pln_shM pln_shR])
  · exact dep_two dep_shM dep_shR
  · intro h
    rw [beqD_refl (by rw [pln_lst, plnL_two pln_shM pln_shR]), tb_len, tb_len] at h
    simp at h
  · intro _
    refine w_nil ?_
    refine w_for PassesOwn.never rfl (i_list (p_var (i := 5) rfl (.inl rfl) rfl)) (fun i Γ _ => ∃ x6 x7 x8 x9, Γ = [some (.scr ns), some (.raw (.ref l)), some (shM n' n' W), some (shR n' e), some (.lst [shM n' n' W, shR n' e]), some (shR n' x), x6, x7, x8, x9]) ⟨_, _, _, _, rfl⟩ ?_ ?_
    · rintro i d Γ Ω hd ⟨x6, x7, x8, x9, rfl⟩
      have hi : i < n' := by
        have := (List.getElem?_eq_some_iff.mp hd).1
        rwa [tb_len] at this
      rw [tb_get hi] at hd
      cases hd
      refine ⟨_, (g_name (i := 6) sc_law.nd rfl (.inl rfl)), ?_⟩
      refine w_if (t_not (t_val (p_call (d := .bl true) o_law_is_share (hr.mono (by decide)) rfl (pl_cons (p_var (i := 6) rfl (.inl rfl) rfl) pl_nil) ?_))) ?_ ?_
      · exact ⟨x i, rfl, rfl, (nx i hi).1⟩
      · intro h; exact absurd h (by simp)
      · intro _
        exact w_nil (w_nil ⟨_, _, _, _, rfl⟩)
    · rintro Γ Ω ⟨x6, x7, x8, x9, rfl⟩
      refine w_for PassesOwn.never rfl (i_rangeN (n := n') z.range rfl (p_lenL z.len rfl (p_var (i := 3) rfl (.inl rfl) rfl)) ?_ ?_) (fun i Γ _ => ∃ x6 x7 x8 x9, Γ = [some (.scr ns), some (.raw (.ref l)), some (shM n' n' W), some (shR n' e), some (.lst [shM n' n' W, shR n' e]), some (shR n' x), x6, x7, x8, x9]) ?_ ?_ ?_
      · rw [tb_len]
      · omega
      · exact ⟨_, _, _, _, rfl⟩
      · rintro i d Γ Ω hd ⟨x6, x7, x8, x9, rfl⟩
        obtain ⟨hi, rfl⟩ := nums_lt hd
        rw [Nat.zero_add]
        refine ⟨_, (g_name (i := 7) sc_law.nd rfl (.inl rfl)), ?_⟩
        refine w_set (i := 8) sc_law.nd rfl (.inl rfl) (p_ixL (d := sh (e i)) (p_var (i := 3) rfl (.inl rfl) rfl) (p_var (i := 7) rfl (.inl rfl) rfl) ?_) ?_
        · exact atI_tb hi
        refine w_for PassesOwn.never rfl (i_rangeN (n := n') z.range rfl (p_lenL z.len rfl (p_var (i := 3) rfl (.inl rfl) rfl)) ?_ ?_) (fun j Γ _ => ∃ x9 s2, Γ = [some (.scr ns), some (.raw (.ref l)), some (shM n' n' W), some (shR n' e), some (.lst [shM n' n' W, shR n' e]), some (shR n' x), x6, some (.int (i : Int)), some (sh (e i + sumR j fun j => W i j * x j)), x9] ∧ 0 ≤ e i + (sumR j fun j => W i j * x j) ∧ Sz s2 (e i + sumR j fun j => W i j * x j) ∧ s2 ≤ 5 + j * 200000) ?_ ?_ ?_
        · rw [tb_len]
        · omega
        · rw [sumR, Rat.add_zero]
          exact ⟨_, 5, rfl, (ge i hi).1, (ge i hi).2, by omega⟩
        · rintro j d Γ Ω hd ⟨x9, s2, rfl, h0, hz2, hb2⟩
          obtain ⟨hj, rfl⟩ := nums_lt hd
          rw [Nat.zero_add]
          have sk : sK 5 n' ≤ 24575 := Nat.le_trans (sK_mono (k := 6) hn6) (by decide)
          have zt := sz_mul (gW i j hi hj).2 (nx j hj).2
          have nt := q_nn_mul (gW i j hi hj).1 (nx j hj).1
          refine ⟨_, (g_name (i := 9) sc_law.nd rfl (.inl rfl)), ?_⟩
          refine w_set (i := 8) sc_law.nd rfl (.inl rfl) (p_call (d := sh (e i + (sumR j fun j => W i j * x j) + W i j * x j)) o_law_added (hr.mono (by decide)) rfl (pl_cons (p_var (i := 8) rfl (.inl rfl) rfl) (pl_cons (p_call (d := sh (W i j * x j)) o_law_timed (hr.mono (by decide)) rfl (pl_cons (p_ixL (d := sh (W i j)) (p_ixL (d := shR n' (W i)) (p_var (i := 2) rfl (.inl rfl) rfl) (p_var (i := 7) rfl (.inl rfl) rfl) ?_) (p_var (i := 9) rfl (.inl rfl) rfl) ?_) (pl_cons (p_ixL (d := sh (x j)) (p_var (i := 5) rfl (.inl rfl) rfl) (p_var (i := 9) rfl (.inl rfl) rfl) ?_) pl_nil)) ?_) pl_nil)) ?_) ?_
          · exact atI_tb hi
          · exact atI_tb hj
          · exact atI_tb hj
          · exact ⟨_, _, 5, _, rfl, rfl, (gW i j hi hj).1, (nx j hj).1, (gW i j hi hj).2, (nx j hj).2, by decide, hs, trivial⟩
          · exact ⟨_, _, s2, _, rfl, rfl, h0, nt, hz2, zt, by have : big = 67108864 := rfl; omega, by have : big = 67108864 := rfl; omega, trivial⟩
          · have es : e i + (sumR (j + 1) fun j => W i j * x j) = e i + (sumR j fun j => W i j * x j) + W i j * x j := by rw [sumR]; grind
            refine w_nil ?_
            rw [es]
            exact ⟨_, s2 + (5 + sK 5 n') + 1, rfl, q_nn_add h0 nt, sz_add hz2 zt, by rw [Nat.add_mul]; omega⟩
        · rintro Γ Ω ⟨x9, s2, rfl, h0, hz2, hb2⟩
          rw [nums_len]
          refine w_if (t_cmp (c_ne hu (p_ixL (d := sh (x i)) (p_var (i := 5) rfl (.inl rfl) rfl) (p_var (i := 7) rfl (.inl rfl) rfl) ?_) (p_var (i := 8) rfl (.inl rfl) rfl) kin_sh dep_sh)) ?_ ?_
          · exact atI_tb hi
          · intro h
            rw [beq_sh, eqs i hi] at h
            have : sumR n' (fun j => W i j * x j) + e i = e i + sumR n' fun j => W i j * x j := by grind
            rw [decide_eq_true this] at h
            simp at h
          · intro _
            exact w_nil (w_nil ⟨_, _, _, _, rfl⟩)
      · rintro Γ Ω ⟨x6, x7, x8, x9, rfl⟩
        exact w_ret p_bl rfl
theorem law_all (ht : P.given.tree = none) (z : Zs mg) (g_NOUGHT : GlobD K mg "NOUGHT" (sh 0)) (g_ONE : GlobD K mg "ONE" (sh 1)) {S A1 A2 A3 A4 A5 : Addr} (er : Errs K mg S A1 A2 A3 A4 A5 A2 false true false false false) (d_common_divisor : DefK K mg "common_divisor" s_common_divisor ["one", "other"]) (d_share : DefK K mg "share" s_share ["top", "bottom"]) (d_added : DefK K mg "added" s_added ["one", "other"]) (d_is_less : DefK K mg "is_less" s_is_less ["one", "other"]) (d_lessened : DefK K mg "lessened" s_lessened ["one", "other"]) (d_timed : DefK K mg "timed" s_timed ["one", "other"]) (d_parted : DefK K mg "parted" s_parted ["one", "other"]) (d_cleared : DefK K mg "cleared" s_cleared ["row", "k"]) (d_without_itself : DefK K mg "without_itself" s_without_itself ["row", "k"]) (d_put_in : DefK K mg "put_in" s_put_in ["row", "k", "found"]) (d_solved_rows : DefK K mg "solved_rows" s_solved_rows ["ways", "ends"]) (d_solved : DefK K mg "solved" s_solved ["ways", "ends"]) (d_law_cell_at : DefK K mg "_law_cell_at" s_law_cell_at ["_law_script", "_law_k"]) (d_law_whole : DefK K mg "_law_whole" s_law_whole ["_law_found"]) (d_law_share : DefK K mg "_law_share" s_law_share ["_law_top", "_law_bottom"]) (d_law_added : DefK K mg "_law_added" s_law_added ["_law_one", "_law_other"]) (d_law_timed : DefK K mg "_law_timed" s_law_timed ["_law_one", "_law_other"]) (d_law_is_share : DefK K mg "_law_is_share" s_law_is_share ["_law_found"]) (d_law_dice : DefK K mg "_law_dice" s_law_dice ["_law_cell"]) (d_law_roll : DefK K mg "_law_roll" s_law_roll ["_law_dice_here", "_law_most"]) (d_law_ends : DefK K mg "_law_ends" s_law_ends ["_law_ways"]) (d_law_drawn : DefK K mg "_law_drawn" s_law_drawn ["_law_dice_here", "_law_many"]) (d_law_refused : DefK K mg "_law_refused" s_law_refused ["_law_ways", "_law_ends_here"]) {f : Addr} {fd : FuncData} (F : Fun K "law" "law" s_law f fd) : FnOk P w K mg base CX0 40 f fd ["_law_script"] (spLaw3 K) := by
  have q1 := ok_common_divisor (P := P) (w := w) (base := base) d_common_divisor
  have q2 := ok_share ht d_share q1
  have q3 := ok_added ht d_added q1
  have q4 := ok_is_less (P := P) (w := w) (base := base) d_is_less
  have q5 := ok_lessened d_lessened q2 q4
  have q6 := ok_timed d_timed q2
  have q7 := ok_parted g_NOUGHT d_parted q6
  have q8 := ok_cleared (P := P) (w := w) (base := base) g_NOUGHT d_cleared
  have q9 := ok_without_itself z g_NOUGHT g_ONE d_without_itself q4 q5 q7 q8
  have q10 := ok_put_in z g_NOUGHT d_put_in q3 q6 q8
  have q11r := ok_solved_rows z d_solved_rows q9 q10
  have q11 := ok_solved (P := P) (w := w) (base := base) d_solved q11r
  have q12 := ok_without_itselfX z g_NOUGHT g_ONE er.c er.m2 d_without_itself q4
  have q13r := ok_solved_rowsX z d_solved_rows q9 q10 q12
  have q13 := ok_solvedX d_solved q13r
  have r1 := ok_law_cell_at (P := P) (w := w) (base := base) z d_law_cell_at
  have r2 := ok_law_whole (P := P) (w := w) (base := base) z d_law_whole
  have r3 := ok_law_share (w := w) (base := base) ht d_law_share
  have r4 := ok_law_added d_law_added r3
  have r5 := ok_law_timed d_law_timed r3
  have r6 := ok_law_is_share z d_law_is_share r2
  have r7 := ok_law_dice (P := P) (w := w) (base := base) d_law_dice
  have r8 := ok_law_roll (P := P) (w := w) (base := base) d_law_roll
  have r9 := ok_law_ends z d_law_ends r3 r4 r5
  have r10 := ok_law_drawn z d_law_drawn r8 r3
  have r11 := ok_law_refused z er d_law_refused q13
  exact ok_law z F r1 r7 r10 r9 r11 q11 r6 r4 r5
end
end Law
set_option Elab.async false
set_option linter.all false
set_option maxRecDepth 100000
set_option maxHeartbeats 4000000
namespace Law
open PySem L2 L3
theorem walk {l : PySem.W.OpenLaw} {q : Program} {loose : List Str} {XP : (Str → Option Value) → Heap → Prop} {YP : World → Heap → Prop} {d : DefRec} {K : Params → PySem.W.Frag} (hn : l.most = some 63) (hi : PyProof.Rows.importsNone q = true) (hdf : d.params.defaults = [])
    (hY : ∀ (w : World) (h : Heap), YP w h → (K w.params).In h)
    (F : ∀ (w : World) (mg : Str → Option Value) (fa : Addr) (h : Heap), (K w.params).In h → h.Ns mainGlobals mg → mg d.name = some (.ref fa) →
      ∃ fd : FuncData, (∀ (s : Shared) (u : Value), BindsTo s fd ⟨[u], []⟩ [("_law_script", u)]) ∧ ∀ base : Heap, (K w.params).In base → base.Ns mainGlobals mg → FnOk l.prog w (K w.params) mg base CX0 40 fa fd ["_law_script"] (spLaw3 (K w.params))) :
    PySem.W.WalkO q loose XP YP l.row.toRowW d [] (fun f vs => PySem.call f vs) :=
  L2.walk_of (n := 63) (k := 40) (x := "_law_script") (CX := fun _ => CX0) (sp := fun w => spLaw3 (K w.params)) hn (by decide) hi hdf ⟨rfl, by decide, by decide⟩ hY F (fun _ _ a ns hl _ hS => sp_law3 hl hS) fun _ _ _ _ _ z => z
end Law
open PySem PySem.W PyProof.Rows
set_option maxRecDepth 100000 in
set_option maxHeartbeats 0 in
theorem PySem.Challenge.cw_scoreflow_k03_systems_solved_holds : PySem.Challenge.rw_scoreflow_k03_systems_solved.Holds := by
  w_on; o_law; k_head; (case hw => w_witness2)
  k_fill
  refine Law.walk (l := PySem.Challenge.rw_scoreflow_k03_systems_solved) rfl ?hi rfl (fun w h Y => PySem.W.kIn_of Y) ?F
  case hi => decide +kernel
  case F =>
    intro w mg fa h KX G hmg
    have d_common_divisor : L2.DefK (L2.KOf KX) mg "common_divisor" Law.s_common_divisor ["one", "other"] := by
      dsimp only [L2.KOf]
      refine' L2.def_mk KX G ["one", "other"] ?a ?l ?c ?k ?b
      (case a => k_is); (case l => k_is); (case c => k_is); (case k => k_is)
      (case b => exact fun _ _ _ _ _ _ us hl => match us, hl with | [_, _], _ => rfl)
    have d_share : L2.DefK (L2.KOf KX) mg "share" Law.s_share ["top", "bottom"] := by
      dsimp only [L2.KOf]
      refine' L2.def_mk KX G ["top", "bottom"] ?a ?l ?c ?k ?b
      (case a => k_is); (case l => k_is); (case c => k_is); (case k => k_is)
      (case b => exact fun _ _ _ _ _ _ us hl => match us, hl with | [_, _], _ => rfl)
    have d_added : L2.DefK (L2.KOf KX) mg "added" Law.s_added ["one", "other"] := by
      dsimp only [L2.KOf]
      refine' L2.def_mk KX G ["one", "other"] ?a ?l ?c ?k ?b
      (case a => k_is); (case l => k_is); (case c => k_is); (case k => k_is)
      (case b => exact fun _ _ _ _ _ _ us hl => match us, hl with | [_, _], _ => rfl)
    have d_is_less : L2.DefK (L2.KOf KX) mg "is_less" Law.s_is_less ["one", "other"] := by
      dsimp only [L2.KOf]
      refine' L2.def_mk KX G ["one", "other"] ?a ?l ?c ?k ?b
      (case a => k_is); (case l => k_is); (case c => k_is); (case k => k_is)
      (case b => exact fun _ _ _ _ _ _ us hl => match us, hl with | [_, _], _ => rfl)
    have d_lessened : L2.DefK (L2.KOf KX) mg "lessened" Law.s_lessened ["one", "other"] := by
      dsimp only [L2.KOf]
      refine' L2.def_mk KX G ["one", "other"] ?a ?l ?c ?k ?b
      (case a => k_is); (case l => k_is); (case c => k_is); (case k => k_is)
      (case b => exact fun _ _ _ _ _ _ us hl => match us, hl with | [_, _], _ => rfl)
    have d_timed : L2.DefK (L2.KOf KX) mg "timed" Law.s_timed ["one", "other"] := by
      dsimp only [L2.KOf]
      refine' L2.def_mk KX G ["one", "other"] ?a ?l ?c ?k ?b
      (case a => k_is); (case l => k_is); (case c => k_is); (case k => k_is)
      (case b => exact fun _ _ _ _ _ _ us hl => match us, hl with | [_, _], _ => rfl)
    have d_parted : L2.DefK (L2.KOf KX) mg "parted" Law.s_parted ["one", "other"] := by
      dsimp only [L2.KOf]
      refine' L2.def_mk KX G ["one", "other"] ?a ?l ?c ?k ?b
      (case a => k_is); (case l => k_is); (case c => k_is); (case k => k_is)
      (case b => exact fun _ _ _ _ _ _ us hl => match us, hl with | [_, _], _ => rfl)
    have d_cleared : L2.DefK (L2.KOf KX) mg "cleared" Law.s_cleared ["row", "k"] := by
      dsimp only [L2.KOf]
      refine' L2.def_mk KX G ["row", "k"] ?a ?l ?c ?k ?b
      (case a => k_is); (case l => k_is); (case c => k_is); (case k => k_is)
      (case b => exact fun _ _ _ _ _ _ us hl => match us, hl with | [_, _], _ => rfl)
    have d_without_itself : L2.DefK (L2.KOf KX) mg "without_itself" Law.s_without_itself ["row", "k"] := by
      dsimp only [L2.KOf]
      refine' L2.def_mk KX G ["row", "k"] ?a ?l ?c ?k ?b
      (case a => k_is); (case l => k_is); (case c => k_is); (case k => k_is)
      (case b => exact fun _ _ _ _ _ _ us hl => match us, hl with | [_, _], _ => rfl)
    have d_put_in : L2.DefK (L2.KOf KX) mg "put_in" Law.s_put_in ["row", "k", "found"] := by
      dsimp only [L2.KOf]
      refine' L2.def_mk KX G ["row", "k", "found"] ?a ?l ?c ?k ?b
      (case a => k_is); (case l => k_is); (case c => k_is); (case k => k_is)
      (case b => exact fun _ _ _ _ _ _ us hl => match us, hl with | [_, _, _], _ => rfl)
    have d_solved_rows : L2.DefK (L2.KOf KX) mg "solved_rows" Law.s_solved_rows ["ways", "ends"] := by
      dsimp only [L2.KOf]
      refine' L2.def_mk KX G ["ways", "ends"] ?a ?l ?c ?k ?b
      (case a => k_is); (case l => k_is); (case c => k_is); (case k => k_is)
      (case b => exact fun _ _ _ _ _ _ us hl => match us, hl with | [_, _], _ => rfl)
    have d_solved : L2.DefK (L2.KOf KX) mg "solved" Law.s_solved ["ways", "ends"] := by
      dsimp only [L2.KOf]
      refine' L2.def_mk KX G ["ways", "ends"] ?a ?l ?c ?k ?b
      (case a => k_is); (case l => k_is); (case c => k_is); (case k => k_is)
      (case b => exact fun _ _ _ _ _ _ us hl => match us, hl with | [_, _], _ => rfl)
    have d_law_cell_at : L2.DefK (L2.KOf KX) mg "_law_cell_at" Law.s_law_cell_at ["_law_script", "_law_k"] := by
      dsimp only [L2.KOf]
      refine' L2.def_mk KX G ["_law_script", "_law_k"] ?a ?l ?c ?k ?b
      (case a => k_is); (case l => k_is); (case c => k_is); (case k => k_is)
      (case b => exact fun _ _ _ _ _ _ us hl => match us, hl with | [_, _], _ => rfl)
    have d_law_whole : L2.DefK (L2.KOf KX) mg "_law_whole" Law.s_law_whole ["_law_found"] := by
      dsimp only [L2.KOf]
      refine' L2.def_mk KX G ["_law_found"] ?a ?l ?c ?k ?b
      (case a => k_is); (case l => k_is); (case c => k_is); (case k => k_is)
      (case b => exact fun _ _ _ _ _ _ us hl => match us, hl with | [_], _ => rfl)
    have d_law_share : L2.DefK (L2.KOf KX) mg "_law_share" Law.s_law_share ["_law_top", "_law_bottom"] := by
      dsimp only [L2.KOf]
      refine' L2.def_mk KX G ["_law_top", "_law_bottom"] ?a ?l ?c ?k ?b
      (case a => k_is); (case l => k_is); (case c => k_is); (case k => k_is)
      (case b => exact fun _ _ _ _ _ _ us hl => match us, hl with | [_, _], _ => rfl)
    have d_law_added : L2.DefK (L2.KOf KX) mg "_law_added" Law.s_law_added ["_law_one", "_law_other"] := by
      dsimp only [L2.KOf]
      refine' L2.def_mk KX G ["_law_one", "_law_other"] ?a ?l ?c ?k ?b
      (case a => k_is); (case l => k_is); (case c => k_is); (case k => k_is)
      (case b => exact fun _ _ _ _ _ _ us hl => match us, hl with | [_, _], _ => rfl)
    have d_law_timed : L2.DefK (L2.KOf KX) mg "_law_timed" Law.s_law_timed ["_law_one", "_law_other"] := by
      dsimp only [L2.KOf]
      refine' L2.def_mk KX G ["_law_one", "_law_other"] ?a ?l ?c ?k ?b
      (case a => k_is); (case l => k_is); (case c => k_is); (case k => k_is)
      (case b => exact fun _ _ _ _ _ _ us hl => match us, hl with | [_, _], _ => rfl)
    have d_law_is_share : L2.DefK (L2.KOf KX) mg "_law_is_share" Law.s_law_is_share ["_law_found"] := by
      dsimp only [L2.KOf]
      refine' L2.def_mk KX G ["_law_found"] ?a ?l ?c ?k ?b
      (case a => k_is); (case l => k_is); (case c => k_is); (case k => k_is)
      (case b => exact fun _ _ _ _ _ _ us hl => match us, hl with | [_], _ => rfl)
    have d_law_dice : L2.DefK (L2.KOf KX) mg "_law_dice" Law.s_law_dice ["_law_cell"] := by
      dsimp only [L2.KOf]
      refine' L2.def_mk KX G ["_law_cell"] ?a ?l ?c ?k ?b
      (case a => k_is); (case l => k_is); (case c => k_is); (case k => k_is)
      (case b => exact fun _ _ _ _ _ _ us hl => match us, hl with | [_], _ => rfl)
    have d_law_roll : L2.DefK (L2.KOf KX) mg "_law_roll" Law.s_law_roll ["_law_dice_here", "_law_most"] := by
      dsimp only [L2.KOf]
      refine' L2.def_mk KX G ["_law_dice_here", "_law_most"] ?a ?l ?c ?k ?b
      (case a => k_is); (case l => k_is); (case c => k_is); (case k => k_is)
      (case b => exact fun _ _ _ _ _ _ us hl => match us, hl with | [_, _], _ => rfl)
    have d_law_ends : L2.DefK (L2.KOf KX) mg "_law_ends" Law.s_law_ends ["_law_ways"] := by
      dsimp only [L2.KOf]
      refine' L2.def_mk KX G ["_law_ways"] ?a ?l ?c ?k ?b
      (case a => k_is); (case l => k_is); (case c => k_is); (case k => k_is)
      (case b => exact fun _ _ _ _ _ _ us hl => match us, hl with | [_], _ => rfl)
    have d_law_drawn : L2.DefK (L2.KOf KX) mg "_law_drawn" Law.s_law_drawn ["_law_dice_here", "_law_many"] := by
      dsimp only [L2.KOf]
      refine' L2.def_mk KX G ["_law_dice_here", "_law_many"] ?a ?l ?c ?k ?b
      (case a => k_is); (case l => k_is); (case c => k_is); (case k => k_is)
      (case b => exact fun _ _ _ _ _ _ us hl => match us, hl with | [_, _], _ => rfl)
    have d_law_refused : L2.DefK (L2.KOf KX) mg "_law_refused" Law.s_law_refused ["_law_ways", "_law_ends_here"] := by
      dsimp only [L2.KOf]
      refine' L2.def_mk KX G ["_law_ways", "_law_ends_here"] ?a ?l ?c ?k ?b
      (case a => k_is); (case l => k_is); (case c => k_is); (case k => k_is)
      (case b => exact fun _ _ _ _ _ _ us hl => match us, hl with | [_, _], _ => rfl)
    have z_len : mg "len" = none := by
      refine' PySem.W.mg_none_of KX G ?a
      (case a => k_is)
    have z_range : mg "range" = none := by
      refine' PySem.W.mg_none_of KX G ?a
      (case a => k_is)
    have z_list : mg "list" = none := by
      refine' PySem.W.mg_none_of KX G ?a
      (case a => k_is)
    have z_tuple : mg "tuple" = none := by
      refine' PySem.W.mg_none_of KX G ?a
      (case a => k_is)
    have z_int : mg "int" = none := by
      refine' PySem.W.mg_none_of KX G ?a
      (case a => k_is)
    have z_bool : mg "bool" = none := by
      refine' PySem.W.mg_none_of KX G ?a
      (case a => k_is)
    have z_str : mg "str" = none := by
      refine' PySem.W.mg_none_of KX G ?a
      (case a => k_is)
    have z_dict : mg "dict" = none := by
      refine' PySem.W.mg_none_of KX G ?a
      (case a => k_is)
    have z_isinstance : mg "isinstance" = none := by
      refine' PySem.W.mg_none_of KX G ?a
      (case a => k_is)
    have z_sum : mg "sum" = none := by
      refine' PySem.W.mg_none_of KX G ?a
      (case a => k_is)
    have z_enumerate : mg "enumerate" = none := by
      refine' PySem.W.mg_none_of KX G ?a
      (case a => k_is)
    have z_zip : mg "zip" = none := by
      refine' PySem.W.mg_none_of KX G ?a
      (case a => k_is)
    have z_ValueError : mg "ValueError" = none := by
      refine' PySem.W.mg_none_of KX G ?a
      (case a => k_is)
    have z_all : mg "all" = none := by
      refine' PySem.W.mg_none_of KX G ?a
      (case a => k_is)
    have z_any : mg "any" = none := by
      refine' PySem.W.mg_none_of KX G ?a
      (case a => k_is)
    have z_reversed : mg "reversed" = none := by
      refine' PySem.W.mg_none_of KX G ?a
      (case a => k_is)
    have z : L3.Zs mg := ⟨z_len, z_range, z_list, z_tuple, z_int, z_bool, z_str, z_dict, z_isinstance, z_sum, z_enumerate, z_zip, z_ValueError, z_all, z_any, z_reversed⟩
    have g_NOUGHT : L3.GlobD (L2.KOf KX) mg "NOUGHT" (L3.sh 0) := by
      dsimp only [L2.KOf]
      refine' L3.globPair KX G ?a ?l
      (case a => k_is); (case l => k_is)
    have g_ONE : L3.GlobD (L2.KOf KX) mg "ONE" (L3.sh 1) := by
      dsimp only [L2.KOf]
      refine' L3.globPair KX G ?a ?l
      (case a => k_is); (case l => k_is)
    have er : ∃ S A1 A2 A3 A4 A5, L3.Errs (L2.KOf KX) mg S A1 A2 A3 A4 A5 A2 false true false false false := by
      dsimp only [L2.KOf]
      refine' ⟨_, _, _, _, _, _, L3.errs_mk KX G ?aS ?a1 ?a2 ?a3 ?a4 ?a5 ?c1 ?g1 ?g2 ?g3 ?g4 ?g5 ?g6 ?g7 ?lk ?xS ?xR ?kS ?kV ?k1 ?k2 ?k3 ?k4 ?k5⟩
      (case aS => k_is); (case a1 => k_is); (case a2 => k_is); (case a3 => k_is); (case a4 => k_is); (case a5 => k_is)
      (case c1 => kernel_rfl)
      (case g1 => k_is); (case g2 => k_is); (case g3 => k_is); (case g4 => k_is); (case g5 => k_is); (case g6 => k_is); (case g7 => k_is); (case lk => k_is)
      (case xS => kernel_rfl); (case xR => kernel_rfl); (case kS => kernel_rfl); (case kV => kernel_rfl); (case k1 => kernel_rfl); (case k2 => kernel_rfl); (case k3 => kernel_rfl); (case k4 => kernel_rfl); (case k5 => kernel_rfl)
    obtain ⟨S, A1, A2, A3, A4, A5, er⟩ := er
    refine' L2.law_mk (st := Law.s_law) KX G hmg ?a ?l ?c ?k ?b ?ok
    (case a => k_is); (case l => k_is); (case c => k_is); (case k => k_is)
    (case b => exact fun _ => rfl)
    (case ok =>
      intro fd base kb nb F
      exact Law.law_all rfl z g_NOUGHT g_ONE er d_common_divisor d_share d_added d_is_less d_lessened d_timed d_parted d_cleared d_without_itself d_put_in d_solved_rows d_solved d_law_cell_at d_law_whole d_law_share d_law_added d_law_timed d_law_is_share d_law_dice d_law_roll d_law_ends d_law_drawn d_law_refused F)
