import PyProof.Rows.All
import Wide.All
import OpenK.AllK
import Wide.FinOn
import Lean
import PyProof.EqAt
import PyProof.EqKinds
import PyProof.TupleCall
import PyProof.NeKinds
import PyProof.ZipIter
import PyProof.EnumFor
import PyProof.EnumMake
import PySem.Challenge.RW_cisternyard_k07_whole_no_plan_beats_a_li
-- CHANGE: your row's module here, as the last of these rows
set_option Elab.async false
set_option linter.all false
set_option maxRecDepth 100000
/-! THE HAND LAYER, for ints, bools, texts, own classes, LISTS and tuples (index, slices, in, append, pop ..), calls, loops. Paste it whole ahead of your own text; what your proof does not reach may be deleted. -/
namespace L2
open PySem PySem.Spec PyProof.Rows

/-- a key: an int or a str -/
abbrev Key := Sum Int Str
def keyIs : Key → Value → Bool
  | .inl k, v => Value.isInt k v
  | .inr x, v => Value.isStrOf x v
def keyH (w : World) : Key → Int
  | .inl k => hashInt k
  | .inr x => hashStr w x
theorem keyIs_shape : ∀ {k : Key} {v : Value}, keyIs k v = true → (∃ i t, k = Sum.inl i ∧ v = Value.int i t) ∨ (∃ x t, k = Sum.inr x ∧ v = Value.str x t)
  | .inl i, v, h => by
    obtain ⟨t, e⟩ := Value.isInt_shape (k := i) (v := v) h
    exact .inl ⟨i, t, rfl, e⟩
  | .inr x, v, h => by
    obtain ⟨t, e⟩ := Value.isStrOf_shape (x := x) (v := v) h
    exact .inr ⟨x, t, rfl, e⟩
theorem key_ll (a b : Int) : decide ((Sum.inl a : Key) = Sum.inl b) = (a == b) := by
  by_cases e : a = b
  · subst e; simp
  · have h : ¬ (Sum.inl a : Key) = Sum.inl b := fun q => e (Sum.inl.inj q)
    rw [decide_eq_false h]
    exact (beq_eq_false_iff_ne.mpr e).symm
theorem key_rr (a b : Str) : decide ((Sum.inr a : Key) = Sum.inr b) = decide (a = b) := by
  by_cases e : a = b
  · subst e; simp
  · have h : ¬ (Sum.inr a : Key) = Sum.inr b := fun q => e (Sum.inr.inj q)
    rw [decide_eq_false h, decide_eq_false e]
theorem key_lr (a : Int) (b : Str) : decide ((Sum.inl a : Key) = Sum.inr b) = false := decide_eq_false (fun q => nomatch q)
theorem key_rl (a : Str) (b : Int) : decide ((Sum.inr a : Key) = Sum.inl b) = false := decide_eq_false (fun q => nomatch q)

def mixKind (prog : Program) (w : World) : PySem.KeyKind prog w Key where
  is := keyIs
  hash := keyH w
  inj := fun v a b ha hb => by
    rcases keyIs_shape ha with ⟨i, t, rfl, rfl⟩ | ⟨x, t, rfl, rfl⟩
    · rcases keyIs_shape hb with ⟨j, u, rfl, e⟩ | ⟨y, u, rfl, e⟩
      · injection e with e1 _; rw [e1]
      · exact nomatch e
    · rcases keyIs_shape hb with ⟨j, u, rfl, e⟩ | ⟨y, u, rfl, e⟩
      · exact nomatch e
      · injection e with e1 _; rw [e1]
  byValue := fun k v h => by
    rcases keyIs_shape h with ⟨i, t, rfl, rfl⟩ | ⟨x, t, rfl, rfl⟩ <;> rfl
  pyHash := fun hv h => by
    rcases keyIs_shape hv with ⟨i, t, rfl, rfl⟩ | ⟨x, t, rfl, rfl⟩
    · exact wpAny_pyHash_int h
    · exact wpAny_pyHash_str h
  eqBool := fun hu hv h => by
    rcases keyIs_shape hu with ⟨i, t, rfl, rfl⟩ | ⟨x, t, rfl, rfl⟩
    · rcases keyIs_shape hv with ⟨j, u, rfl, rfl⟩ | ⟨y, u, rfl, rfl⟩
      · rw [key_ll] at h; exact wpAny_eqBool_int h
      · rw [key_lr] at h; exact SeqAt.EqAt.int_str i t y u _ _ _ _ h
    · rcases keyIs_shape hv with ⟨j, u, rfl, rfl⟩ | ⟨y, u, rfl, rfl⟩
      · rw [key_rl] at h; exact SeqAt.EqAt.str_int x t j u _ _ _ _ h
      · rw [key_rr] at h; exact wpAny_eqBool_str h
  «strs» := fun k x t v h => by
    rcases keyIs_shape h with ⟨i, u, rfl, e⟩ | ⟨y, u, rfl, e⟩
    · exact nomatch e
    · injection e with e1 _
      subst e1
      cases v <;> rfl

end L2

namespace L2
open PySem PySem.Spec PyProof.Rows

/-- a value, without the heap -/
inductive V where
  | non | bl (b : Bool) | int (i : Int) | str (x : Str) | byt (b : Array UInt8) | flt (b : UInt64) | ref (a : Addr) | ty (n : String)
  deriving DecidableEq

def RelV : V → Value → Prop
  | .non, u => u = Value.none
  | .bl b, u => u = Value.bool b
  | .int i, u => ∃ t, u = Value.int i t
  | .str x, u => ∃ t, u = Value.str x t
  | .byt b, u => ∃ t, u = Value.bytes b t
  | .flt b, u => ∃ t, u = Value.float b t
  | .ref a, u => u = Value.ref a
  | .ty n, u => u = Value.type n

abbrev Vals : List V → List Value → Prop := Paired RelV
theorem Vals.length {xs : List V} {us : List Value} (r : Vals xs us) : xs.length = us.length := Paired.length r
theorem Vals.get : ∀ {xs : List V} {us : List Value} {i : Nat} {x : V}, Vals xs us → xs[i]? = some x → ∃ u, us[i]? = some u ∧ RelV x u
  | _, _, _, _, .nil, e => by simp at e
  | _, _, 0, _, .cons r _, e => by simp at e; subst e; exact ⟨_, rfl, r⟩
  | _, _, i + 1, x, .cons _ t, e => by
    obtain ⟨u, h1, h2⟩ := Vals.get (i := i) (x := x) t (by simpa using e)
    exact ⟨u, by simpa using h1, h2⟩
theorem Vals.set {x : V} {u : Value} (r : RelV x u) : ∀ {xs : List V} {us : List Value} (i : Nat), Vals xs us → Vals (xs.set i x) (us.set i u)
  | _, _, _, .nil => .nil
  | _, _, 0, .cons _ t => .cons r t
  | _, _, i + 1, .cons q t => .cons q (Vals.set r i t)
theorem Vals.append : ∀ {xs ys : List V} {us ws : List Value}, Vals xs us → Vals ys ws → Vals (xs ++ ys) (us ++ ws)
  | _, _, _, _, .nil, s => s
  | _, _, _, _, .cons r t, s => .cons r (Vals.append t s)
theorem Vals.take : ∀ {xs : List V} {us : List Value} (n : Nat), Vals xs us → Vals (xs.take n) (us.take n)
  | _, _, 0, _ => .nil
  | _, _, _ + 1, .nil => .nil
  | _, _, n + 1, .cons r t => .cons r (Vals.take n t)
theorem Vals.drop : ∀ {xs : List V} {us : List Value} (n : Nat), Vals xs us → Vals (xs.drop n) (us.drop n)
  | _, _, 0, r => r
  | _, _, _ + 1, .nil => .nil
  | _, _, n + 1, .cons _ t => Vals.drop n t
def RelO : Option V → Option Value → Prop
  | some v, some u => RelV v u
  | none, none => True
  | _, _ => False
def KV {κ : Type} : List (κ × V) → List (κ × Value) → Prop := Paired fun (p : κ × V) (q : κ × Value) => p.1 = q.1 ∧ RelV p.2 q.2

/-- a key of a dict (00_mix): an int or a text -/
def kV : Key → V
  | .inl i => .int i
  | .inr x => .str x

/-- what stands at a tracked address -/
inductive HO where
  /-- a list -/
  | lst (xs : List V)
  /-- a tuple (never changes) -/
  | tup (xs : List V)
  /-- a dict whose keys are ints and texts; one whose keys are tuples of ints and texts (the empty one is both) -/
  | dK (kvs : List (Key × V)) | dT (kvs : List (List Key × V))
  /-- a set of ints: its members, its size -/
  | set (S : Int → Bool) (n : Nat)
  /-- an instance of the class at C, its dict at dx, its attributes -/
  | ins (C dx : Addr) (fs : List (Str × V))
  /-- the dict of the instance at x -/
  | own (x : Addr)
  /-- the dict of an exception -/
  | xd (fs : List (Str × V))
  /-- a bound method, f of x -/
  | met (f x : Addr)
  /-- a range object lo, lo + 1, .. below hi -/
  | rng (lo hi : Int)
  /-- a thing that is known to the object (the script; a dict while a loop walks it): read, never written while it is so -/
  | frz (o : Obj) (u : HO)
  /-- a code object's table -/
  | tbl (ps : Array Value)
  /-- any other thing, by what is true of its one object (a def of one's own: SetO a S n := HO.ext fun h => ..) -/
  | ext (φ : Heap → Prop)

abbrev Hp := Addr → Option HO
def upd (H : Hp) (a : Addr) (o : HO) : Hp := fun b => if b = a then some o else H b
theorem upd_same {H : Hp} {a : Addr} {o : HO} : upd H a o a = some o := by unfold upd; rw [if_pos rfl]
theorem upd_ne {H : Hp} {a b : Addr} {o : HO} (h : b ≠ a) : upd H a o b = H b := by unfold upd; rw [if_neg h]
theorem upd_upd {H : Hp} {a : Addr} {o u : HO} : upd (upd H a o) a u = upd H a u := by
  funext b; unfold upd; split <;> rfl
/-- two objects of different content stand apart -/
theorem ne_of {H : Hp} {a b : Addr} {o u : HO} (h : H a = some o) (h' : H b = some u) (d : o ≠ u) : a ≠ b := by
  intro e; subst e; rw [h] at h'; exact d (Option.some.inj h')
theorem ne_of_none {H : Hp} {a b : Addr} {o : HO} (h : H a = some o) (h' : H b = none) : a ≠ b := by
  intro e; subst e; rw [h] at h'; cases h'

section
variable (P : Program) (w : World)
def ObjOk (H : Hp) (h : Heap) (a : Addr) : HO → Prop
  | .lst xs => xs.length ≤ sizeLine ∧ ∃ (its : List Value) (n : Nat), Vals xs its ∧ h.get? a = some { cls := .type "list", data := .seq its.toArray n }
  | .tup xs => xs.length ≤ sizeLine ∧ ∃ its : List Value, Vals xs its ∧ IsTup h a its.toArray
  | .dK kvs => kvs.length ≤ sizeLine ∧ (a == sysModules) = false ∧ ∃ vs, KV kvs vs ∧ h.DictOf (mixKind P w) a vs
  | .dT kvs => kvs.length ≤ sizeLine ∧ (a == sysModules) = false ∧ ∃ xs : List (List Key × Addr × Value),
      Paired (fun (p : List Key × V) (q : List Key × Addr × Value) => p.1 = q.1 ∧ H q.2.1 = some (.tup (p.1.map kV)) ∧ RelV p.2 q.2.2) kvs xs ∧
      ∃ o es ep, h.get? a = some o ∧ o.ExactDict ∧ o.data = .dict es ep ∧ es.toList = xs.map (entryOfKey (tupleKind (mixKind P w))) ∧ (xs.map (·.1)).Nodup
  | .set S n => h.SetOf (intKind P w) a S n
  | .ins C dx fs => H dx = some (.own a) ∧ fs.length ≤ 1000 ∧ dx ≠ a ∧ h.get? a = some (PySem.W.instObj C dx) ∧
      ∃ mA, h.Ns1 dx mA ∧ (∀ f, RelO (fs.lookup f) (mA f)) ∧ PySem.Within mA (fs.map (·.1))
  | .own _ => ∃ o, h.get? a = some o
  | .xd fs => ∃ mA, h.Ns1 a mA ∧ ∀ f, RelO (fs.lookup f) (mA f)
  | .rng lo hi => ∃ t u v, h.get? a = some { cls := .type "range", data := .fields #[.int lo t, .int hi u, .int 1 v] }
  | .frz o u => h.get? a = some o ∧ ObjOk H h a u
  | .tbl ps => h.get? a = some { cls := .none, data := .fields ps }
  | .met f x => h.get? a = some (PySem.W.methodObj (.ref f) (.ref x))
  | .ext φ => φ h ∧ (∃ o, h.get? a = some o) ∧ ∀ h1 h2 : Heap, φ h1 → (∀ o, h1.get? a = some o → h2.get? a = some o) → φ h2
/-- the abstract heap is held -/
def HOk (H : Hp) (h : Heap) : Prop := ∀ a o, H a = some o → ObjOk P w H h a o
end

section
variable {P : Program} {w : World} {H H' : Hp} {h h' : Heap} {a : Addr} {o : HO}
theorem ObjOk.lt (x : ObjOk P w H h a o) : a < h.objs.size := by
  cases o with
  | lst xs => obtain ⟨_, _, _, _, e⟩ := x; exact Heap.lt_size e
  | tup xs => obtain ⟨_, _, _, p⟩ := x; exact p.lt
  | dK kvs => obtain ⟨_, _, _, _, o, _, _, e, _⟩ := x; exact Heap.lt_size e
  | dT kvs => obtain ⟨_, _, _, _, o, _, _, e, _⟩ := x; exact Heap.lt_size e
  | set S n => obtain ⟨o, _, _, _, e, _⟩ := x; exact Heap.lt_size e
  | ins C dx fs => obtain ⟨_, _, _, e, _⟩ := x; exact Heap.lt_size e
  | own y => obtain ⟨_, e⟩ := x; exact Heap.lt_size e
  | xd fs => obtain ⟨_, ⟨_, _, _, e, _⟩, _⟩ := x; exact Heap.lt_size e
  | rng lo hi => obtain ⟨_, _, _, e⟩ := x; exact Heap.lt_size e
  | frz ob u => obtain ⟨e, _⟩ := x; exact Heap.lt_size e
  | tbl ps => exact Heap.lt_size (show h.get? a = some _ from x)
  | met f y => exact Heap.lt_size (show h.get? a = some _ from x)
  | ext φ => obtain ⟨_, ⟨_, e⟩, _⟩ := x; exact Heap.lt_size e
theorem Paired.mapP {α β : Type} {F G : α → β → Prop} : ∀ {l₁ : List α} {l₂ : List β}, Paired F l₁ l₂ → (∀ a b, F a b → G a b) → Paired G l₁ l₂
  | _, _, .nil, _ => .nil
  | _, _, .cons r t, f => .cons (f _ _ r) (Paired.mapP t f)
/-- what an object's description leans on: its own object, its own dict, the tuples -/
theorem ObjOk.stay (x : ObjOk P w H h a o) (k : ∀ b u, (b = a ∨ H b = some (.own a)) → h.get? b = some u → h'.get? b = some u)
    (ho : ∀ b, H b = some (.own a) → H' b = some (.own a)) (ht : ∀ b xs, H b = some (.tup xs) → H' b = some (.tup xs)) : ObjOk P w H' h' a o := by
  induction o with
  | lst xs => obtain ⟨z, its, n, r, e⟩ := x; exact ⟨z, its, n, r, k _ _ (.inl rfl) e⟩
  | tup xs => obtain ⟨z, its, r, ob, e, c⟩ := x; exact ⟨z, its, r, ob, k _ _ (.inl rfl) e, c⟩
  | dK kvs => obtain ⟨z, y, vs, r, ob, es, ep, e, c⟩ := x; exact ⟨z, y, vs, r, ob, es, ep, k _ _ (.inl rfl) e, c⟩
  | dT kvs =>
    obtain ⟨z, y, xs, r, ob, es, ep, e, c⟩ := x
    exact ⟨z, y, xs, Paired.mapP r fun p q z => ⟨z.1, ht _ _ z.2.1, z.2.2⟩, ob, es, ep, k _ _ (.inl rfl) e, c⟩
  | set S n => obtain ⟨ob, es, ep, t, e, c⟩ := x; exact ⟨ob, es, ep, t, k _ _ (.inl rfl) e, c⟩
  | ins C dx fs =>
    obtain ⟨d, z, ne, e, mA, ⟨od, es, ep, e2, c⟩, r⟩ := x
    exact ⟨ho _ d, z, ne, k _ _ (.inl rfl) e, mA, ⟨od, es, ep, k _ _ (.inr d) e2, c⟩, r⟩
  | own y => obtain ⟨ob, e⟩ := x; exact ⟨ob, k _ _ (.inl rfl) e⟩
  | xd fs => obtain ⟨mA, ⟨od, es, ep, e, c⟩, r⟩ := x; exact ⟨mA, ⟨od, es, ep, k _ _ (.inl rfl) e, c⟩, r⟩
  | rng lo hi => obtain ⟨t, u, v, e⟩ := x; exact ⟨t, u, v, k _ _ (.inl rfl) e⟩
  | frz ob u ih => obtain ⟨e, q⟩ := x; exact ⟨k _ _ (.inl rfl) e, ih q⟩
  | tbl ps =>
    have e : h.get? a = some { cls := .none, data := .fields ps } := x
    show h'.get? a = some { cls := .none, data := .fields ps }
    exact k a _ (.inl rfl) e
  | met f y =>
    have e : h.get? a = some (PySem.W.methodObj (.ref f) (.ref y)) := x
    show h'.get? a = some (PySem.W.methodObj (.ref f) (.ref y))
    exact k a _ (.inl rfl) e
  | ext φ => obtain ⟨p, ⟨o, e⟩, st⟩ := x; exact ⟨st _ _ p fun o q => k _ _ (.inl rfl) q, ⟨o, k _ _ (.inl rfl) e⟩, st⟩
theorem HOk.lt (x : HOk P w H h) (e : H a = some o) : a < h.objs.size := (x a o e).lt
theorem HOk.fresh (x : HOk P w H h) (e : h.objs.size ≤ a) : H a = none := by
  cases q : H a with
  | none => rfl
  | some u => exact absurd (Nat.lt_of_lt_of_le (x.lt q) e) (Nat.lt_irrefl _)
/-- every object of the heap is kept -/
theorem HOk.kept (x : HOk P w H h) (k : ∀ b u, h.get? b = some u → h'.get? b = some u) : HOk P w H h' := fun a o e =>
  (x a o e).stay (fun b u _ q => k b u q) (fun _ q => q) fun _ _ q => q
/-- a new object is laid and tracked -/
theorem HOk.laid (x : HOk P w H h) (k : ∀ b u, h.get? b = some u → h'.get? b = some u) (hp : h.objs.size ≤ a) (new : ObjOk P w (upd H a o) h' a o) : HOk P w (upd H a o) h' := fun b u e => by
  have hn := x.fresh hp
  by_cases hb : b = a
  · subst hb; rw [upd_same] at e; cases e; exact new
  · rw [upd_ne hb] at e
    exact (x b u e).stay (fun c v _ q => k c v q) (fun c q => by rw [upd_ne (ne_of_none q hn)]; exact q) fun c xs q => by rw [upd_ne (ne_of_none q hn)]; exact q
end

/-- what may be read as u: it is u, or a known u -/
def Rd (H : Hp) (a : Addr) (u : HO) : Prop := H a = some u ∨ ∃ o, H a = some (.frz o u)
theorem Rd.ok {P : Program} {w : World} {H : Hp} {h : Heap} {a : Addr} {u : HO} (r : Rd H a u) (x : HOk P w H h) : ObjOk P w H h a u := by
  rcases r with r | ⟨o, r⟩
  · exact x a u r
  · obtain ⟨_, q⟩ := x a _ r
    exact q
/-- what may be written -/
def Mut : Option HO → Prop
  | some (.lst _) => True
  | some (.dK _) => True
  | some (.dT _) => True
  | some (.set _ _) => True
  | some (.ins _ _ _) => True
  | some (.ext _) => True
  | _ => False
section
variable {P : Program} {w : World} {H : Hp} {h h' : Heap} {x e : Addr} {o' : HO}
/-- the object at e is changed: x itself, or the dict of the instance x -/
theorem HOk.write (ok : HOk P w H h) (mu : Mut (H x)) (he : e = x ∨ H e = some (.own x)) (k : ∀ b u, b ≠ e → h.get? b = some u → h'.get? b = some u) (heo : ∃ u, h'.get? e = some u)
    (new : ObjOk P w (upd H x o') h' x o') : HOk P w (upd H x o') h' := fun b u q => by
  have nown : ∀ c y, H c = some (.own y) → c ≠ x := fun c y r z => by subst z; rw [r] at mu; exact mu
  have ntup : ∀ c xs, H c = some (.tup xs) → c ≠ x := fun c xs r z => by subst z; rw [r] at mu; exact mu
  by_cases hb : b = x
  · subst hb; rw [upd_same] at q; cases q; exact new
  · rw [upd_ne hb] at q
    by_cases hbe : b = e
    · have q' : H b = some (.own x) := by
        rcases he with z | z
        · exact absurd (hbe.trans z) hb
        · rw [hbe]; exact z
      rw [q] at q'; cases q'
      obtain ⟨v, hv⟩ := heo
      exact ⟨v, by rw [hbe]; exact hv⟩
    · refine (ok b u q).stay (fun c v hc r => k c v ?_ r) (fun c r => by rw [upd_ne (nown c b r)]; exact r) fun c xs r => by rw [upd_ne (ntup c xs r)]; exact r
      rcases hc with rfl | hc
      · exact hbe
      · rintro rfl
        rcases he with z | z
        · exact nown c b hc z
        · rw [hc] at z; cases z; exact hb rfl
end

/-! ### kept unless tracked; of the frames at fs (the callers') the slots may change (an exception that passes writes there); of the records at ex (iterators) nothing is said -/
structure Un (fs ex : List Addr) (H H' : Hp) (h h' : Heap) : Prop where
  keep : ∀ b o, h.get? b = some o → H b = none → b ∉ fs → b ∉ ex → h'.get? b = some o
  slot : ∀ b o, h.get? b = some o → H b = none → b ∈ fs → b ∉ ex → ∃ sl, h'.get? b = some { o with slots := sl }
  free : ∀ b o, h.get? b = some o → H b = none → b ∉ ex → H' b = none
  there : ∀ b o, h.get? b = some o → b ∉ ex → ∃ o', h'.get? b = some o'
  tups : ∀ b xs, H b = some (.tup xs) → H' b = some (.tup xs)
  frzs : ∀ b o u, H b = some (.frz o u) → H' b = some (.frz o u)
  tbls : ∀ b ps, H b = some (.tbl ps) → ∃ more, H' b = some (.tbl (ps ++ more))
section
variable {fs fs' ex ex' : List Addr} {H H1 H2 : Hp} {h h1 h2 h' : Heap} {a x e : Addr} {o : HO}
theorem Un.any (u : Un fs ex H H1 h h1) {b : Addr} {ob : Obj} (q : h.get? b = some ob) (n : H b = none) (hx : b ∉ ex) : ∃ sl, h1.get? b = some { ob with slots := sl } := by
  by_cases hb : b ∈ fs
  · exact u.slot b ob q n hb hx
  · exact ⟨ob.slots, u.keep b ob q n hb hx⟩
theorem Un.kept (k : ∀ b u, h.get? b = some u → h'.get? b = some u) : Un fs ex H H h h' :=
  ⟨fun b ob q _ _ _ => k b ob q, fun b ob q _ _ _ => ⟨ob.slots, k b ob q⟩, fun _ _ _ n _ => n, fun b ob q _ => ⟨ob, k b ob q⟩, fun _ _ q => q, fun _ _ _ q => q, fun _ ps q => ⟨#[], by rw [q]; simp⟩⟩
theorem Un.refl : Un fs ex H H h h := Un.kept fun _ _ q => q
theorem Un.laid (k : ∀ b u, h.get? b = some u → h'.get? b = some u) (hp : h.objs.size ≤ a) (hn : H a = none) : Un fs ex H (upd H a o) h h' where
  keep := fun b u q _ _ _ => k b u q
  slot := fun b u q _ _ _ => ⟨u.slots, k b u q⟩
  free := fun b u q n _ => by rw [upd_ne (Nat.ne_of_lt (Nat.lt_of_lt_of_le (Heap.lt_size q) hp))]; exact n
  there := fun b u q _ => ⟨u, k b u q⟩
  tups := fun b xs q => by rw [upd_ne (ne_of_none q hn)]; exact q
  frzs := fun b u xs q => by rw [upd_ne (ne_of_none q hn)]; exact q
  tbls := fun b ps q => ⟨#[], by rw [upd_ne (ne_of_none q hn), q]; simp⟩
theorem Un.write (mu : Mut (H x)) (he : e = x ∨ H e = some (.own x)) (k : ∀ b u, b ≠ e → h.get? b = some u → h'.get? b = some u) (heo : ∃ u, h'.get? e = some u) : Un fs ex H (upd H x o) h h' := by
  have hx : ∀ b, H b = none → b ≠ x := fun b n z => by subst z; rw [n] at mu; exact mu
  have hb : ∀ b, H b = none → b ≠ e := fun b n z => by
    subst z
    rcases he with r | r
    · exact hx b n r
    · rw [n] at r; cases r
  have hm : ∀ b u, H b = some u → ¬ Mut (some u) → b ≠ x := fun b u q nm z => by subst z; rw [q] at mu; exact nm mu
  refine ⟨fun b u q n _ _ => k b u (hb b n) q, fun b u q n _ _ => ⟨u.slots, k b u (hb b n) q⟩, fun b u q n _ => by rw [upd_ne (hx b n)]; exact n, fun b u q _ => ?_,
    fun b xs q => by rw [upd_ne (hm b _ q fun z => z)]; exact q, fun b u xs q => by rw [upd_ne (hm b _ q fun z => z)]; exact q, fun b ps q => ⟨#[], by rw [upd_ne (hm b _ q fun z => z), q]; simp⟩⟩
  by_cases hbe : b = e
  · subst hbe; exact heo
  · exact ⟨u, k b u hbe q⟩
end

/-! ### the heap without what is tracked -/
def trk (h : Heap) (H : Hp) : List Addr := (List.range h.objs.size).filter fun a => (H a).isSome
def hidT (h : Heap) (H : Hp) : Heap := PySem.W.hideAll h (trk h H)
theorem hidT_size (h : Heap) (H : Hp) : (hidT h H).objs.size = h.objs.size := PySem.W.hideAll_size _ _
theorem hidT_get {h : Heap} {H : Hp} {b : Addr} {o : Obj} (e : h.get? b = some o) (n : H b = none) : (hidT h H).get? b = some o :=
  PySem.W.hideAll_get _ e fun hm => by
    have q : (H b).isSome = true := (List.mem_filter.mp hm).2
    rw [n] at q; simp at q
theorem of_hidT {h : Heap} {H : Hp} {b : Addr} {o : Obj} (e : (hidT h H).get? b = some o) : h.get? b = some o ∧ H b = none := by
  have e' : h.get? b = some o := PySem.W.of_hideAll (trk h H) e
  refine ⟨e', ?_⟩
  cases q : H b with
  | none => rfl
  | some x =>
    have hm : b ∈ trk h H := List.mem_filter.mpr ⟨List.mem_range.mpr (Heap.lt_size e'), by simp [q]⟩
    have z : (hidT h H).get? b = none := PySem.W.hideAll_none (trk h H) hm
    rw [z] at e; cases e

/-! ### OpenK's ledger, filled with every new object but one -/
def allNews (g h : Heap) (L : Addr) : List (Addr × Obj) := (List.range h.objs.size).filterMap fun a => if a = L ∨ (g.get? a).isSome = true then none else (h.get? a).map fun o => (a, o)
def rest (g h : Heap) (L d : Addr) : List (Addr × Obj) := (allNews g h L).filter fun p => decide (p.1 ≠ d)
end L2

namespace L2
open PySem PySem.Spec PyProof.Rows

/-- the module's facts, over the base: the heap at the law's entry without what is tracked there -/
structure Mod (K : PySem.W.Frag) (mg : Str → Option Value) (base : Heap) : Prop where
  kin : K.In base
  glob : base.Ns mainGlobals mg
  blt : ∃ mb, base.Ns builtinsNs mb ∧ ∀ x : Str, x ≠ "__name__" → mb x = bootBuiltins x
  nolimit : base.NoLimit

/-- the context: a def's body (or a comprehension's block) running. base: fixed through the whole law; s₀, H₀: the entry; outer: the frames whose slots others may change (a def's callers); stack: all frames that run;
   ex: iterators that were made ahead of the entry and are walked here (a comprehension's); fn: the names whose cells were made at the entry (a def: all; a comprehension's block: its own); calm: not within an except suite; pn: pins that every state bears; xe: what is wanted of an exception that leaves the code -/
structure Cx where
  prog : Program
  w : World
  K : PySem.W.Frag
  mg : Str → Option Value
  base : Heap
  A : Around
  N : List Str
  s₀ : Shared
  H₀ : Hp
  env : Env
  outer : List Env
  stack : List Env
  ex : List Addr
  fn : Str → Bool
  calm : Bool
  pn : List (Addr × Obj)
  xe : Value → Shared → Prop
/-- the callers' frames -/
def frs (l : List Env) : List Addr := l.filterMap (·.frame)
abbrev Cx.fs (X : Cx) : List Addr := frs X.outer

def Vis (sc : Scope) (x : Str) : Prop := sc.names.lookup x = some .local ∨ sc.names.lookup x = some .cell ∨ sc.names.lookup x = some .free
def Loc (sc : Scope) (x : Str) : Prop := sc.names.lookup x = some .local ∨ sc.names.lookup x = some .cell
def Look (env : Env) (h : Heap) (m : Str → Option Value) (x : Str) (u : Value) : Prop :=
  (env.kindOf x = some .local ∧ m x = some u) ∨ ((env.kindOf x = some .cell ∨ env.kindOf x = some .free) ∧ ∃ c, env.cells.lookup x = some c ∧ h.IsCell c (some u))

structure Cx.Ok (X : Cx) : Prop where
  mod : Mod X.K X.mg X.base
  kind : X.env.scope.kind = .function
  glob : X.env.globals = mainGlobals
  blt : X.env.builtins = builtinsNs
  above : X.s₀.heap.objs.size ≤ X.env.locals
  inj : ∀ x y c, X.env.cells.lookup x = some c → X.env.cells.lookup y = some c → x = y
  has : ∀ x, (X.env.kindOf x = some .cell ∨ X.env.kindOf x = some .free) → ∃ c, X.env.cells.lookup x = some c
  cab : ∀ x c, X.fn x = true → X.env.cells.lookup x = some c → X.s₀.heap.objs.size ≤ c
  hd : X.calm = true → X.A.handled = none
  frames : X.A.frames = some X.stack
  stk : X.stack = X.outer ∨ (X.stack = X.env :: X.outer ∧ X.env.frame = some X.env.locals)
  exf : ∀ b ∈ X.ex, b ≠ X.env.locals ∧ ∀ x c, X.env.cells.lookup x = some c → c ≠ b
  bs : ∀ b o, X.base.get? b = some o → X.s₀.heap.get? b = some o ∧ X.H₀ b = none
  bsz : X.base.objs.size ≤ X.s₀.heap.objs.size
  noex : ∀ b o, X.base.get? b = some o → b ∉ X.ex
  exfs : ∀ b ∈ X.ex, b ∉ X.fs
  funs : X.s₀.heap.FunFrames X.base X.outer
  frf : ∀ b ∈ X.fs, X.H₀ b = none

structure Inv (X : Cx) (pins : List (Addr × Obj)) (σ : List (Option V)) (H : Hp) (s : Shared) : Prop where
  ok : X.Ok
  os : s.os = X.s₀.os
  bare : AllBare s.gens
  base : Un X.fs X.ex X.H₀ H X.s₀.heap s.heap
  loc : ∃ m, s.heap.Ns X.env.locals m ∧ ∀ (i : Nat) (x : Str) (v : V), X.N[i]? = some x → σ[i]? = some (some v) → Vis X.env.scope x → ∃ u, RelV v u ∧ Look X.env s.heap m x u
  cell : ∀ x c, X.env.cells.lookup x = some c → ∃ v, s.heap.IsCell c v
  free : H X.env.locals = none
  freeC : ∀ x c, X.env.cells.lookup x = some c → H c = none
  pin : ∀ p ∈ X.pn ++ pins, s.heap.get? p.1 = some p.2 ∧ H p.1 = none ∧ p.1 ≠ X.env.locals ∧ p.1 ∉ X.fs ∧ ∀ v, p.2.data ≠ .cell v
  hok : HOk X.prog X.w H s.heap
  len : σ.length = X.N.length

section
variable {X : Cx} {pins : List (Addr × Obj)} {σ : List (Option V)} {H H' : Hp} {s : Shared} {h' : Heap}

theorem Cx.Ok.nofr (ok : X.Ok) {b : Addr} {o : Obj} (e : X.base.get? b = some o) : b ∉ X.fs := fun hb => by
  have := (ok.funs.mem hb).1
  rw [e] at this; cases this
theorem Inv.bs (I : Inv X pins σ H s) : ∀ b o, X.base.get? b = some o → s.heap.get? b = some o ∧ H b = none := fun b o e =>
  ⟨I.base.keep b o (I.ok.bs b o e).1 (I.ok.bs b o e).2 (I.ok.nofr e) (I.ok.noex b o e), I.base.free b o (I.ok.bs b o e).1 (I.ok.bs b o e).2 (I.ok.noex b o e)⟩
theorem Inv.bk (I : Inv X pins σ H s) : ∀ b o, X.base.get? b = some o → s.heap.get? b = some o := fun b o e => (I.bs b o e).1
theorem Inv.mod (I : Inv X pins σ H s) : Mod X.K X.mg X.base := I.ok.mod
theorem Inv.kIn (I : Inv X pins σ H s) : X.K.In s.heap := I.ok.mod.kin.keeps I.bk
theorem Inv.lt (I : Inv X pins σ H s) : X.env.locals < s.heap.objs.size := let ⟨_, hn, _⟩ := I.loc; hn.lt
theorem Inv.sz (I : Inv X pins σ H s) : X.s₀.heap.objs.size ≤ s.heap.objs.size := Nat.le_trans I.ok.above (Nat.le_of_lt I.lt)
theorem Inv.nofs (I : Inv X pins σ H s) {a : Addr} (h : s.heap.objs.size ≤ a) : a ∉ X.fs := fun hb => by
  obtain ⟨_, o, ho, _⟩ := I.ok.funs.mem hb
  exact absurd (Nat.lt_of_lt_of_le (Heap.lt_size ho) (Nat.le_trans I.sz h)) (Nat.lt_irrefl _)
theorem Inv.cne (I : Inv X pins σ H s) : ∀ x c, X.env.cells.lookup x = some c → c ≠ X.env.locals := fun x c e z => by
  obtain ⟨v, o, ho, hd⟩ := I.cell x c e
  obtain ⟨m, ⟨o', es, ep, ho', hd', _⟩, _⟩ := I.loc
  rw [z, ho'] at ho; cases ho; rw [hd'] at hd; cases hd
theorem Inv.funs (I : Inv X pins σ H s) : s.heap.FunFrames X.base X.outer := by
  have all : ∀ (l : List Env), (∀ b ∈ frs l, b ∈ X.fs) → X.s₀.heap.FunFrames X.base l → s.heap.FunFrames X.base l := by
    intro l
    induction l with
    | nil => intro _ _; trivial
    | cons env r ih =>
      intro hs hl
      obtain ⟨hk, ⟨L, o, hf, hn, ho, hd⟩, hr⟩ := hl
      have hL : L ∈ X.fs := hs L (by unfold frs; rw [List.filterMap_cons, hf]; exact List.mem_cons_self)
      obtain ⟨sl, e⟩ := I.base.slot L o ho (I.ok.frf L hL) hL fun z => I.ok.exfs L z hL
      exact ⟨hk, ⟨L, _, hf, hn, e, hd⟩, ih (fun b hb => hs b (by unfold frs; rw [List.filterMap_cons, hf]; exact List.mem_cons_of_mem _ hb)) hr⟩
  exact all X.outer (fun _ hb => hb) I.ok.funs

/-- the frames that run, for a call -/
theorem Inv.stack (I : Inv X pins σ H s) : s.heap.FunFrames X.base X.stack := by
  rcases I.ok.stk with e | ⟨e, hf⟩
  · rw [e]; exact I.funs
  · rw [e]
    obtain ⟨m, hn, _⟩ := I.loc
    refine .cons (by rw [I.ok.kind]; decide) hf hn ?_ I.funs
    exact Heap.get?_none_of_le (Nat.le_trans I.ok.bsz I.ok.above)
theorem Inv.stkSub (I : Inv X pins σ H s) : ∀ b ∈ frs X.stack, b ∈ X.env.locals :: X.fs := fun b hb => by
  rcases I.ok.stk with e | ⟨e, hf⟩
  · rw [e] at hb; exact List.mem_cons_of_mem _ hb
  · rw [e] at hb
    unfold frs at hb
    rw [List.filterMap_cons, hf] at hb
    exact hb
theorem Inv.stkFree (I : Inv X pins σ H s) : ∀ b ∈ frs X.stack, H b = none := fun b hb => by
  rcases List.mem_cons.mp (I.stkSub b hb) with e | hb
  · rw [e]; exact I.free
  · obtain ⟨_, o, ho, _⟩ := I.ok.funs.mem hb
    exact I.base.free b o ho (I.ok.frf b hb) fun z => I.ok.exfs b z hb

/-- THE STEP: the untracked objects but the frame and the records at ch are kept (the callers' frames up to slots), the frame's map is kept, the new abstract heap is held -/
theorem Inv.step {g' : Array GenState} {t' : Nat} {d' : Drawn} {ch : List Addr} (I : Inv X pins σ H s)
    (hch : ∀ b ∈ ch, (b ∈ X.ex ∨ X.s₀.heap.objs.size ≤ b) ∧ b ≠ X.env.locals ∧ (∀ x c, X.env.cells.lookup x = some c → c ≠ b) ∧ ∀ p ∈ X.pn ++ pins, p.1 ≠ b)
    (keep : ∀ b o, b ≠ X.env.locals → b ∉ X.fs → b ∉ ch → s.heap.get? b = some o → H b = none → h'.get? b = some o)
    (slot : ∀ b o, b ≠ X.env.locals → b ∈ X.fs → b ∉ ch → s.heap.get? b = some o → H b = none → ∃ sl, h'.get? b = some { o with slots := sl }) (free : ∀ b o, b ∉ ch → s.heap.get? b = some o → H b = none → H' b = none)
    (there : ∀ b o, b ∉ ch → s.heap.get? b = some o → ∃ o', h'.get? b = some o')
    (tups : ∀ b xs, H b = some (.tup xs) → H' b = some (.tup xs)) (frzs : ∀ b o u, H b = some (.frz o u) → H' b = some (.frz o u)) (tbls : ∀ b ps, H b = some (.tbl ps) → ∃ more, H' b = some (.tbl (ps ++ more)))
    (ns : ∀ m, s.heap.Ns X.env.locals m → h'.Ns X.env.locals m) (hok : HOk X.prog X.w H' h') (hg : AllBare g') :
    Inv X pins σ H' { s with heap := h', gens := g', drawn := d', toks := t' } := by
  have neL : ∀ b o, X.s₀.heap.get? b = some o → b ≠ X.env.locals := fun b o e => Nat.ne_of_lt (Nat.lt_of_lt_of_le (Heap.lt_size e) I.ok.above)
  have neC : ∀ b o, X.s₀.heap.get? b = some o → b ∉ X.ex → b ∉ ch := fun b o e hx hb => by
    rcases (hch b hb).1 with z | z
    · exact hx z
    · exact absurd (Nat.lt_of_lt_of_le (Heap.lt_size e) z) (Nat.lt_irrefl _)
  have cellK : ∀ x c, X.env.cells.lookup x = some c → ∀ v, s.heap.IsCell c v → h'.IsCell c v := fun x c e v ⟨o, ho, hd⟩ => by
    have nch : c ∉ ch := fun z => (hch c z).2.2.1 x c e rfl
    by_cases hc : c ∈ X.fs
    · obtain ⟨sl, q⟩ := slot c o (I.cne x c e) hc nch ho (I.freeC x c e)
      exact ⟨_, q, hd⟩
    · exact ⟨o, keep c o (I.cne x c e) hc nch ho (I.freeC x c e), hd⟩
  refine ⟨I.ok, I.os, hg, ⟨fun b o e n hb hx => ?_, fun b o e n hb hx => ?_, fun b o e n hx => ?_, fun b o e hx => ?_, fun b xs e => tups b xs (I.base.tups b xs e), fun b o xs e => frzs b o xs (I.base.frzs b o xs e), fun b ps e => ?_⟩, ?_, fun x c e => ?_, ?_, fun x c e => ?_, fun p hp => ?_, hok, I.len⟩
  · exact keep b o (neL b o e) hb (neC b o e hx) (I.base.keep b o e n hb hx) (I.base.free b o e n hx)
  · obtain ⟨sl, e1⟩ := I.base.slot b o e n hb hx
    obtain ⟨sl', e2⟩ := slot b _ (neL b o e) hb (neC b o e hx) e1 (I.base.free b o e n hx)
    exact ⟨sl', e2⟩
  · obtain ⟨o', e1⟩ := I.base.there b o e hx
    exact free b o' (neC b o e hx) e1 (I.base.free b o e n hx)
  · obtain ⟨o', e1⟩ := I.base.there b o e hx
    exact there b o' (neC b o e hx) e1
  · obtain ⟨m1, e1⟩ := I.base.tbls b ps e
    obtain ⟨m2, e2⟩ := tbls b _ e1
    exact ⟨m1 ++ m2, by rw [e2, Array.append_assoc]⟩
  · obtain ⟨m, hn, hl⟩ := I.loc
    refine ⟨m, ns m hn, fun i x v e1 e2 e3 => ?_⟩
    obtain ⟨u, r, l⟩ := hl i x v e1 e2 e3
    refine ⟨u, r, ?_⟩
    rcases l with l | ⟨k, c, e, z⟩
    · exact .inl l
    · exact .inr ⟨k, c, e, cellK x c e _ z⟩
  · obtain ⟨v, z⟩ := I.cell x c e
    exact ⟨v, cellK x c e v z⟩
  · obtain ⟨m, ⟨o, _, _, ho, _⟩, _⟩ := I.loc
    exact free _ o (fun z => (hch _ z).2.1 rfl) ho I.free
  · obtain ⟨v, o, ho, hd⟩ := I.cell x c e
    exact free c o (fun z => (hch c z).2.2.1 x c e rfl) ho (I.freeC x c e)
  · obtain ⟨e, n, ne, nf, d⟩ := I.pin p hp
    have nch : p.1 ∉ ch := fun z => (hch p.1 z).2.2.2 p hp rfl
    exact ⟨keep p.1 p.2 ne nf nch e n, free p.1 p.2 nch e n, ne, nf, d⟩
/-- .. where the frame's own object is kept too -/
theorem Inv.un {t' : Nat} (I : Inv X pins σ H s) (u : Un X.fs [] H H' s.heap h') (hok : HOk X.prog X.w H' h') : Inv X pins σ H' { s with heap := h', toks := t' } := by
  obtain ⟨m, ⟨o, es, ep, ho, r⟩, _⟩ := id I.loc
  obtain ⟨sl, hL⟩ := u.any ho I.free (by simp)
  exact I.step (g' := s.gens) (d' := s.drawn) (ch := []) (fun _ z => nomatch z) (fun b o _ hb _ e n => u.keep b o e n hb (by simp)) (fun b o _ hb _ e n => u.slot b o e n hb (by simp)) (fun b o _ e n => u.free b o e n (by simp)) (fun b o _ e => u.there b o e (by simp)) u.tups u.frzs u.tbls (fun m' hm => by
    obtain ⟨o', es', ep', ho', r'⟩ := hm
    rw [ho] at ho'; cases ho'
    exact ⟨_, es', ep', hL, r'⟩) hok I.bare
/-- behind a call (or a comprehension's block): the slots of this frame may have changed too, the records at ch may have turned -/
theorem Inv.call {g' : Array GenState} {t' : Nat} {d' : Drawn} {ch : List Addr} (I : Inv X pins σ H s) (u : Un (frs X.stack) ch H H' s.heap h') (hok : HOk X.prog X.w H' h') (hg : AllBare g')
    (hch : ∀ b ∈ ch, (b ∈ X.ex ∨ X.s₀.heap.objs.size ≤ b) ∧ b ≠ X.env.locals ∧ (∀ x c, X.env.cells.lookup x = some c → c ≠ b) ∧ ∀ p ∈ X.pn ++ pins, p.1 ≠ b) :
    Inv X pins σ H' { s with heap := h', gens := g', drawn := d', toks := t' } := by
  obtain ⟨m, ⟨o, es, ep, ho, r⟩, _⟩ := id I.loc
  obtain ⟨sl, hL⟩ := u.any ho I.free fun z => (hch _ z).2.1 rfl
  exact I.step (ch := ch) hch (fun b o hL hb hc e n => u.keep b o e n (fun z => (List.mem_cons.mp (I.stkSub b z)).elim hL hb) hc) (fun b o _ _ hc e n => u.any e n hc) (fun b o hc e n => u.free b o e n hc) (fun b o hc e => u.there b o e hc) u.tups u.frzs u.tbls (fun m' hm => by
    obtain ⟨o', es', ep', ho', r'⟩ := hm
    rw [ho] at ho'; cases ho'
    exact ⟨_, es', ep', hL, r'⟩) hok hg
/-- an untracked record of ours (an iterator) has turned -/
theorem Inv.turned {t' : Nat} {it : Addr} (I : Inv X pins σ H s) (k : ∀ b o, b ≠ it → s.heap.get? b = some o → h'.get? b = some o) (hn : H it = none) (hL : it ≠ X.env.locals)
    (h1 : it ∈ X.ex ∨ X.s₀.heap.objs.size ≤ it) (h2 : ∀ x c, X.env.cells.lookup x = some c → c ≠ it) (h3 : ∀ p ∈ X.pn ++ pins, p.1 ≠ it) : Inv X pins σ H { s with heap := h', toks := t' } := by
  have nit : ∀ b u, H b = some u → b ≠ it := fun b u e z => by rw [z, hn] at e; cases e
  refine I.step (g' := s.gens) (d' := s.drawn) (ch := [it]) (fun b hb => ?_) (fun b o _ _ hc e _ => k b o (fun z => hc (by simp [z])) e) (fun b o _ _ hc e _ => ⟨o.slots, k b o (fun z => hc (by simp [z])) e⟩) (fun _ _ _ _ n => n)
    (fun b o hc e => ⟨o, k b o (fun z => hc (by simp [z])) e⟩) (fun _ _ e => e) (fun _ _ _ e => e) (fun b ps e => ⟨#[], by rw [e]; simp⟩) (fun m hm => ?_) (fun b u e => ?_) I.bare
  · have e : b = it := by simpa using hb
    subst e
    exact ⟨h1, hL, h2, h3⟩
  · obtain ⟨o, es, ep, ho, r⟩ := hm
    exact ⟨o, es, ep, k _ o (Ne.symm hL) ho, r⟩
  · refine (I.hok b u e).stay (fun c v hc q => k c v ?_ q) (fun _ q => q) fun _ _ q => q
    rcases hc with z | z
    · rw [z]; exact nit b u e
    · exact nit c _ z
theorem Inv.tok (I : Inv X pins σ H s) (t : Nat) : Inv X pins σ H { s with toks := t } := I.un (h' := s.heap) (t' := t) Un.refl I.hok
/-- all objects kept -/
theorem Inv.kept {t' : Nat} (I : Inv X pins σ H s) (k : ∀ b u, s.heap.get? b = some u → h'.get? b = some u) : Inv X pins σ H { s with heap := h', toks := t' } := I.un (Un.kept k) (I.hok.kept k)
/-- a new object laid and tracked -/
theorem Inv.laid {a : Addr} {o : HO} {t' : Nat} (I : Inv X pins σ H s) (k : ∀ b u, s.heap.get? b = some u → h'.get? b = some u) (hp : s.heap.objs.size ≤ a) (new : ObjOk X.prog X.w (upd H a o) h' a o) :
    Inv X pins σ (upd H a o) { s with heap := h', toks := t' } := I.un (Un.laid k hp (I.hok.fresh hp)) (I.hok.laid k hp new)
/-- an object written -/
theorem Inv.write {x e : Addr} {o : HO} {t' : Nat} (I : Inv X pins σ H s) (mu : Mut (H x)) (he : e = x ∨ H e = some (.own x)) (k : ∀ b u, b ≠ e → s.heap.get? b = some u → h'.get? b = some u) (heo : ∃ u, h'.get? e = some u)
    (new : ObjOk X.prog X.w (upd H x o) h' x o) : Inv X pins σ (upd H x o) { s with heap := h', toks := t' } := I.un (Un.write mu he k heo) (I.hok.write mu he k heo new)
theorem Inv.pins_of {pins' : List (Addr × Obj)} (I : Inv X pins σ H s) (h : ∀ p ∈ pins', s.heap.get? p.1 = some p.2 ∧ H p.1 = none ∧ p.1 ≠ X.env.locals ∧ p.1 ∉ X.fs ∧ ∀ v, p.2.data ≠ .cell v) : Inv X pins' σ H s :=
  ⟨I.ok, I.os, I.bare, I.base, I.loc, I.cell, I.free, I.freeC, fun p hp => (List.mem_append.mp hp).elim (fun z => I.pin p (List.mem_append_left _ z)) (h p), I.hok, I.len⟩

theorem nodup_ix {N : List Str} (hN : N.Nodup) {i j : Nat} {x : Str} (a : N[i]? = some x) (b : N[j]? = some x) : i = j := by
  obtain ⟨h1, e1⟩ := List.getElem?_eq_some_iff.mp a
  obtain ⟨h2, e2⟩ := List.getElem?_eq_some_iff.mp b
  exact (List.getElem_inj hN).mp (e1.trans e2.symm)

/-- a name is stored; what changed -/
theorem store_ok2 {M : Model} {A : Around} {E : Value → Shared → Prop} {i : Nat} {x : Str} {v : V} {u : Value} {Q : Unit → Shared → Prop} (I : Inv X pins σ H s) (hN : X.N.Nodup) (hi : X.N[i]? = some x) (hx : Loc X.env.scope x) (r : RelV v u)
    (h : ∀ s', Inv X pins (σ.set i (some v)) H s' → (∃ a, Heap.SameBut a s.heap s'.heap ∧ (a = X.env.locals ∨ X.env.cells.lookup x = some a)) → Q () s') (hf : X.fn x = true ∨ X.env.scope.names.lookup x = some .local := by first | exact .inl rfl | exact .inr rfl | assumption) : wpAny M A (storeName X.env x u) Q E s := by
  obtain ⟨m, hn, hl⟩ := id I.loc
  have hcls : (X.env.scope.kind == .class || (X.env.scope.kind == .module && X.env.locals != X.env.globals)) = false := by rw [I.ok.kind]; rfl
  have hiσ : i < σ.length := by rw [I.len]; exact (List.getElem?_eq_some_iff.mp hi).1
  have cne := I.cne
  have tracked : ∀ {a : Addr} {h' : Heap}, (∃ o, s.heap.get? a = some o ∧ H a = none) → Heap.SameBut a s.heap h' → HOk X.prog X.w H h' := fun {a h'} ha hs b ob e => by
    obtain ⟨_, _, hfree⟩ := ha
    refine (I.hok b ob e).stay (fun c w' hc q => (hs.2 c ?_).trans q) (fun _ q => q) fun _ _ q => q
    rintro rfl
    rcases hc with rfl | hc
    · rw [hfree] at e; cases e
    · rw [hfree] at hc; cases hc
  rcases hx with hk | hk
  · refine wpAny_storeName_local hk hn (fun h' hn' hs => ?_) hcls
    obtain ⟨oL, _, _, hoL, _⟩ := id hn
    refine h _ ⟨I.ok, I.os, I.bare, ⟨fun b o e n hb hx => ?_, fun b o e n hb hx => ?_, I.base.free, fun b o e hx => ?_, I.base.tups, I.base.frzs, I.base.tbls⟩, ⟨_, hn', fun j y v' e1 e2 e3 => ?_⟩, fun y c e => ?_, I.free, I.freeC, fun p hp => ?_, tracked ⟨oL, hoL, I.free⟩ hs, by simpa using I.len⟩ ⟨_, hs, .inl rfl⟩
    · exact (hs.2 b (Nat.ne_of_lt (Nat.lt_of_lt_of_le (Heap.lt_size e) I.ok.above))).trans (I.base.keep b o e n hb hx)
    · obtain ⟨sl, e1⟩ := I.base.slot b o e n hb hx
      exact ⟨sl, (hs.2 b (Nat.ne_of_lt (Nat.lt_of_lt_of_le (Heap.lt_size e) I.ok.above))).trans e1⟩
    · obtain ⟨o', e1⟩ := I.base.there b o e hx
      exact ⟨o', (hs.2 b (Nat.ne_of_lt (Nat.lt_of_lt_of_le (Heap.lt_size e) I.ok.above))).trans e1⟩
    · by_cases hj : j = i
      · subst hj
        rw [hi] at e1; cases e1
        rw [List.getElem?_set_self hiσ] at e2
        cases e2
        exact ⟨u, r, .inl ⟨hk, by simp⟩⟩
      · rw [List.getElem?_set_ne (Ne.symm hj)] at e2
        obtain ⟨u', r', q⟩ := hl j y v' e1 e2 e3
        refine ⟨u', r', ?_⟩
        rcases q with ⟨k, e⟩ | ⟨k, c, e, z⟩
        · refine .inl ⟨k, ?_⟩
          have : y ≠ x := fun e => hj (nodup_ix hN e1 (e ▸ hi))
          simp [this, e]
        · exact .inr ⟨k, c, e, z.sameBut hs (cne y c e)⟩
    · obtain ⟨w', z⟩ := I.cell y c e
      exact ⟨w', z.sameBut hs (cne y c e)⟩
    · obtain ⟨e, n, ne, nf, d⟩ := I.pin p hp
      exact ⟨(hs.2 p.1 ne).trans e, n, ne, nf, d⟩
  · have hfn : X.fn x = true := by
      rcases hf with z | z
      · exact z
      · rw [z] at hk; cases hk
    obtain ⟨c, hc⟩ := I.ok.has x (.inl hk)
    obtain ⟨w', z⟩ := I.cell x c hc
    refine wpAny_storeName_cell I.ok.kind hk hc z (fun h' hc' hs => ?_)
    obtain ⟨oc, hoc, hocd⟩ := id z
    refine h { s with heap := h' } ⟨I.ok, I.os, I.bare, ⟨fun b o e n hb hx => ?_, fun b o e n hb hx => ?_, I.base.free, fun b o e hx => ?_, I.base.tups, I.base.frzs, I.base.tbls⟩, ⟨m, hn.sameBut hs (Ne.symm (cne x c hc)), fun j y v' e1 e2 e3 => ?_⟩, fun y c' e => ?_, I.free, I.freeC, fun p hp => ?_, tracked ⟨oc, hoc, I.freeC x c hc⟩ hs, by simpa using I.len⟩ ⟨c, hs, .inr hc⟩
    · exact (hs.2 b (Nat.ne_of_lt (Nat.lt_of_lt_of_le (Heap.lt_size e) (I.ok.cab x c hfn hc)))).trans (I.base.keep b o e n hb hx)
    · obtain ⟨sl, e1⟩ := I.base.slot b o e n hb hx
      exact ⟨sl, (hs.2 b (Nat.ne_of_lt (Nat.lt_of_lt_of_le (Heap.lt_size e) (I.ok.cab x c hfn hc)))).trans e1⟩
    · obtain ⟨o', e1⟩ := I.base.there b o e hx
      exact ⟨o', (hs.2 b (Nat.ne_of_lt (Nat.lt_of_lt_of_le (Heap.lt_size e) (I.ok.cab x c hfn hc)))).trans e1⟩
    · by_cases hj : j = i
      · subst hj
        rw [hi] at e1; cases e1
        rw [List.getElem?_set_self hiσ] at e2
        cases e2
        exact ⟨u, r, .inr ⟨.inl hk, c, hc, hc'⟩⟩
      · rw [List.getElem?_set_ne (Ne.symm hj)] at e2
        obtain ⟨u', r', q⟩ := hl j y v' e1 e2 e3
        refine ⟨u', r', ?_⟩
        rcases q with q | ⟨k, c', e, z'⟩
        · exact .inl q
        · refine .inr ⟨k, c', e, z'.sameBut hs ?_⟩
          rintro rfl
          exact hj (nodup_ix hN e1 (I.ok.inj _ _ _ e hc ▸ hi))
    · by_cases hcc : c' = c
      · subst hcc; exact ⟨_, hc'⟩
      · obtain ⟨w2, z2⟩ := I.cell y c' e
        exact ⟨w2, z2.sameBut hs hcc⟩
    · obtain ⟨e, n, ne, nf, d⟩ := I.pin p hp
      refine ⟨(hs.2 p.1 ?_).trans e, n, ne, nf, d⟩
      intro q
      rw [q, hoc] at e
      have q' : oc = p.2 := Option.some.inj e
      exact d w' (by rw [← q']; exact hocd)
theorem store_ok {M : Model} {A : Around} {E : Value → Shared → Prop} {i : Nat} {x : Str} {v : V} {u : Value} {Q : Unit → Shared → Prop} (I : Inv X pins σ H s) (hN : X.N.Nodup) (hi : X.N[i]? = some x) (hx : Loc X.env.scope x) (r : RelV v u)
    (h : ∀ s', Inv X pins (σ.set i (some v)) H s' → Q () s') (hf : X.fn x = true ∨ X.env.scope.names.lookup x = some .local := by first | exact .inl rfl | exact .inr rfl | assumption) : wpAny M A (storeName X.env x u) Q E s :=
  store_ok2 I hN hi hx r (fun s' I' _ => h s' I') hf
/-- behind a call or a block, the state as it is -/
theorem Inv.call' {s' : Shared} {ch : List Addr} (I : Inv X pins σ H s) (ho : s'.os = s.os) (u : Un (frs X.stack) ch H H' s.heap s'.heap) (hok : HOk X.prog X.w H' s'.heap) (hg : AllBare s'.gens)
    (hch : ∀ b ∈ ch, (b ∈ X.ex ∨ X.s₀.heap.objs.size ≤ b) ∧ b ≠ X.env.locals ∧ (∀ x c, X.env.cells.lookup x = some c → c ≠ b) ∧ ∀ p ∈ X.pn ++ pins, p.1 ≠ b) : Inv X pins σ H' s' := by
  obtain ⟨h', g', d', t', o'⟩ := s'
  have e : o' = s.os := ho
  subst e
  exact I.call (g' := g') (t' := t') (d' := d') u hok hg hch
end

/-! ### the judgements -/
/-- an exception: its class, its own dict's address (where it has one), the abstract heap behind it -/
abbrev XK := Value → Option Addr → Hp → Prop
abbrev St := List (Option V)
abbrev VK := V → Hp → Prop
/-- an expression's reading; a test's; an argument list's -/
abbrev TE := St → Hp → VK → Prop
abbrev TT := St → Hp → (Bool → Hp → Prop) → Prop
abbrev TA := St → Hp → (List V → Hp → Prop) → Prop
/-- what is wanted behind a statement -/
structure Ends where
  nx : St → Hp → Prop
  rt : VK
  bk : St → Hp → Prop := fun _ _ => False
  ct : St → Hp → Prop := fun _ _ => False
abbrev TS := Ends → St → Hp → Prop

def EP (X : Cx) (pins : List (Addr × Obj)) (σ : St) (Q : VK) (u : Value) (s' : Shared) : Prop := ∃ v H', Inv X pins σ H' s' ∧ RelV v u ∧ Q v H'
def TP (X : Cx) (pins : List (Addr × Obj)) (σ : St) (Q : Bool → Hp → Prop) (b : Bool) (s' : Shared) : Prop := ∃ H', Inv X pins σ H' s' ∧ Q b H'
def AP (X : Cx) (pins : List (Addr × Obj)) (σ : St) (Q : List V → Hp → Prop) (us : List Value) (s' : Shared) : Prop := ∃ vs H', Inv X pins σ H' s' ∧ Vals vs us ∧ Q vs H'
def SP (X : Cx) (pins : List (Addr × Obj)) (D : Ends) (f : Flow) (s' : Shared) : Prop :=
  match f with
  | .next => ∃ σ' H', Inv X pins σ' H' s' ∧ D.nx σ' H'
  | .brk => ∃ σ' H', Inv X pins σ' H' s' ∧ D.bk σ' H'
  | .cont => ∃ σ' H', Inv X pins σ' H' s' ∧ D.ct σ' H'
  | .ret u => ∃ v σ' H', Inv X pins σ' H' s' ∧ RelV v u ∧ D.rt v H'

def PE (X : Cx) (e : Expr) (t : TE) : Prop :=
  ∀ (pins : List (Addr × Obj)) (s : Shared) (σ : St) (H : Hp) (Q : VK), Inv X pins σ H s → t σ H Q → wpAny (model X.prog X.w) X.A (eval e X.env) (EP X pins σ Q) X.xe s
def PT (X : Cx) (e : Expr) (t : TT) : Prop :=
  ∀ (pins : List (Addr × Obj)) (s : Shared) (σ : St) (H : Hp) (Q : Bool → Hp → Prop), Inv X pins σ H s → t σ H Q → wpAny (model X.prog X.w) X.A (isTrue e X.env (eval e X.env)) (TP X pins σ Q) X.xe s
/-- a test whatever its 'whole' is (and, or) -/
def PW (X : Cx) (e : Expr) (t : TT) : Prop :=
  ∀ (whole : Sem Value) (pins : List (Addr × Obj)) (s : Shared) (σ : St) (H : Hp) (Q : Bool → Hp → Prop), Inv X pins σ H s → t σ H Q → wpAny (model X.prog X.w) X.A (isTrue e X.env whole) (TP X pins σ Q) X.xe s
theorem PW.pt {X : Cx} {e : Expr} {t : TT} (h : PW X e t) : PT X e t := h _
/-- an argument list (no star), from the left -/
def PA (X : Cx) (es : List Expr) (t : TA) : Prop :=
  ∀ (pos : Pos) (pins : List (Addr × Obj)) (s : Shared) (σ : St) (H : Hp) (Q : List V → Hp → Prop), Inv X pins σ H s → t σ H Q → wpAny (model X.prog X.w) X.A (spliced (backTo pos (starEach es X.env))) (AP X pins σ Q) X.xe s
def PS (X : Cx) (st : Stmt) (t : TS) : Prop :=
  ∀ (pins : List (Addr × Obj)) (s : Shared) (σ : St) (H : Hp) (D : Ends), Inv X pins σ H s → t D σ H → wpAny (model X.prog X.w) X.A (exec st X.env) (SP X pins D) X.xe s
def PSs (X : Cx) (st : List Stmt) (t : TS) : Prop :=
  ∀ (pins : List (Addr × Obj)) (s : Shared) (σ : St) (H : Hp) (D : Ends), Inv X pins σ H s → t D σ H → wpAny (model X.prog X.w) X.A (execs st X.env) (SP X pins D) X.xe s
/-- weaken the end -/
theorem thn {α : Type} {t : Sem α} {Q Q' : α → Shared → Prop} {M : Model} {A : Around} {E : Value → Shared → Prop} {s : Shared} (h : wpAny M A t Q E s) (hQ : ∀ a s, Q a s → Q' a s) : wpAny M A t Q' E s := wpAny_mono h hQ fun _ _ x => x
end L2

namespace L2
open PySem PySem.Spec PyProof.Rows
section
variable {X : Cx}

/-- two expressions in a row -/
theorem bin {a b : Expr} {ta tb : TE} (ha : PE X a ta) (hb : PE X b tb) {pins : List (Addr × Obj)} {s : Shared} {σ : St} {H : Hp} {R : V → V → Hp → Prop} (I : Inv X pins σ H s) (h : ta σ H fun x H1 => tb σ H1 fun y H2 => R x y H2)
    {α : Type} {Q : α → Shared → Prop} {f : Value → Value → Sem α}
    (hf : ∀ v u s2 x y H2, Inv X pins σ H2 s2 → RelV x v → RelV y u → R x y H2 → wpAny (model X.prog X.w) X.A (f v u) Q X.xe s2) :
    wpAny (model X.prog X.w) X.A (eval a X.env) (fun v s₁ => wpAny (model X.prog X.w) X.A (eval b X.env) (fun u s₂ => wpAny (model X.prog X.w) X.A (f v u) Q X.xe s₂) X.xe s₁) X.xe s := by
  refine thn (ha pins s σ H _ I h) fun v s1 ⟨x, H1, I1, r1, q1⟩ => ?_
  refine thn (hb pins s1 σ H1 _ I1 q1) fun u s2 ⟨y, H2, I2, r2, q2⟩ => ?_
  exact hf v u s2 x y H2 I2 r1 r2 q2

/-! ### names and constants -/
def tVar (i : Nat) : TE := fun σ H Q => ∃ v, σ[i]? = some (some v) ∧ Q v H
def tC (v : V) : TE := fun _ H Q => Q v H
theorem pe_var {i : Nat} {x : Str} {pos : Pos} (hN : X.N[i]? = some x) (hv : Vis X.env.scope x) (hd : (x == ("__debug__" : Str)) = false := by decide) (hcd : (x == ("__classdict__" : Str)) = false := by decide) : PE X (.Name x pos) (tVar i) := by
  intro pins s σ H Q I h
  obtain ⟨v, e, h⟩ := h
  obtain ⟨m, hn, hl⟩ := I.loc
  obtain ⟨u, r, l⟩ := hl i x v hN e hv
  have fin : EP X pins σ Q u s := ⟨v, H, I, r, h⟩
  rcases l with ⟨hk, hm⟩ | ⟨hk, c, hc, hcell⟩
  · exact wpAny_Name (wpAny_loadName_local I.ok.kind hk hn hm fin) hd
  · rcases hk with hk | hk
    · exact wpAny_Name (wpAny_loadName_cell I.ok.kind hk hc hcell fin) hd
    · exact wpAny_Name (wpAny_loadName_free I.ok.kind hk hc hcell fin hcd) hd
theorem pe_int {i j pos} : PE X (.Constant (.int i) j pos) (tC (.int i)) := fun _ _ _ H _ I h => wpAny_Constant_int ⟨.int i, H, I.tok _, ⟨_, rfl⟩, h⟩
theorem pe_bl {b j pos} : PE X (.Constant (.bool b) j pos) (tC (.bl b)) := fun _ _ _ H _ I h => Constant_bool ⟨.bl b, H, I, rfl, h⟩
theorem pe_str {x j pos} : PE X (.Constant (.str x) j pos) (tC (.str x)) := fun _ _ _ H _ I h => Calls.Constant_str ⟨.str x, H, I.tok _, ⟨_, rfl⟩, h⟩

/-- a global name of the def -/
def Gl (X : Cx) (x : Str) : Prop := X.env.kindOf x = some .globalImplicit
theorem ld_glob {E : Value → Shared → Prop} {pins : List (Addr × Obj)} {s : Shared} {σ : St} {H : Hp} {x : Str} {u : Value} {pos : Pos} {Q : Value → Shared → Prop} (I : Inv X pins σ H s) (hg : Gl X x) (hm : X.mg x = some u) (h : Q u s)
    (hd : (x == ("__debug__" : Str)) = false := by decide) : wpAny (model X.prog X.w) X.A (eval (.Name x pos) X.env) Q E s :=
  Calls.Name_function_global I.ok.kind hg (Calls.loadGlobal_global (by rw [I.ok.glob]; exact I.mod.glob.keeps I.bk) hm h) hd
theorem ld_blt {E : Value → Shared → Prop} {pins : List (Addr × Obj)} {s : Shared} {σ : St} {H : Hp} {x : Str} {u : Value} {pos : Pos} {Q : Value → Shared → Prop} (I : Inv X pins σ H s) (hg : Gl X x) (hm : X.mg x = none) (hv : bootBuiltins x = some u) (h : Q u s)
    (hn : x ≠ "__name__" := by decide) (hd : (x == ("__debug__" : Str)) = false := by decide) : wpAny (model X.prog X.w) X.A (eval (.Name x pos) X.env) Q E s := by
  obtain ⟨mb, h1, h2⟩ := I.mod.blt
  exact Calls.Name_function_global I.ok.kind hg (Calls.loadGlobal_builtin (by rw [I.ok.glob]; exact I.mod.glob.keeps I.bk) hm (by rw [I.ok.blt]; exact h1.keeps I.bk) ((h2 x hn).trans hv) h) hd
/-- a module's constant, a class, a function, as a value -/
theorem pe_glob {x : Str} {v : V} {u : Value} {pos : Pos} (hg : Gl X x) (hm : X.mg x = some u) (r : RelV v u) (hd : (x == ("__debug__" : Str)) = false := by decide) : PE X (.Name x pos) (tC v) :=
  fun _ _ _ H _ I h => ld_glob I hg hm ⟨v, H, I, r, h⟩ hd
theorem pe_bltn {x : Str} {v : V} {u : Value} {pos : Pos} (hg : Gl X x) (hm : X.mg x = none) (hv : bootBuiltins x = some u) (r : RelV v u) (hn : x ≠ "__name__" := by decide) (hd : (x == ("__debug__" : Str)) = false := by decide) : PE X (.Name x pos) (tC v) :=
  fun _ _ _ H _ I h => ld_blt I hg hm hv ⟨v, H, I, r, h⟩ hn hd

/-! ### arithmetic -/
/-- two ints -/
def t2I (ta tb : TE) (k : Int → Int → Hp → Prop) : St → Hp → Prop := fun σ H => ta σ H fun x H1 => tb σ H1 fun y H2 => ∃ i j, x = .int i ∧ y = .int j ∧ k i j H2
def tAdd (ta tb : TE) : TE := fun σ H Q => t2I ta tb (fun i j H2 => Q (.int (i + j)) H2) σ H
def tSub (ta tb : TE) : TE := fun σ H Q => t2I ta tb (fun i j H2 => Q (.int (i - j)) H2) σ H
/-- the left factor below 2^64 -/
def tMul (ta tb : TE) : TE := fun σ H Q => t2I ta tb (fun i j H2 => (-(2 ^ 64) < i ∧ i < 2 ^ 64) ∧ Q (.int (i * j)) H2) σ H
variable {a b : Expr} {ta tb : TE} {pos : Pos}
/-! ### comparisons -/
def PC (X : Cx) (op : CmpOp) (a b : Expr) (t : TE) : Prop :=
  ∀ (pins : List (Addr × Obj)) (s : Shared) (σ : St) (H : Hp) (Q : VK), Inv X pins σ H s → t σ H Q →
    wpAny (model X.prog X.w) X.A (eval a X.env) (fun v s₁ => wpAny (model X.prog X.w) X.A (eval b X.env) (fun u s₂ => wpAny (model X.prog X.w) X.A (compareOp op v u) (EP X pins σ Q) X.xe s₂) X.xe s₁) X.xe s
def tCmp (p : Int → Int → Bool) (ta tb : TE) : TE := fun σ H Q => t2I ta tb (fun i j H2 => Q (.bl (p i j)) H2) σ H
abbrev tLt : TE → TE → TE := tCmp fun i j => decide (i < j)
abbrev tLe : TE → TE → TE := tCmp fun i j => decide (i ≤ j)
abbrev tGt : TE → TE → TE := tCmp fun i j => decide (j < i)
abbrev tGe : TE → TE → TE := tCmp fun i j => decide (j ≤ i)
abbrev tEqI : TE → TE → TE := tCmp fun i j => decide (i = j)
abbrev tNeI : TE → TE → TE := tCmp fun i j => !decide (i = j)
/-- is None -/
def tIsN (ta : TE) : TE := fun σ H Q => ta σ H fun x H1 => Q (.bl (decide (x = .non))) H1
def tNotN (ta : TE) : TE := fun σ H Q => ta σ H fun x H1 => Q (.bl (!decide (x = .non))) H1
/-- a comparison as a value, as a test -/
def tB (t : TE) : TT := fun σ H Q => t σ H fun x H1 => ∃ c, x = .bl c ∧ Q c H1
theorem pt_cmp {op : CmpOp} {t : TE} (h : PC X op a b t) (h1 : behindInMarks op b = false := by first | exact nobehind _ (by decide) (by decide) | rfl) : PT X (.Compare a [op] [b] pos) (tB t) := by
  intro pins s σ H Q I hw
  refine wpAny_isTrue_Compare1 (thn (h pins s σ H _ I hw) fun v s1 h1 => thn h1 fun u s2 h2 => thn h2 fun c s3 ⟨x, H1, I1, r1, q1⟩ => ?_) h1
  obtain ⟨d, rfl, q⟩ := q1
  cases r1
  exact wpAny_truthy_bool ⟨H1, I1, q⟩
/-- an expression whose value is a bool, as a test -/
theorem pt_val {e : Expr} {t : TE} (h : PE X e t) (he : ∀ whole, isTrue e X.env whole = (do let v ← whole; standAt e.pos; holding [v] (truthy v)) := by intro _; rfl) : PT X e (tB t) := by
  intro pins s σ H Q I hw
  refine isTrue_plain (thn (h pins s σ H _ I hw) fun v s1 ⟨x, H1, I1, r1, q1⟩ => ?_) (he _)
  obtain ⟨d, rfl, q⟩ := q1
  cases r1
  exact wpAny_truthy_bool ⟨H1, I1, q⟩

/-! ### and, or, not -/
variable {tA tB' : TT} {rest : List Expr}
def tAnd (t u : TT) : TT := fun σ H Q => t σ H fun c H1 => if c = true then u σ H1 Q else Q false H1
def tOr (t u : TT) : TT := fun σ H Q => t σ H fun c H1 => if c = true then Q true H1 else u σ H1 Q
def tNot (t : TT) : TT := fun σ H Q => t σ H fun c H1 => Q (!c) H1
theorem pw_or1 (ha : PT X a tA) : PW X (.BoolOp .Or [a] pos) tA := by
  intro wh pins s σ H Q I h
  refine isTrue_or (thn (ha pins s σ H Q I h) fun c s1 e => ?_)
  cases c with
  | false => exact isTrue_or_nil e
  | true => exact e
theorem pw_or (ha : PT X a tA) (hb : PW X (.BoolOp .Or (b :: rest) pos) tB') : PW X (.BoolOp .Or (a :: b :: rest) pos) (tOr tA tB') := by
  intro wh pins s σ H Q I h
  refine isTrue_or (thn (ha pins s σ H _ I h) fun c s1 ⟨H1, I1, q1⟩ => ?_)
  cases c with
  | true => exact ⟨H1, I1, q1⟩
  | false => exact hb wh pins s1 σ H1 Q I1 q1
theorem pt_not (ha : PT X a tA) : PT X (.UnaryOp .Not a pos) (tNot tA) := by
  intro pins s σ H Q I h
  exact isTrue_not (ha pins s σ H (fun c H1 => Q (!c) H1) I h)
/-- .. as values (bools) -/
def tAndV (ta tb : TE) : TE := fun σ H Q => ta σ H fun x H1 => ∃ c, x = .bl c ∧ if c = true then tb σ H1 Q else Q (.bl false) H1
def tOrV (ta tb : TE) : TE := fun σ H Q => ta σ H fun x H1 => ∃ c, x = .bl c ∧ if c = true then Q (.bl true) H1 else tb σ H1 Q
def tNotV (ta : TE) : TE := fun σ H Q => ta σ H fun x H1 => ∃ c, x = .bl c ∧ Q (.bl (!c)) H1
theorem pe_one {op} {t : TE} (h : PE X a t) : PE X (.BoolOp op [a] pos) t := fun pins s σ H Q I hw => BoolOp_one (h pins s σ H Q I hw)
theorem pe_and (ha : PE X a ta) (hb : PE X (.BoolOp .And (b :: rest) pos) tb) : PE X (.BoolOp .And (a :: b :: rest) pos) (tAndV ta tb) := by
  intro pins s σ H Q I h
  refine BoolOp_and (thn (ha pins s σ H _ I h) fun v s1 ⟨x, H1, I1, r1, q1⟩ => ?_)
  obtain ⟨c, rfl, q1⟩ := q1
  cases r1
  refine wpAny_truthy_bool ?_
  cases c with
  | true => exact hb pins s1 σ H1 Q I1 q1
  | false => exact ⟨.bl false, H1, I1, rfl, q1⟩
/-- a if t else b -/
def tIf (t : TT) (ta tb : TE) : TE := fun σ H Q => t σ H fun c H1 => if c = true then ta σ H1 Q else tb σ H1 Q
end
end L2

namespace L2
open PySem PySem.Spec PyProof.Rows

/-! ### a list, a tuple that is read: tracked, frozen, or an object of the module -/
def SqL (K : PySem.W.Frag) (H : Hp) (a : Addr) (xs : List V) : Prop :=
  Rd H a (.lst xs) ∨
    ∃ (o : Obj) (its : Array Value) (n : Nat), K.lookup a = some o ∧ o.cls = .type "list" ∧ o.dict = none ∧ o.data = .seq its n ∧ its.size ≤ sizeLine ∧ Vals xs its.toList
def SqT (K : PySem.W.Frag) (H : Hp) (a : Addr) (xs : List V) : Prop :=
  Rd H a (.tup xs) ∨
    ∃ (o : Obj) (its : Array Value) (n : Nat), K.lookup a = some o ∧ o.cls = .type "tuple" ∧ o.data = .seq its n ∧ its.size ≤ sizeLine ∧ Vals xs its.toList
def absV : Value → Option V
  | .none => some .non
  | .bool b => some (.bl b)
  | .int i _ => some (.int i)
  | .str x _ => some (.str x)
  | .bytes b _ => some (.byt b)
  | .float b _ => some (.flt b)
  | .ref a => some (.ref a)
  | .type n => some (.ty n)
  | _ => none
theorem RelV.abs {x : V} {u : Value} (r : RelV x u) : absV u = some x := by
  cases x with
  | non => cases r; rfl
  | bl _ => cases r; rfl
  | int _ => obtain ⟨t, rfl⟩ := r; rfl
  | str _ => obtain ⟨t, rfl⟩ := r; rfl
  | byt _ => obtain ⟨t, rfl⟩ := r; rfl
  | flt _ => obtain ⟨t, rfl⟩ := r; rfl
  | ref _ => cases r; rfl
  | ty _ => cases r; rfl
theorem RelV.inj {x y : V} {u : Value} (r : RelV x u) (q : RelV y u) : x = y := Option.some.inj (r.abs.symm.trans q.abs)
theorem Vals.inj : ∀ {xs ys : List V} {us : List Value}, Vals xs us → Vals ys us → xs = ys
  | _, _, _, .nil, .nil => rfl
  | _, _, _, .cons r t, .cons r' t' => by rw [r.inj r', Vals.inj t t']
section
variable {X : Cx} {pins : List (Addr × Obj)} {σ : St} {H : Hp} {s : Shared} {a : Addr} {xs ys : List V}
theorem SqL.of {K : PySem.W.Frag} (h : H a = some (.lst xs)) : SqL K H a xs := .inl (.inl h)
theorem SqT.of {K : PySem.W.Frag} (h : H a = some (.tup xs)) : SqT K H a xs := .inl (.inl h)
theorem Inv.list (I : Inv X pins σ H s) (h : SqL X.K H a xs) : ∃ its : List Value, Vals xs its ∧ PlainL s.heap a its.toArray ∧ xs.length ≤ sizeLine := by
  rcases h with h | ⟨o, its, n, hk, hc, hd, hs, hz, r⟩
  · obtain ⟨z, its, n, r, e⟩ := h.ok I.hok
    exact ⟨its, r, ⟨_, n, e, rfl, rfl, rfl⟩, z⟩
  · refine ⟨its.toList, r, ⟨o, n, I.kIn a o hk, hc, hd, by simpa using hs⟩, ?_⟩
    have e := r.length
    simp only [Array.length_toList] at e
    omega
theorem Inv.tuple (I : Inv X pins σ H s) (h : SqT X.K H a xs) : ∃ its : List Value, Vals xs its ∧ IsTup s.heap a its.toArray ∧ xs.length ≤ sizeLine := by
  rcases h with h | ⟨o, its, n, hk, hc, hs, hz, r⟩
  · obtain ⟨z, its, r, p⟩ := h.ok I.hok
    exact ⟨its, r, p, z⟩
  · refine ⟨its.toList, r, ⟨o, I.kIn a o hk, hc, n, by simpa using hs⟩, ?_⟩
    have e := r.length
    simp only [Array.length_toList] at e
    omega
theorem Inv.list_inj (I : Inv X pins σ H s) (h : SqL X.K H a xs) (h' : SqL X.K H a ys) : xs = ys := by
  obtain ⟨its, r, ⟨o, n, e, _, _, d⟩, _⟩ := I.list h
  obtain ⟨its', r', ⟨o', n', e', _, _, d'⟩, _⟩ := I.list h'
  rw [e] at e'; cases e'
  rw [d] at d'
  injection d' with d1 _
  have : its = its' := by simpa using congrArg Array.toList d1
  subst this
  exact r.inj r'
theorem Inv.tuple_inj (I : Inv X pins σ H s) (h : SqT X.K H a xs) (h' : SqT X.K H a ys) : xs = ys := by
  obtain ⟨its, r, ⟨o, e, _, n, d⟩, _⟩ := I.tuple h
  obtain ⟨its', r', ⟨o', e', _, n', d'⟩, _⟩ := I.tuple h'
  rw [e] at e'; cases e'
  rw [d] at d'
  injection d' with d1 _
  have : its = its' := by simpa using congrArg Array.toList d1
  subst this
  exact r.inj r'
end

/-! ### another wish about exceptions -/
abbrev Cx.wish (X : Cx) (E : Value → Shared → Prop) : Cx := { X with xe := E }
/-- no exception leaves -/
abbrev Cx.nox (X : Cx) : Cx := X.wish fun _ _ => False
theorem Cx.Ok.wish {X : Cx} (ok : X.Ok) (E : Value → Shared → Prop) : (X.wish E).Ok :=
  ⟨ok.mod, ok.kind, ok.glob, ok.blt, ok.above, ok.inj, ok.has, ok.cab, ok.hd, ok.frames, ok.stk, ok.exf, ok.bs, ok.bsz, ok.noex, ok.exfs, ok.funs, ok.frf⟩
theorem Cx.Ok.unwish {X : Cx} {E : Value → Shared → Prop} (ok : (X.wish E).Ok) : X.Ok :=
  ⟨ok.mod, ok.kind, ok.glob, ok.blt, ok.above, ok.inj, ok.has, ok.cab, ok.hd, ok.frames, ok.stk, ok.exf, ok.bs, ok.bsz, ok.noex, ok.exfs, ok.funs, ok.frf⟩
section
variable {X : Cx} {pins : List (Addr × Obj)} {σ : St} {H : Hp} {s : Shared} {E : Value → Shared → Prop}
theorem Inv.wish (I : Inv X pins σ H s) (E : Value → Shared → Prop) : Inv (X.wish E) pins σ H s := ⟨I.ok.wish E, I.os, I.bare, I.base, I.loc, I.cell, I.free, I.freeC, I.pin, I.hok, I.len⟩
theorem Inv.unwish (I : Inv (X.wish E) pins σ H s) : Inv X pins σ H s := ⟨I.ok.unwish, I.os, I.bare, I.base, I.loc, I.cell, I.free, I.freeC, I.pin, I.hok, I.len⟩
theorem SP.unwish {D : Ends} {f : Flow} {s' : Shared} (h : SP (X.wish E) pins D f s') : SP X pins D f s' := by
  cases f with
  | next => obtain ⟨σ', H', I, q⟩ := h; exact ⟨σ', H', I.unwish, q⟩
  | brk => obtain ⟨σ', H', I, q⟩ := h; exact ⟨σ', H', I.unwish, q⟩
  | cont => obtain ⟨σ', H', I, q⟩ := h; exact ⟨σ', H', I.unwish, q⟩
  | ret u => obtain ⟨v, σ', H', I, r, q⟩ := h; exact ⟨v, σ', H', I.unwish, r, q⟩
theorem PSs.nox {st : List Stmt} {t : TS} (h : PSs X.nox st t) : PSs X st t := fun pins s σ H D I hw =>
  wpAny_mono (h pins s σ H D (I.wish _) hw) (fun _ _ q => q.unwish) fun _ _ z => False.elim z
end

/-! ### blocks and small statements -/
section
variable {X : Cx} {st : Stmt} {rest : List Stmt} {t u : TS} {e : Expr} {te : TE} {pos : Pos}
def tNext : TS := fun D σ H => D.nx σ H
def tSeq (t u : TS) : TS := fun D σ H => t { D with nx := u D } σ H
theorem pss_nil : PSs X [] tNext := fun _ _ σ H _ I h => wpAny_execs_nil ⟨σ, H, I, h⟩
theorem pss_cons (h1 : PS X st t) (h2 : PSs X rest u) : PSs X (st :: rest) (tSeq t u) := by
  intro pins s σ H D I h
  refine wpAny_execs_cons (thn (h1 pins s σ H { D with nx := u D } I h) fun f s1 q => ?_)
  cases f with
  | next =>
    obtain ⟨σ', H', I', q⟩ := q
    exact h2 pins s1 σ' H' D I' q
  | ret v => exact q
  | brk => exact q
  | cont => exact q
theorem pss_one (h1 : PS X st t) : PSs X [st] t := by
  intro pins s σ H D I h
  refine wpAny_execs_cons (thn (h1 pins s σ H D I h) fun f s1 q => ?_)
  cases f with
  | next => exact wpAny_execs_nil q
  | ret v => exact q
  | brk => exact q
  | cont => exact q
def tBreak : TS := fun D σ H => D.bk σ H
def tCont : TS := fun D σ H => D.ct σ H
/-- in a def's body nothing is shown -/
theorem Inv.quiet {pins : List (Addr × Obj)} {σ : St} {H : Hp} {s : Shared} (I : Inv X pins σ H s) : interactive X.env = false := by simp [interactive, I.ok.kind]
/-- an expression whose value is dropped -/
def tDrop (te : TE) : TS := fun D σ H => te σ H fun _ H1 => D.nx σ H1
theorem ps_expr (he : PE X e te) (hs : swapsWith e none pos.line X.env = pure false := by rfl) : PS X (.Expr e pos) (tDrop te) := by
  intro pins s σ H D I h
  exact wpAny_Expr_any (thn (he pins s σ H _ I h) fun v s1 ⟨x, H1, I1, r1, q1⟩ => ⟨σ, H1, I1, q1⟩) I.quiet hs
def tRet (te : TE) : TS := fun D σ H => te σ H D.rt
theorem ps_ret (he : PE X e te) : PS X (.Return (some e) pos) (tRet te) := by
  intro pins s σ H D I h
  exact wpAny_Return_some (thn (he pins s σ H _ I h) fun v s1 ⟨x, H1, I1, r1, q1⟩ => ⟨x, σ, H1, I1, r1, q1⟩)
def tRetN : TS := fun D _ H => D.rt .non H
def tIfS (c : TT) (t u : TS) : TS := fun D σ H => c σ H fun b H1 => if b = true then t D σ H1 else u D σ H1
theorem ps_if {c : Expr} {a b : List Stmt} {tc : TT} (hc : PT X c tc) (ha : PSs X a t) (hb : PSs X b u) : PS X (.If c a b pos) (tIfS tc t u) := by
  intro pins s σ H D I h
  refine wpAny_If (thn (hc pins s σ H _ I h) fun d s1 ⟨H1, I1, q1⟩ => ?_)
  cases d with
  | true => exact ha pins s1 σ H1 D I1 q1
  | false => exact hb pins s1 σ H1 D I1 q1
/-- code that the proof never comes to -/
def tNever : TS := fun _ _ _ => False
end

/-! ### targets -/
abbrev TG := V → St → Hp → (St → Hp → Prop) → Prop
abbrev TGs := List V → St → Hp → (St → Hp → Prop) → Prop
def PG (X : Cx) (target : Expr) (t : TG) : Prop :=
  ∀ (pins : List (Addr × Obj)) (s : Shared) (σ : St) (H : Hp) (v : V) (u : Value) (Q : St → Hp → Prop), Inv X pins σ H s → RelV v u → t v σ H Q →
    wpAny (model X.prog X.w) X.A (assign target X.env u) (fun _ s' => ∃ σ' H', Inv X pins σ' H' s' ∧ Q σ' H') X.xe s
/-- several targets, one after another -/
def PGs (X : Cx) (ts : List Expr) (t : TGs) : Prop :=
  ∀ (pins : List (Addr × Obj)) (s : Shared) (σ : St) (H : Hp) (vs : List V) (us : List Value) (Q : St → Hp → Prop), Inv X pins σ H s → Vals vs us → t vs σ H Q →
    wpAny (model X.prog X.w) X.A (assignInOrder ((assignEach ts X.env).map (·.2)) us) (fun _ s' => ∃ σ' H', Inv X pins σ' H' s' ∧ Q σ' H') X.xe s
/-- o[i] = v, by values -/
abbrev TSet := V → V → V → Hp → (Hp → Prop) → Prop
def PSet (X : Cx) (t : TSet) : Prop :=
  ∀ (pins : List (Addr × Obj)) (s : Shared) (σ : St) (H : Hp) (o i v : V) (ov iv u : Value) (Q : Hp → Prop), Inv X pins σ H s → RelV o ov → RelV i iv → RelV v u → t o i v H Q →
    wpAny (model X.prog X.w) X.A (setItem ov iv u) (fun _ s' => ∃ H', Inv X pins σ H' s' ∧ Q H') X.xe s
/-- a op= b, by values -/
abbrev TIp := V → V → Hp → VK → Prop
def PIp (X : Cx) (op : Operator) (t : TIp) : Prop :=
  ∀ (pins : List (Addr × Obj)) (s : Shared) (σ : St) (H : Hp) (x y : V) (v u : Value) (Q : VK), Inv X pins σ H s → RelV x v → RelV y u → t x y H Q →
    wpAny (model X.prog X.w) X.A (inplaceOp op v u) (EP X pins σ Q) X.xe s
section
variable {X : Cx} {pos : Pos}
def gName (i : Nat) : TG := fun v σ H Q => Q (σ.set i (some v)) H
theorem pg_name {i : Nat} {x : Str} (hN : X.N.Nodup) (hi : X.N[i]? = some x) (hx : Loc X.env.scope x) (hf : X.fn x = true ∨ X.env.scope.names.lookup x = some .local := by first | exact .inl rfl | exact .inr rfl | assumption) : PG X (.Name x pos) (gName i) := by
  intro pins s σ H v u Q I r h
  exact wpAny_assign_Name (store_ok I hN hi hx r (fun s' I' => ⟨_, H, I', h⟩) hf)
def gNil : TGs := fun vs σ H Q => vs = [] ∧ Q σ H
def gCons (t : TG) (u : TGs) : TGs := fun vs σ H Q => ∃ v r, vs = v :: r ∧ t v σ H fun σ' H' => u r σ' H' Q
theorem pgs_nil : PGs X [] gNil := by
  intro pins s σ H vs us Q I r h
  obtain ⟨e, h⟩ := h
  subst e
  cases r
  exact assignInOrder_nil ⟨σ, H, I, h⟩
theorem pgs_cons {e : Expr} {es : List Expr} {t : TG} {u : TGs} (h1 : PG X e t) (h2 : PGs X es u)
    (hs : (assignEach (e :: es) X.env).map (·.2) = assign e X.env :: (assignEach es X.env).map (·.2) := by rfl) : PGs X (e :: es) (gCons t u) := by
  intro pins s σ H vs us Q I r h
  obtain ⟨v, vr, e1, h⟩ := h
  subst e1
  cases r with
  | cons r rr =>
    rw [hs]
    refine assignInOrder_cons (thn (h1 pins s σ H _ _ _ I r h) fun _ s1 ⟨σ1, H1, I1, q1⟩ => ?_)
    exact h2 pins s1 σ1 H1 _ _ Q I1 rr q1
/-- (a, b, ..) = a tuple of that length -/
def gTup (K : PySem.W.Frag) (n : Nat) (t : TGs) : TG := fun v σ H Q => ∃ a xs, v = .ref a ∧ SqT K H a xs ∧ xs.length = n ∧ t xs σ H Q
theorem pg_tup {es : List Expr} {k : Nat} {t : TGs} {n : Nat} (hc : X.calm = true) (h : PGs X es t)
    (hn : (assignEach es X.env).length = n := by rfl) (hst : (assignEach es X.env).findIdx? (·.1) = none := by rfl) : PG X (.Tuple es k pos) (gTup X.K n t) := by
  intro pins s σ H v u Q I r hw
  obtain ⟨a, xs, e1, hq, hl, hw⟩ := hw
  subst e1
  cases r
  obtain ⟨its, rv, ht, hz⟩ := I.tuple hq
  refine assign_Tuple_tuple (I.ok.hd hc) ht (by simp [hn, ← hl, rv.length]) hst fun h' hx => ?_
  have I1 : Inv X pins σ H { s with heap := h' } := I.kept (t' := s.toks) fun b o e => hx b o (Nat.ne_of_lt (Heap.lt_size e)) e
  exact h pins _ σ H xs _ Q I1 (by simpa using rv) hw
/-- o[i] = .. -/
def gSub (to ti : TE) (t : TSet) : TG := fun v σ H Q => to σ H fun o H1 => ti σ H1 fun i H2 => t o i v H2 fun H3 => Q σ H3
theorem pg_sub {o i : Expr} {to ti : TE} {t : TSet} (ho : PE X o to) (hi : PE X i ti) (hs : PSet X t)
    (ha : ∀ v, assign (.Subscript o i pos) X.env v = (do
      let ov ← holding [v] (eval o X.env)
      let iv ← holding [v, ov] (eval i X.env)
      standAt pos
      holding [v, ov, iv] (setItem ov iv v)
      release [v, ov, iv] []) := by intro _; rfl) : PG X (.Subscript o i pos) (gSub to ti t) := by
  intro pins s σ H v u Q I r h
  rw [ha]
  refine wpAny_bind (wpAny_holding (thn (ho pins s σ H _ I h) fun ov s1 ⟨x, H1, I1, r1, q1⟩ => ?_))
  refine wpAny_bind (wpAny_holding (thn (hi pins s1 σ H1 _ I1 q1) fun iv s2 ⟨y, H2, I2, r2, q2⟩ => ?_))
  refine wpAny_bind (wpAny_standAt (wpAny_bind (wpAny_holding (thn (hs pins s2 σ H2 x y v ov iv u _ I2 r1 r2 r q2) fun _ s3 ⟨H3, I3, q3⟩ => ?_))))
  exact wpAny_release ⟨σ, H3, I3, q3⟩
/-- target = value -/
def tAsg (te : TE) (g : TG) : TS := fun D σ H => te σ H fun x H1 => g x σ H1 D.nx
theorem ps_asg {tg e : Expr} {te : TE} {g : TG} (he : PE X e te) (hg : PG X tg g) (hs : swapsWithSole [tg] e pos.line X.env = pure false := by rfl) (hw : swappedStores [tg] e X.env = pure none := by rfl)
    (h1 : (assignEach [tg] X.env).map (·.2) = [assign tg X.env] := by rfl) : PS X (.Assign [tg] e pos) (tAsg te g) := by
  intro pins s σ H D I h
  refine wpAny_Assign_stores (thn (he pins s σ H _ I h) fun v s1 ⟨x, H1, I1, r1, q1⟩ => ?_) hs hw
  rw [h1]
  exact thn (hg pins s1 σ H1 x v _ I1 r1 q1) fun _ s2 q => q
/-- name = value -/
theorem ps_set {i : Nat} {x : Str} {e : Expr} {te : TE} {pos' : Pos} (hN : X.N.Nodup) (hi : X.N[i]? = some x) (hx : Loc X.env.scope x) (he : PE X e te) (hs : swapsWith e (some (.Name x pos')) pos.line X.env = pure false := by rfl) (hf : X.fn x = true ∨ X.env.scope.names.lookup x = some .local := by first | exact .inl rfl | exact .inr rfl | assumption) :
    PS X (.Assign [.Name x pos'] e pos) (tAsg te (gName i)) := by
  intro pins s σ H D I h
  refine wpAny_Assign_Name (thn (he pins s σ H _ I h) fun v s1 ⟨y, H1, I1, r1, q1⟩ => ?_) hs
  exact store_ok I1 hN hi hx r1 (fun s2 I2 => ⟨_, H1, I2, q1⟩) hf
/-- a, b = x, y with plain local names: stored from the right; the pair itself is not tracked (the opening rows as in PyProof/Rows/TupAssign.lean:23) -/
def tPar (i j : Nat) (ta : TA) : TS := fun D σ H => ta σ H fun vs H1 => ∃ v w, vs = [v, w] ∧ D.nx ((σ.set i (some v)).set j (some w)) H1
/-- name op= e -/
def tAug (i : Nat) (te : TE) (ti : TIp) : TS := fun D σ H => ∃ x, σ[i]? = some (some x) ∧ te σ H fun y H1 => ti x y H1 fun z H2 => D.nx (σ.set i (some z)) H2
/-- o[i] op= e -/
def tAugS (to ti te : TE) (tget : V → V → Hp → VK → Prop) (tip : TIp) (tset : TSet) : TS := fun D σ H => to σ H fun o H1 => ti σ H1 fun i H2 => tget o i H2 fun x H3 => te σ H3 fun y H4 => tip x y H4 fun z H5 => tset o i z H5 fun H6 => D.nx σ H6
/-- o[i], by values -/
def PGet (X : Cx) (t : V → V → Hp → VK → Prop) : Prop :=
  ∀ (pins : List (Addr × Obj)) (s : Shared) (σ : St) (H : Hp) (o i : V) (ov iv : Value) (Q : VK), Inv X pins σ H s → RelV o ov → RelV i iv → t o i H Q →
    wpAny (model X.prog X.w) X.A (getItem ov iv) (EP X pins σ Q) X.xe s
/-- ints -/
def ipI (f : Int → Int → Int) : TIp := fun x y H Q => ∃ i j, x = .int i ∧ y = .int j ∧ Q (.int (f i j)) H
end

/-! ### while -/
section
variable {X : Cx} {pos : Pos}
/-- the invariant W with its measure -/
def tWhile (c : TT) (tb : TS) : TS := fun D σ H => ∃ W : Nat → St → Hp → Prop, (∃ m, W m σ H) ∧ ∀ m σ H, W m σ H →
  c σ H fun b H1 => if b = true then ∃ N : St → Hp → Prop, (∀ σ' H', N σ' H' → ∃ m', m' < m ∧ W m' σ' H') ∧ tb { D with nx := N, ct := N, bk := D.nx } σ H1 else D.nx σ H1
end

/-! ### what a loop or a comprehension walks -/
/-- at turn i: it yields x (the heap may grow), or it stops -/
structure It where
  go : Nat → Hp → Prop
  yld : Nat → Hp → V → Hp → Prop
  stop : Nat → Hp → Prop
/-- the iterator's own objects may turn: they are not the frame's, not pinned, younger than the entry (or a comprehension's own) -/
def FpOk (X : Cx) (pins : List (Addr × Obj)) (H : Hp) (b : Addr) : Prop :=
  H b = none ∧ b ≠ X.env.locals ∧ b ∉ X.fs ∧ (b ∈ X.ex ∨ X.s₀.heap.objs.size ≤ b) ∧ (∀ x c, X.env.cells.lookup x = some c → c ≠ b) ∧ ∀ p ∈ X.pn ++ pins, p.1 ≠ b
theorem Inv.fpOk {X : Cx} {pins : List (Addr × Obj)} {σ : St} {H H' : Hp} {s : Shared} {b : Addr} (I : Inv X pins σ H s) (hb : s.heap.objs.size ≤ b) (hn : H' b = none) : FpOk X pins H' b := by
  refine ⟨hn, Nat.ne_of_gt (Nat.lt_of_lt_of_le I.lt hb), I.nofs hb, .inr (Nat.le_trans I.sz hb), fun x c e z => ?_, fun p hp z => ?_⟩
  · obtain ⟨v, q⟩ := I.cell x c e
    exact absurd (Nat.lt_of_lt_of_le q.lt (by rw [z]; exact hb)) (Nat.lt_irrefl _)
  · exact absurd (Nat.lt_of_lt_of_le (Heap.lt_size (I.pin p hp).1) (by rw [z]; exact hb)) (Nat.lt_irrefl _)
structure Turn (P : Program) (w : World) (K : PySem.W.Frag) (tg : Expr) (J : It) (fp : List Addr) (it : Addr) (tn : Nat → Heap → Prop) : Prop where
  mem : it ∈ fp
  obj : ∀ i h, tn i h → ∀ b ∈ fp, ∃ o, h.get? b = some o ∧ ∀ v, o.data ≠ .cell v
  keep : ∀ i h h', tn i h → (∀ b ∈ fp, ∀ o, h.get? b = some o → h'.get? b = some o) → tn i h'
  item : ∀ (X : Cx), X.prog = P → X.w = w → X.K = K → X.calm = true → ∀ (i : Nat) (pins : List (Addr × Obj)) (s : Shared) (σ : St) (H : Hp) (E : Value → Shared → Prop), Inv X pins σ H s → (∀ b ∈ fp, FpOk X pins H b) → tn i s.heap → J.go i H →
    wpAny (model P w) X.A (pyNext (.ref it)) (fun r s1 => ∃ u, r = some u ∧
      wpAny (model P w) X.A (letOwnedTupleGo tg (.ref it) u) (fun _ s2 => ∃ x H', Inv X pins σ H' s2 ∧ RelV x u ∧ J.yld i H x H' ∧ tn (i + 1) s2.heap ∧ ∀ b ∈ fp, H' b = none) E s1) E s
  done : ∀ (X : Cx), X.prog = P → X.w = w → X.K = K → X.calm = true → ∀ (i : Nat) (pins : List (Addr × Obj)) (s : Shared) (σ : St) (H : Hp) (E : Value → Shared → Prop), Inv X pins σ H s → (∀ b ∈ fp, FpOk X pins H b) → tn i s.heap → J.stop i H →
    wpAny (model P w) X.A (pyNext (.ref it)) (fun r s1 => r = none ∧ Inv X pins σ H s1) E s
  self : ∀ (A : Around) (i : Nat) (s : Shared) (Q : Value → Shared → Prop) (E : Value → Shared → Prop), tn i s.heap → Q (.ref it) s → wpAny (model P w) A (pyIter (.ref it)) Q E s
abbrev TI := St → Hp → (It → Hp → Prop) → Prop
/-- an iterator has come -/
def PIE (X : Cx) (pins : List (Addr × Obj)) (σ : St) (tg : Expr) (R : It → Hp → Prop) (itv : Value) (s2 : Shared) : Prop :=
  ∃ (it : Addr) (fp : List Addr) (tn : Nat → Heap → Prop) (J : It) (H' : Hp), itv = .ref it ∧ Inv X pins σ H' s2 ∧ Turn X.prog X.w X.K tg J fp it tn ∧ tn 0 s2.heap ∧ (∀ b ∈ fp, FpOk X pins H' b) ∧ R J H'
def PI (X : Cx) (tg iter : Expr) (wi : TI) : Prop :=
  ∀ (pins : List (Addr × Obj)) (s : Shared) (σ : St) (H : Hp) (R : It → Hp → Prop), Inv X pins σ H s → wi σ H R →
    wpAny (model X.prog X.w) X.A (eval iter X.env) (fun v s1 => wpAny (model X.prog X.w) X.A (pyIter v) (PIE X pins σ tg R) X.xe s1) X.xe s

/-- the step ahead of the store is nothing for an iterator that keeps no tuple -/
theorem go_of {M : Model} {A : Around} {E : Value → Shared → Prop} {s : Shared} {tg : Expr} {it : Addr} {u : Value} {o : Obj} {n : String} {vs : Array Value} {Q : Unit → Shared → Prop} (ho : s.heap.get? it = some o) (hc : o.cls = .type n) (hd : o.data = .fields vs)
    (hn : ["enumerate", "zip", "dict_itemiterator", "dict_reverseitemiterator", "odict_iterator", "itertools.zip_longest", "itertools.pairwise"].contains n = false) (hQ : Q () s) : wpAny M A (letOwnedTupleGo tg (.ref it) u) Q E s := by
  unfold letOwnedTupleGo
  cases tg <;> first
    | exact wpAny_pure hQ
    | (cases u <;> first
        | exact wpAny_pure hQ
        | (refine wpAny_bind (wpAny_load ho ?_)
           rw [hc, hd]
           show wpAny M A (if (["enumerate", "zip", "dict_itemiterator", "dict_reverseitemiterator", "odict_iterator", "itertools.zip_longest", "itertools.pairwise"].contains n && vs[0]? == some (rawInt _)) = true then _ else _) Q E s
           rw [if_neg (by intro h; rw [hn, Bool.false_and] at h; cases h)]
           exact wpAny_pure hQ))

/-- the list at a, as it stands at each turn (a loop may append to it) -/
def Itl (K : PySem.W.Frag) (a : Addr) : It :=
  ⟨fun i H => ∃ xs x, SqL K H a xs ∧ xs[i]? = some x, fun i H x H' => H' = H ∧ ∀ xs, SqL K H a xs → xs[i]? = some x, fun i H => ∃ xs, SqL K H a xs ∧ xs.length ≤ i⟩
def Itt (K : PySem.W.Frag) (a : Addr) : It :=
  ⟨fun i H => ∃ xs x, SqT K H a xs ∧ xs[i]? = some x, fun i H x H' => H' = H ∧ ∀ xs, SqT K H a xs → xs[i]? = some x, fun i H => ∃ xs, SqT K H a xs ∧ xs.length ≤ i⟩
/-- lo, lo + 1, .. (n of them) -/
def Itr (lo : Int) (n : Nat) : It := ⟨fun i _ => i < n, fun i H x H' => H' = H ∧ x = .int (lo + i), fun i _ => n ≤ i⟩
theorem turn_list {P : Program} {w : World} {K : PySem.W.Frag} {tg : Expr} (a it : Addr) : Turn P w K tg (Itl K a) [it] it (fun i h => h.IsListIter it a i) where
  mem := by simp
  obj := fun i h st b hb => by
    have e : b = it := by simpa using hb
    subst e
    obtain ⟨o, e, c, d⟩ := st
    exact ⟨o, e, fun v z => by rw [d] at z; cases z⟩
  keep := fun i h h' st k => st.at fun o e => k it (by simp) o e
  item := by
    intro X hP hw hK hc i pins s σ H E I hf st hg
    subst hP hw hK
    obtain ⟨xs, x, hq, hx⟩ := hg
    obtain ⟨its, rv, p, hz⟩ := I.list hq
    obtain ⟨u, hu, ru⟩ := rv.get hx
    obtain ⟨f0, f1, f2, f3, f4, f5⟩ := hf it (by simp)
    refine wpAny_pyNext_list_item st p.isList (x := u) (by simpa using hu) fun h' st' sb => ?_
    have I1 : Inv X pins σ H { s with heap := h' } := I.turned (t' := s.toks) (fun b o hb e => (sb.2 b hb).trans e) f0 f1 f3 f4 f5
    obtain ⟨o, e, c, d⟩ := id st'
    exact ⟨u, rfl, go_of (s := { s with heap := h' }) e c d (by decide) ⟨x, H, I1, ru, ⟨rfl, fun ys hy => by rw [I.list_inj hy hq]; exact hx⟩, st', fun b hb => (hf b hb).1⟩⟩
  done := by
    intro X hP hw hK hc i pins s σ H E I hf st hg
    subst hP hw hK
    obtain ⟨xs, hq, hx⟩ := hg
    obtain ⟨its, rv, p, hz⟩ := I.list hq
    obtain ⟨f0, f1, f2, f3, f4, f5⟩ := hf it (by simp)
    have hl := rv.length
    exact wpAny_pyNext_list_end (I.ok.hd hc) st p.isList (by simp; omega) fun h' eb => ⟨rfl, I.turned (t' := s.toks) (fun b o hb e => eb b o hb e) f0 f1 f3 f4 f5⟩
  self := fun _ _ _ _ _ st h => wpAny_pyIter_listiter st h
theorem turn_tuple {P : Program} {w : World} {K : PySem.W.Frag} {tg : Expr} (a it : Addr) : Turn P w K tg (Itt K a) [it] it (fun i h => h.IsTupleIter it a i) where
  mem := by simp
  obj := fun i h st b hb => by
    have e : b = it := by simpa using hb
    subst e
    obtain ⟨o, e, c, d⟩ := st
    exact ⟨o, e, fun v z => by rw [d] at z; cases z⟩
  keep := fun i h h' st k => st.at fun o e => k it (by simp) o e
  item := by
    intro X hP hw hK hc i pins s σ H E I hf st hg
    subst hP hw hK
    obtain ⟨xs, x, hq, hx⟩ := hg
    obtain ⟨its, rv, p, hz⟩ := I.tuple hq
    obtain ⟨u, hu, ru⟩ := rv.get hx
    obtain ⟨f0, f1, f2, f3, f4, f5⟩ := hf it (by simp)
    refine wpAny_pyNext_tuple_item st (show s.heap.IsTuple a its.toArray from p) (x := u) (by simpa using hu) fun h' st' sb => ?_
    have I1 : Inv X pins σ H { s with heap := h' } := I.turned (t' := s.toks) (fun b o hb e => (sb.2 b hb).trans e) f0 f1 f3 f4 f5
    obtain ⟨o, e, c, d⟩ := id st'
    exact ⟨u, rfl, go_of (s := { s with heap := h' }) e c d (by decide) ⟨x, H, I1, ru, ⟨rfl, fun ys hy => by rw [I.tuple_inj hy hq]; exact hx⟩, st', fun b hb => (hf b hb).1⟩⟩
  done := by
    intro X hP hw hK hc i pins s σ H E I hf st hg
    subst hP hw hK
    obtain ⟨xs, hq, hx⟩ := hg
    obtain ⟨its, rv, p, hz⟩ := I.tuple hq
    obtain ⟨f0, f1, f2, f3, f4, f5⟩ := hf it (by simp)
    have hl := rv.length
    exact wpAny_pyNext_tuple_end (I.ok.hd hc) st (show s.heap.IsTuple a its.toArray from p) (by simp; omega) fun h' eb => ⟨rfl, I.turned (t' := s.toks) (fun b o hb e => eb b o hb e) f0 f1 f3 f4 f5⟩
  self := fun _ _ _ _ _ st h => wpAny_pyIter_tupleiter st h
theorem turn_range {P : Program} {w : World} {K : PySem.W.Frag} {tg : Expr} (it : Addr) (lo : Int) (n : Nat) : Turn P w K tg (Itr lo n) [it] it (fun i h => IsRangeIter h it (lo + (i : Nat) * 1) ((n : Int) - (i : Nat)) 1) where
  mem := by simp
  obj := fun i h st b hb => by
    have e : b = it := by simpa using hb
    subst e
    exact ⟨_, st, fun v z => by
      have z' : Data.fields _ = Data.cell v := z
      cases z'⟩
  keep := fun i h h' st k => k it (by simp) _ st
  item := by
    intro X hP hw hK hc i pins s σ H E I hf st hg
    subst hP hw hK
    obtain ⟨f0, f1, f2, f3, f4, f5⟩ := hf it (by simp)
    have W := Walks.range (prog := X.prog) (w := X.w) (I.ok.hd hc) it lo 1 n
    refine W.item i s _ _ hg st fun v h' tk hv st' kk => ?_
    obtain ⟨t, rfl⟩ := hv
    have I1 : Inv X pins σ H { s with heap := h', toks := tk } := I.turned (fun b o hb e => kk b o (by simpa using hb) e) f0 f1 f3 f4 f5
    refine ⟨_, rfl, go_of (s := { s with heap := h', toks := tk }) (n := "range_iterator") st' rfl rfl (by decide) ⟨.int (lo + i), H, I1, ⟨t, ?_⟩, ⟨rfl, rfl⟩, st', fun b hb => (hf b hb).1⟩⟩
    rw [Int.mul_one]
  done := by
    intro X hP hw hK hc i pins s σ H E I hf st hg
    subst hP hw hK
    obtain ⟨f0, f1, f2, f3, f4, f5⟩ := hf it (by simp)
    exact wpAny_pyNext_range_end (I.ok.hd hc) st (by have : n ≤ i := hg; omega) fun h' eb => ⟨rfl, I.turned (t' := s.toks) (fun b o hb e => eb b o hb e) f0 f1 f3 f4 f5⟩
  self := fun _ _ _ _ _ st h => wpAny_pyIter_rangeiter st h
end L2

namespace L2
open PySem PySem.Spec PyProof.Rows
section
variable {X : Cx} {tg : Expr}
def iList (K : PySem.W.Frag) (tl : TE) : TI := fun σ H R => tl σ H fun x H1 => ∃ a, x = .ref a ∧ (∃ xs, SqL K H1 a xs) ∧ R (Itl K a) H1
def iTup (K : PySem.W.Frag) (tl : TE) : TI := fun σ H R => tl σ H fun x H1 => ∃ a, x = .ref a ∧ (∃ xs, SqT K H1 a xs) ∧ R (Itt K a) H1
theorem pi_list {l : Expr} {tl : TE} (hl : PE X l tl) : PI X tg l (iList X.K tl) := by
  intro pins s σ H R I h
  refine thn (hl pins s σ H _ I h) fun v s1 ⟨x, H1, I1, r1, q1⟩ => ?_
  obtain ⟨a, e, ⟨xs, hq⟩, q⟩ := q1
  subst e
  cases r1
  obtain ⟨its, rv, p, hz⟩ := I1.list hq
  refine wpAny_pyIter_list p.isList ?_
  refine ⟨s1.heap.objs.size, [s1.heap.objs.size], _, _, H1, rfl, I1.kept (t' := s1.toks) fun b o e => Heap.get?_push_of_some _ e, turn_list a _, ⟨_, Heap.get?_push_size _ rfl, rfl, rfl⟩, fun b hb => ?_, q⟩
  have e : b = s1.heap.objs.size := by simpa using hb
  subst e
  exact I1.fpOk (Nat.le_refl _) (I1.hok.fresh (Nat.le_refl _))
theorem pi_tup {l : Expr} {tl : TE} (hl : PE X l tl) : PI X tg l (iTup X.K tl) := by
  intro pins s σ H R I h
  refine thn (hl pins s σ H _ I h) fun v s1 ⟨x, H1, I1, r1, q1⟩ => ?_
  obtain ⟨a, e, ⟨xs, hq⟩, q⟩ := q1
  subst e
  cases r1
  obtain ⟨its, rv, p, hz⟩ := I1.tuple hq
  refine wpAny_pyIter_tuple (show s1.heap.IsTuple a its.toArray from p) ?_
  refine ⟨s1.heap.objs.size, [s1.heap.objs.size], _, _, H1, rfl, I1.kept (t' := s1.toks) fun b o e => Heap.get?_push_of_some _ e, turn_tuple a _, ⟨_, Heap.get?_push_size _ rfl, rfl, rfl⟩, fun b hb => ?_, q⟩
  have e : b = s1.heap.objs.size := by simpa using hb
  subst e
  exact I1.fpOk (Nat.le_refl _) (I1.hok.fresh (Nat.le_refl _))
/-- a range object just made, walked -/
theorem range_it {pins : List (Addr × Obj)} {σ : St} {H : Hp} {s : Shared} {R : It → Hp → Prop} {E : Value → Shared → Prop} {lo hi : Int} {t u v : Tok} {tk : Nat} (I : Inv X pins σ H s) (h1 : -(2 ^ 62) ≤ lo) (h2 : lo < 2 ^ 62) (h3 : -(2 ^ 62) ≤ hi) (h4 : hi < 2 ^ 62)
    (q : R (Itr lo (hi - lo).toNat) H) : wpAny (model X.prog X.w) X.A (pyIter (.ref s.heap.objs.size)) (PIE X pins σ tg R) E { s with heap := s.heap.push { cls := .type "range", data := .fields #[.int lo t, .int hi u, .int 1 v] }, toks := tk } := by
  refine wpAny_pyIter_range (IsRange.new ..) (small_one h1 h2 h3 h4) ?_
  have I1 : Inv X pins σ H { s with heap := s.heap.push { cls := .type "range", data := .fields #[.int lo t, .int hi u, .int 1 v] }, toks := tk } := I.kept fun b o e => Heap.get?_push_of_some _ e
  refine ⟨(s.heap.push { cls := .type "range", data := .fields #[.int lo t, .int hi u, .int 1 v] }).objs.size, [(s.heap.push { cls := .type "range", data := .fields #[.int lo t, .int hi u, .int 1 v] }).objs.size], _, _, H, rfl,
    I1.kept (t' := tk) fun b o e => Heap.get?_push_of_some _ e, turn_range _ lo (hi - lo).toNat, ?_, fun b hb => ?_, q⟩
  · have e1 : lo + ((0 : Nat) : Int) * 1 = lo := by simp
    have e2 : (((hi - lo).toNat : Nat) : Int) - ((0 : Nat) : Int) = Builtin.Range.rangeSize lo hi 1 := by rw [rangeSize_one]; split <;> omega
    show IsRangeIter _ _ (lo + ((0 : Nat) : Int) * 1) ((((hi - lo).toNat : Nat) : Int) - ((0 : Nat) : Int)) 1
    rw [e1, e2]
    exact Heap.get?_push_size _ rfl
  · have e : b = (s.heap.push { cls := .type "range", data := .fields #[.int lo t, .int hi u, .int 1 v] }).objs.size := by simpa using hb
    subst e
    exact I1.fpOk (Nat.le_refl _) (I1.hok.fresh (Nat.le_refl _))
def iRng1 (ta : TA) : TI := fun σ H R => ta σ H fun vs H1 => ∃ j : Int, vs = [.int j] ∧ -(2 ^ 62) ≤ j ∧ j < 2 ^ 62 ∧ R (Itr 0 j.toNat) H1
def iRng2 (ta : TA) : TI := fun σ H R => ta σ H fun vs H1 => ∃ i j : Int, vs = [.int i, .int j] ∧ (-(2 ^ 62) ≤ i ∧ i < 2 ^ 62 ∧ -(2 ^ 62) ≤ j ∧ j < 2 ^ 62) ∧ R (Itr i (j - i).toNat) H1
theorem pi_range1 {a : Expr} {ta : TA} {p pos : Pos} (hg : Gl X "range") (hm : X.mg "range" = none) (ha : PA X [a] ta) (hs : starEach [a] X.env = [(false, eval a X.env)] := by rfl) : PI X tg (.Call (.Name "range" p) [a] [] pos) (iRng1 ta) := by
  intro pins s σ H R I h
  refine Call_ (ld_blt I hg hm boot_range (PyProof.Rows.callWith_type1 (thn (ha pos pins s σ H _ I h) fun us s1 ⟨vs, H1, I1, r1, q1⟩ => ?_) hs rfl))
  obtain ⟨j, e, q1, q2, q⟩ := q1
  subst e
  cases r1 with
  | cons r rr =>
    cases rr
    obtain ⟨t, rfl⟩ := r
    exact call_range_1 (range_it I1 (by omega) (by omega) q1 q2 (by simpa using q))
/-! ### for -/
/-- W: the invariant by the turn and a measure; N: what the body is to reach -/
def tFor (wi : TI) (g : TG) (tb : TS) : TS := fun D σ H => wi σ H fun J H1 => ∃ W : Nat → Nat → St → Hp → Prop, (∃ m, W 0 m σ H1) ∧ ∀ i m σ H, W i m σ H →
  (J.stop i H ∧ D.nx σ H) ∨ (J.go i H ∧ ∃ N : St → Hp → Prop, (∀ σ' H', N σ' H' → ∃ m', m' < m ∧ W (i + 1) m' σ' H') ∧ ∀ x H', J.yld i H x H' → g x σ H' fun σ2 H2 => tb { D with nx := N, ct := N, bk := D.nx } σ2 H2)
/-- the records at fp as they stand -/
def pinsAt (fp : List Addr) (h : Heap) : List (Addr × Obj) := fp.filterMap fun b => (h.get? b).map fun o => (b, o)
theorem mem_pinsAt {fp : List Addr} {h : Heap} {b : Addr} {o : Obj} (hb : b ∈ fp) (e : h.get? b = some o) : (b, o) ∈ pinsAt fp h := List.mem_filterMap.mpr ⟨b, hb, by rw [e]; rfl⟩
theorem of_pinsAt {fp : List Addr} {h : Heap} {p : Addr × Obj} (hp : p ∈ pinsAt fp h) : p.1 ∈ fp ∧ h.get? p.1 = some p.2 := by
  obtain ⟨b, hb, e⟩ := List.mem_filterMap.mp hp
  cases q : h.get? b with
  | none => rw [q] at e; cases e
  | some o =>
    rw [q] at e
    have e' : (b, o) = p := Option.some.inj e
    subst e'
    exact ⟨hb, q⟩
theorem Inv.pinned {pins : List (Addr × Obj)} {σ : St} {H : Hp} {s : Shared} {fp : List Addr} (I : Inv X pins σ H s) (hf : ∀ b ∈ fp, FpOk X pins H b) (ho : ∀ b ∈ fp, ∃ o, s.heap.get? b = some o ∧ ∀ v, o.data ≠ .cell v) : Inv X (pins ++ pinsAt fp s.heap) σ H s :=
  I.pins_of fun p hp => (List.mem_append.mp hp).elim (fun z => I.pin p (List.mem_append_right _ z)) fun z => by
    obtain ⟨hb, e⟩ := of_pinsAt z
    obtain ⟨f0, f1, f2, _⟩ := hf p.1 hb
    obtain ⟨o, e', d⟩ := ho p.1 hb
    rw [e] at e'; cases e'
    exact ⟨e, f0, f1, f2, d⟩
theorem Inv.unpinned {pins pl : List (Addr × Obj)} {σ : St} {H : Hp} {s : Shared} (I : Inv X (pins ++ pl) σ H s) : Inv X pins σ H s := I.pins_of fun p hp => I.pin p (List.mem_append_right _ (List.mem_append_left _ hp))
theorem ps_for {iter : Expr} {body : List Stmt} {wi : TI} {g : TG} {tb : TS} {pos : Pos} (hp : PassesOwn (model X.prog X.w) X.A X.env X.xe) (hc : X.calm = true) (hi : PI X tg iter wi) (hg : PG X tg g) (hb : PSs X body tb)
    (hs : ∀ x, foldedSetIterable iter X.env x = pure x := by intro _; rfl) : PS X (.For tg iter body [] pos) (tFor wi g tb) := by
  intro pins s σ H D I h
  refine wpAny_For (thn (hi pins s σ H _ I h) fun v s1 h1 => thn h1 fun itv s2 h2 => ?_) hs
  obtain ⟨it, fp, tn, J, H2, e, I2, T, st2, f2, W, ⟨m0, w0⟩, turn⟩ := h2
  subst e
  -- what stays true of the iterator's objects through the loop
  have stat : ∀ {H' : Hp}, (∀ b ∈ fp, H' b = none) → ∀ b ∈ fp, FpOk X pins H' b := fun hn b hb => ⟨hn b hb, (f2 b hb).2⟩
  refine codeAny_forLoop_any (fun n s' => ∃ i σ' H', Inv X pins σ' H' s' ∧ tn i s'.heap ∧ (∀ b ∈ fp, H' b = none) ∧ W i n σ' H') ?_ m0 ⟨0, σ, H2, I2, st2, fun b hb => (f2 b hb).1, w0⟩
  rintro n s3 ⟨i, σ3, H3, I3, st3, fr3, w3⟩
  rcases turn i n σ3 H3 w3 with ⟨stop, qn⟩ | ⟨go, N, hN, step⟩
  · refine wpAny_passesOwn hp (thn (T.done X rfl rfl rfl hc i pins s3 σ3 H3 X.xe I3 (stat fr3) st3 stop) fun r s4 ⟨hr, I4⟩ => ?_)
    subst hr
    exact wpAny_execs_nil ⟨σ3, H3, I4, qn⟩
  · refine wpAny_passesOwn hp (thn (T.item X rfl rfl rfl hc i pins s3 σ3 H3 X.xe I3 (stat fr3) st3 go) fun r s4 ⟨u, hr, h4⟩ => ?_)
    subst hr
    refine wpAny_passesOwn hp (thn h4 fun _ s5 ⟨x, H5, I5, r5, y5, st5, fr5⟩ => ?_)
    have I5' := I5.pinned (stat fr5) (T.obj _ _ st5)
    refine wpAny_passesOwn hp (thn (hg _ s5 σ3 H5 x u _ I5' r5 (step x H5 y5)) fun _ s6 ⟨σ6, H6, I6, q6⟩ => ?_)
    refine wpAny_passesOwn hp (thn (hb _ s6 σ6 H6 _ I6 q6) fun f s7 q7 => ?_)
    have again : ∀ {σ7 : St} {H7 : Hp}, Inv X (pins ++ pinsAt fp s5.heap) σ7 H7 s7 → N σ7 H7 → ∃ m, m < n ∧ ∃ i σ' H', Inv X pins σ' H' s7 ∧ tn i s7.heap ∧ (∀ b ∈ fp, H' b = none) ∧ W i m σ' H' := fun {σ7 H7} I7 n7 => by
      obtain ⟨m', hm, w7⟩ := hN σ7 H7 n7
      refine ⟨m', hm, i + 1, σ7, H7, I7.unpinned, T.keep _ _ _ st5 fun b hb o e => (I7.pin (b, o) (List.mem_append_right _ (List.mem_append_right _ (mem_pinsAt hb e)))).1, fun b hb => ?_, w7⟩
      obtain ⟨o, e, d⟩ := T.obj _ _ st5 b hb
      exact (I7.pin (b, o) (List.mem_append_right _ (List.mem_append_right _ (mem_pinsAt hb e)))).2.1
    cases f with
    | next => obtain ⟨σ7, H7, I7, n7⟩ := q7; exact again I7 n7
    | cont => obtain ⟨σ7, H7, I7, n7⟩ := q7; exact again I7 n7
    | brk => obtain ⟨σ7, H7, I7, q7⟩ := q7; exact ⟨σ7, H7, I7.unpinned, q7⟩
    | ret v => obtain ⟨x7, σ7, H7, I7, r7, q7⟩ := q7; exact ⟨x7, σ7, H7, I7.unpinned, r7, q7⟩
end

/-! ### the forms one uses -/
/-- over a list that the body leaves as it is -/
theorem for_list {K : PySem.W.Frag} {a : Addr} {xs : List V} {g : TG} {tb : TS} {D : Ends} {σ : St} {H : Hp} (Pv : Nat → St → Hp → Prop) (h0 : Pv 0 σ H) (hl : ∀ i σ H, i ≤ xs.length → Pv i σ H → SqL K H a xs)
    (hs : ∀ i x σ H, xs[i]? = some x → Pv i σ H → g x σ H fun σ2 H2 => tb { D with nx := Pv (i + 1), ct := Pv (i + 1), bk := D.nx } σ2 H2) (hd : ∀ σ H, Pv xs.length σ H → D.nx σ H) :
    ∃ W : Nat → Nat → St → Hp → Prop, (∃ m, W 0 m σ H) ∧ ∀ i m σ H, W i m σ H →
      ((Itl K a).stop i H ∧ D.nx σ H) ∨ ((Itl K a).go i H ∧ ∃ N : St → Hp → Prop, (∀ σ' H', N σ' H' → ∃ m', m' < m ∧ W (i + 1) m' σ' H') ∧ ∀ x H', (Itl K a).yld i H x H' → g x σ H' fun σ2 H2 => tb { D with nx := N, ct := N, bk := D.nx } σ2 H2) := by
  refine ⟨fun i m σ H => m = xs.length - i ∧ i ≤ xs.length ∧ Pv i σ H, ⟨xs.length, by simp, Nat.zero_le _, h0⟩, ?_⟩
  rintro i m σ H ⟨rfl, hi, p⟩
  have q := hl i σ H hi p
  by_cases hlt : i < xs.length
  · refine .inr ⟨⟨xs, xs[i], q, by simp [hlt]⟩, Pv (i + 1), fun σ' H' p' => ⟨xs.length - (i + 1), by omega, rfl, hlt, p'⟩, fun x H' y => ?_⟩
    obtain ⟨e, y⟩ := y
    subst e
    exact hs i x σ _ (y xs q) p
  · have e : i = xs.length := by omega
    subst e
    exact .inl ⟨⟨xs, q, Nat.le_refl _⟩, hd σ H p⟩
theorem for_tup {K : PySem.W.Frag} {a : Addr} {xs : List V} {g : TG} {tb : TS} {D : Ends} {σ : St} {H : Hp} (Pv : Nat → St → Hp → Prop) (h0 : Pv 0 σ H) (hl : ∀ i σ H, i ≤ xs.length → Pv i σ H → SqT K H a xs)
    (hs : ∀ i x σ H, xs[i]? = some x → Pv i σ H → g x σ H fun σ2 H2 => tb { D with nx := Pv (i + 1), ct := Pv (i + 1), bk := D.nx } σ2 H2) (hd : ∀ σ H, Pv xs.length σ H → D.nx σ H) :
    ∃ W : Nat → Nat → St → Hp → Prop, (∃ m, W 0 m σ H) ∧ ∀ i m σ H, W i m σ H →
      ((Itt K a).stop i H ∧ D.nx σ H) ∨ ((Itt K a).go i H ∧ ∃ N : St → Hp → Prop, (∀ σ' H', N σ' H' → ∃ m', m' < m ∧ W (i + 1) m' σ' H') ∧ ∀ x H', (Itt K a).yld i H x H' → g x σ H' fun σ2 H2 => tb { D with nx := N, ct := N, bk := D.nx } σ2 H2) := by
  refine ⟨fun i m σ H => m = xs.length - i ∧ i ≤ xs.length ∧ Pv i σ H, ⟨xs.length, by simp, Nat.zero_le _, h0⟩, ?_⟩
  rintro i m σ H ⟨rfl, hi, p⟩
  have q := hl i σ H hi p
  by_cases hlt : i < xs.length
  · refine .inr ⟨⟨xs, xs[i], q, by simp [hlt]⟩, Pv (i + 1), fun σ' H' p' => ⟨xs.length - (i + 1), by omega, rfl, hlt, p'⟩, fun x H' y => ?_⟩
    obtain ⟨e, y⟩ := y
    subst e
    exact hs i x σ _ (y xs q) p
  · have e : i = xs.length := by omega
    subst e
    exact .inl ⟨⟨xs, q, Nat.le_refl _⟩, hd σ H p⟩
theorem for_range {lo : Int} {n : Nat} {g : TG} {tb : TS} {D : Ends} {σ : St} {H : Hp} (Pv : Nat → St → Hp → Prop) (h0 : Pv 0 σ H)
    (hs : ∀ i σ H, i < n → Pv i σ H → g (.int (lo + i)) σ H fun σ2 H2 => tb { D with nx := Pv (i + 1), ct := Pv (i + 1), bk := D.nx } σ2 H2) (hd : ∀ σ H, Pv n σ H → D.nx σ H) :
    ∃ W : Nat → Nat → St → Hp → Prop, (∃ m, W 0 m σ H) ∧ ∀ i m σ H, W i m σ H →
      ((Itr lo n).stop i H ∧ D.nx σ H) ∨ ((Itr lo n).go i H ∧ ∃ N : St → Hp → Prop, (∀ σ' H', N σ' H' → ∃ m', m' < m ∧ W (i + 1) m' σ' H') ∧ ∀ x H', (Itr lo n).yld i H x H' → g x σ H' fun σ2 H2 => tb { D with nx := N, ct := N, bk := D.nx } σ2 H2) := by
  refine ⟨fun i m σ H => m = n - i ∧ i ≤ n ∧ Pv i σ H, ⟨n, by simp, Nat.zero_le _, h0⟩, ?_⟩
  rintro i m σ H ⟨rfl, hi, p⟩
  by_cases hlt : i < n
  · refine .inr ⟨hlt, Pv (i + 1), fun σ' H' p' => ⟨n - (i + 1), by omega, rfl, hlt, p'⟩, fun x H' y => ?_⟩
    obtain ⟨e, y⟩ := y
    subst e y
    exact hs i σ _ hlt p
  · have e : i = n := by omega
    subst e
    exact .inl ⟨Nat.le_refl _, hd σ H p⟩
end L2

namespace L2
open PySem PySem.Spec PyProof.Rows

abbrev R2 := V → V → Hp → VK → Prop
/-- a two-place operation on values: f is binaryOp op, inplaceOp op or compareOp op -/
def OpR (X : Cx) (f : Value → Value → Sem Value) (r : R2) : Prop :=
  ∀ (pins : List (Addr × Obj)) (s : Shared) (σ : St) (H : Hp) (x y : V) (v u : Value) (Q : VK), Inv X pins σ H s → RelV x v → RelV y u → r x y H Q →
    wpAny (model X.prog X.w) X.A (f v u) (EP X pins σ Q) X.xe s
/-- a one-place operation -/
def UnR (X : Cx) (f : Value → Sem Value) (r : V → Hp → VK → Prop) : Prop :=
  ∀ (pins : List (Addr × Obj)) (s : Shared) (σ : St) (H : Hp) (x : V) (v : Value) (Q : VK), Inv X pins σ H s → RelV x v → r x H Q →
    wpAny (model X.prog X.w) X.A (f v) (EP X pins σ Q) X.xe s
/-- a call of a value that is known (a builtin, a type) with values -/
def CallR (X : Cx) (f : Value) (r : List V → Hp → VK → Prop) : Prop :=
  ∀ (pins : List (Addr × Obj)) (s : Shared) (σ : St) (H : Hp) (xs : List V) (us : List Value) (Q : VK), Inv X pins σ H s → Vals xs us → r xs H Q →
    wpAny (model X.prog X.w) X.A (call f us) (EP X pins σ Q) X.xe s
/-- a value's truth -/
def TruR (X : Cx) (r : V → Hp → (Bool → Hp → Prop) → Prop) : Prop :=
  ∀ (pins : List (Addr × Obj)) (s : Shared) (σ : St) (H : Hp) (x : V) (v : Value) (Q : Bool → Hp → Prop), Inv X pins σ H s → RelV x v → r x H Q →
    wpAny (model X.prog X.w) X.A (truthy v) (TP X pins σ Q) X.xe s

def tOp (r : R2) (ta tb : TE) : TE := fun σ H Q => ta σ H fun x H1 => tb σ H1 fun y H2 => r x y H2 Q
def tUn (r : V → Hp → VK → Prop) (ta : TE) : TE := fun σ H Q => ta σ H fun x H1 => r x H1 Q
/-- ints in, under C, and a value out -/
def rI (C : Int → Int → Prop) (g : Int → Int → V) : R2 := fun x y H Q => ∃ i j, x = .int i ∧ y = .int j ∧ C i j ∧ Q (g i j) H
def rI0 (g : Int → Int → V) : R2 := fun x y H Q => ∃ i j, x = .int i ∧ y = .int j ∧ Q (g i j) H
def rU (g : Int → V) : V → Hp → VK → Prop := fun x H Q => ∃ i, x = .int i ∧ Q (g i) H

section
variable {X : Cx} {a b c : Expr} {ta tb tc : TE} {pos : Pos}

theorem binT (ha : PE X a ta) (hb : PE X b tb) {pins : List (Addr × Obj)} {s : Shared} {σ : St} {H : Hp} {R : V → V → Hp → Prop} (I : Inv X pins σ H s)
    (h : ta σ H fun x H1 => tb σ H1 fun y H2 => R x y H2) {Q : Value → Shared → Prop} {f : Value → Value → Sem Value}
    (hf : ∀ v u s2 x y H2, Inv X pins σ H2 s2 → RelV x v → RelV y u → R x y H2 → wpAny (model X.prog X.w) X.A (f v u) Q X.xe s2) :
    wpAny (model X.prog X.w) X.A (eval a X.env) (fun v s₁ => wpAny (model X.prog X.w) X.A (eval b X.env) (fun u s₂ => wpAny (model X.prog X.w) X.A (f v u) Q X.xe s₂) X.xe s₁) X.xe s := by
  refine thn (ha pins s σ H _ I h) fun v s1 ⟨x, H1, I1, r1, q1⟩ => ?_
  refine thn (hb pins s1 σ H1 _ I1 q1) fun u s2 ⟨y, H2, I2, r2, q2⟩ => ?_
  exact hf v u s2 x y H2 I2 r1 r2 q2

theorem pe_op {op : Operator} {r : R2} (ho : OpR X (binaryOp op) r) (ha : PE X a ta) (hb : PE X b tb) : PE X (.BinOp a op b pos) (tOp r ta tb) := by
  intro pins s σ H Q I h
  exact wpAny_BinOp (binT ha hb I h fun v u s2 x y H2 I2 rx ry q => ho pins s2 σ H2 x y v u Q I2 rx ry q)
/-! ### ints -/
theorem opI {f : Value → Value → Sem Value} {C : Int → Int → Prop} {g : Int → Int → Int}
    (rule : ∀ (i j : Int) (t u : Tok) (s : Shared) (Q : Value → Shared → Prop) (E : Value → Shared → Prop), C i j → Q (.int (g i j) s.toks) { s with toks := s.toks + 1 } → wpAny (model X.prog X.w) X.A (f (.int i t) (.int j u)) Q E s) :
    OpR X f (rI C fun i j => .int (g i j)) := by
  intro pins s σ H x y v u Q I rx ry h
  obtain ⟨i, j, rfl, rfl, hc, q⟩ := h
  obtain ⟨t, rfl⟩ := rx
  obtain ⟨t', rfl⟩ := ry
  exact rule i j t t' s _ _ hc ⟨.int (g i j), H, I.tok _, ⟨_, rfl⟩, q⟩
theorem opI0 {f : Value → Value → Sem Value} {g : Int → Int → Int}
    (rule : ∀ (i j : Int) (t u : Tok) (s : Shared) (Q : Value → Shared → Prop) (E : Value → Shared → Prop), Q (.int (g i j) s.toks) { s with toks := s.toks + 1 } → wpAny (model X.prog X.w) X.A (f (.int i t) (.int j u)) Q E s) :
    OpR X f (rI0 fun i j => .int (g i j)) := by
  intro pins s σ H x y v u Q I rx ry h
  obtain ⟨i, j, rfl, rfl, q⟩ := h
  obtain ⟨t, rfl⟩ := rx
  obtain ⟨t', rfl⟩ := ry
  exact rule i j t t' s _ _ ⟨.int (g i j), H, I.tok _, ⟨_, rfl⟩, q⟩
theorem opB0 {f : Value → Value → Sem Value} {g : Int → Int → Bool}
    (rule : ∀ (i j : Int) (t u : Tok) (s : Shared) (Q : Value → Shared → Prop) (E : Value → Shared → Prop), Q (.bool (g i j)) s → wpAny (model X.prog X.w) X.A (f (.int i t) (.int j u)) Q E s) :
    OpR X f (rI0 fun i j => .bl (g i j)) := by
  intro pins s σ H x y v u Q I rx ry h
  obtain ⟨i, j, rfl, rfl, q⟩ := h
  obtain ⟨t, rfl⟩ := rx
  obtain ⟨t', rfl⟩ := ry
  exact rule i j t t' s _ _ ⟨.bl (g i j), H, I, rfl, q⟩

def CDiv (i j : Int) : Prop := 0 < j ∧ j < 1073741824
def CDivN (i j : Int) : Prop := j ≠ 0 ∧ j.natAbs < 1073741824
def CPow (i j : Int) : Prop := 0 ≤ j ∧ j ≤ 1000000 ∧ i.natAbs < 2 ^ 64
def CMul (i j : Int) : Prop := (-(2 ^ 64) < i ∧ i < 2 ^ 64) ∨ (-(2 ^ 64) < j ∧ j < 2 ^ 64)
theorem CMul.ok {i j : Int} (h : CMul i j) : IntMulOk i j := by
  rcases h with ⟨h1, h2⟩ | ⟨h1, h2⟩
  · exact .of_left (intBits_le_64 h1 h2)
  · exact .of_right (intBits_le_64 h1 h2)
theorem op_add : OpR X (binaryOp .Add) (rI0 fun i j => .int (i + j)) := opI0 fun _ _ _ _ _ _ _ q => add_int q
theorem op_sub : OpR X (binaryOp .Sub) (rI0 fun i j => .int (i - j)) := opI0 fun _ _ _ _ _ _ _ q => sub_int q
theorem op_mul : OpR X (binaryOp .Mult) (rI CMul fun i j => .int (i * j)) := opI fun _ _ _ _ _ _ _ hc q => mul_int q hc.ok
/-- // by a positive divisor -/
theorem op_fdiv : OpR X (binaryOp .FloorDiv) (rI CDiv fun i j => .int (i / j)) := opI fun i j _ _ _ _ _ hc q => by
  have h1 : (0 : Int) < j := hc.1
  have h2 : j < 1073741824 := hc.2
  exact floordiv_int (by omega) (by rw [Int.fdiv_eq_ediv_of_nonneg i (by omega)]; exact q) (.inl (PyProof.noPylong_small (by omega)))
/-- % by a positive divisor of any size -/
theorem op_mod : OpR X (binaryOp .Mod) (rI (fun _ j => 0 < j) fun i j => .int (i % j)) := opI fun i j _ _ _ _ _ hc q => by
  have h1 : (0 : Int) < j := hc
  exact mod_int' (by omega) (by rw [Int.fmod_eq_emod_of_nonneg i (by omega)]; exact q)
/-! ### bools among ints: n += (a < b) -/
end

/-! ### comparisons -/
/-- the scalars that == tells apart as data does -/
def scal : V → V → Bool
  | .non, .non => true | .non, .int _ => true | .int _, .non => true | .non, .bl _ => true | .bl _, .non => true | .non, .str _ => true | .str _, .non => true
  | .int _, .int _ => true | .bl _, .bl _ => true | .str _, .str _ => true | .byt _, .byt _ => true
  | .int _, .str _ => true | .str _, .int _ => true | .bl _, .str _ => true | .str _, .bl _ => true
  | _, _ => false
def rEq : R2 := fun x y H Q => scal x y = true ∧ Q (.bl (decide (x = y))) H
def rNe : R2 := fun x y H Q => scal x y = true ∧ Q (.bl (!decide (x = y))) H

theorem dec_int {i j : Int} : decide (V.int i = V.int j) = (i == j) := by
  rw [Bool.eq_iff_iff]
  simp
theorem dec_bl {i j : Bool} : decide (V.bl i = V.bl j) = (i == j) := by
  rw [Bool.eq_iff_iff]
  simp
theorem dec_str {i j : Str} : decide (V.str i = V.str j) = (i == j) := by
  rw [Bool.eq_iff_iff]
  simp
theorem dec_byt {i j : Array UInt8} : decide (V.byt i = V.byt j) = (i.toList == j.toList) := by
  rw [Bool.eq_iff_iff]
  cases i
  cases j
  simp

section
variable {X : Cx} {a b c : Expr} {ta tb tc : TE} {pos : Pos}
theorem fin_bl {pins : List (Addr × Obj)} {σ : St} {H : Hp} {s : Shared} {Q : VK} {k k' : Bool} (I : Inv X pins σ H s) (q : Q (.bl k) H) (e : k = k') : EP X pins σ Q (.bool k') s := by
  subst e
  exact ⟨.bl k, H, I, rfl, q⟩
theorem op_eq : OpR X (compareOp .Eq) rEq := by
  intro pins s σ H x y v u Q I rx ry h
  obtain ⟨hs, q⟩ := h
  cases x with
  | non =>
    cases rx
    cases y with
    | non => cases ry; exact PySem.EqNone.eq_none_none (fin_bl I q (by simp))
    | bl j => cases ry; exact PySem.EqNone.eq_none_bool (fin_bl I q (by simp))
    | int j => obtain ⟨t', rfl⟩ := ry; exact PySem.EqNone.eq_none_int (fin_bl I q (by simp))
    | str j => obtain ⟨t', rfl⟩ := ry; exact PySem.EqNone.eq_none_str (fin_bl I q (by simp))
    | _ => exact absurd (show false = true from hs) Bool.false_ne_true
  | bl i =>
    cases rx
    cases y with
    | non => cases ry; exact PySem.EqNone.eq_bool_none (fin_bl I q (by simp))
    | bl j => cases ry; exact eq_bool (fin_bl I q dec_bl)
    | str j => obtain ⟨t', rfl⟩ := ry; exact PySem.EqMixed.eq_bool_str (fin_bl I q (by simp))
    | _ => exact absurd (show false = true from hs) Bool.false_ne_true
  | int i =>
    obtain ⟨t, rfl⟩ := rx
    cases y with
    | non => cases ry; exact PySem.EqNone.eq_int_none (fin_bl I q (by simp))
    | int j => obtain ⟨t', rfl⟩ := ry; exact eq_int (fin_bl I q dec_int)
    | str j => obtain ⟨t', rfl⟩ := ry; exact PySem.EqMixed.eq_int_str (fin_bl I q (by simp))
    | _ => exact absurd (show false = true from hs) Bool.false_ne_true
  | str i =>
    obtain ⟨t, rfl⟩ := rx
    cases y with
    | non => cases ry; exact PySem.EqNone.eq_str_none (fin_bl I q (by simp))
    | bl j => cases ry; exact PySem.EqMixed.eq_str_bool (fin_bl I q (by simp))
    | int j => obtain ⟨t', rfl⟩ := ry; exact PySem.EqMixed.eq_str_int (fin_bl I q (by simp))
    | str j => obtain ⟨t', rfl⟩ := ry; exact eq_str (fin_bl I q dec_str)
    | _ => exact absurd (show false = true from hs) Bool.false_ne_true
  | byt i =>
    obtain ⟨t, rfl⟩ := rx
    cases y with
    | byt j => obtain ⟨t', rfl⟩ := ry; exact PySem.W.eq_bytes (fin_bl I q dec_byt)
    | _ => exact absurd (show false = true from hs) Bool.false_ne_true
  | _ => cases y <;> exact absurd (show false = true from hs) Bool.false_ne_true
theorem op_ne : OpR X (compareOp .NotEq) rNe := by
  intro pins s σ H x y v u Q I rx ry h
  obtain ⟨hs, q⟩ := h
  cases x with
  | non =>
    cases rx
    cases y with
    | non => cases ry; exact PySem.EqNone.ne_none_none (fin_bl I q (by simp))
    | bl j => cases ry; exact PySem.EqNone.ne_none_bool (fin_bl I q (by simp))
    | int j => obtain ⟨t', rfl⟩ := ry; exact PySem.EqNone.ne_none_int (fin_bl I q (by simp))
    | str j => obtain ⟨t', rfl⟩ := ry; exact PySem.EqNone.ne_none_str (fin_bl I q (by simp))
    | _ => exact absurd (show false = true from hs) Bool.false_ne_true
  | bl i =>
    cases rx
    cases y with
    | non => cases ry; exact PySem.EqNone.ne_bool_none (fin_bl I q (by simp))
    | bl j => cases ry; exact ne_bool (fin_bl I q (congrArg not dec_bl))
    | str j => obtain ⟨t', rfl⟩ := ry; exact PySem.EqMixed.ne_bool_str (fin_bl I q (by simp))
    | _ => exact absurd (show false = true from hs) Bool.false_ne_true
  | int i =>
    obtain ⟨t, rfl⟩ := rx
    cases y with
    | non => cases ry; exact PySem.EqNone.ne_int_none (fin_bl I q (by simp))
    | int j => obtain ⟨t', rfl⟩ := ry; exact ne_int (fin_bl I q (congrArg not dec_int))
    | str j => obtain ⟨t', rfl⟩ := ry; exact PySem.EqMixed.ne_int_str (fin_bl I q (by simp))
    | _ => exact absurd (show false = true from hs) Bool.false_ne_true
  | str i =>
    obtain ⟨t, rfl⟩ := rx
    cases y with
    | non => cases ry; exact PySem.EqNone.ne_str_none (fin_bl I q (by simp))
    | bl j => cases ry; exact PySem.EqMixed.ne_str_bool (fin_bl I q (by simp))
    | int j => obtain ⟨t', rfl⟩ := ry; exact PySem.EqMixed.ne_str_int (fin_bl I q (by simp))
    | str j => obtain ⟨t', rfl⟩ := ry; exact ne_str (fin_bl I q (congrArg not dec_str))
    | _ => exact absurd (show false = true from hs) Bool.false_ne_true
  | byt i =>
    obtain ⟨t, rfl⟩ := rx
    cases y with
    | byt j => obtain ⟨t', rfl⟩ := ry; exact PySem.W.ne_bytes (fin_bl I q (congrArg not dec_byt))
    | _ => exact absurd (show false = true from hs) Bool.false_ne_true
  | _ => cases y <;> exact absurd (show false = true from hs) Bool.false_ne_true

theorem op_lt : OpR X (compareOp .Lt) (rI0 fun i j => .bl (decide (i < j))) := opB0 fun _ _ _ _ _ _ _ q => lt_int q
theorem op_le : OpR X (compareOp .LtE) (rI0 fun i j => .bl (decide (i ≤ j))) := opB0 fun _ _ _ _ _ _ _ q => le_int q
theorem op_gt : OpR X (compareOp .Gt) (rI0 fun i j => .bl (decide (j < i))) := opB0 fun _ _ _ _ _ _ _ q => gt_int q
/-- is, is not of two objects that are tracked lists or instances -/
def isObj : HO → Bool
  | .lst _ => true
  | .ins _ _ _ => true
  | _ => false
theorem nomark (b : Expr) {op : CmpOp} (h : op ≠ .In := by decide) (h2 : op ≠ .NotIn := by decide) : behindInMarks op b = false := by
  have e1 : (op == CmpOp.In) = false := by cases op <;> first | rfl | exact absurd rfl h
  have e2 : (op == CmpOp.NotIn) = false := by cases op <;> first | rfl | exact absurd rfl h2
  cases b <;> simp [behindInMarks, e1, e2]
/-- a comparison as a value; hm: nomark b, or (for in, not in) by with_unfolding_all rfl -/
theorem pe_cmpR {op : CmpOp} {r : R2} (ho : OpR X (compareOp op) r) (ha : PE X a ta) (hb : PE X b tb) (hm : behindInMarks op b = false) : PE X (.Compare a [op] [b] pos) (tOp r ta tb) := by
  intro pins s σ H Q I h
  exact wpAny_Compare1 (binT ha hb I h fun v u s2 x y H2 I2 rx ry q => ho pins s2 σ H2 x y v u Q I2 rx ry q) hm
/-- a reading of a value as a test -/
def tTest (t : TE) : TT := fun σ H Q => t σ H fun x H' => ∃ k, x = .bl k ∧ Q k H'
theorem pt_cmpR {op : CmpOp} {r : R2} (ho : OpR X (compareOp op) r) (ha : PE X a ta) (hb : PE X b tb) (hm : behindInMarks op b = false) : PT X (.Compare a [op] [b] pos) (tTest (tOp r ta tb)) := by
  intro pins s σ H Q I h
  refine wpAny_isTrue_Compare1 (thn (ha pins s σ H _ I h) fun v s1 ⟨x, H1, I1, r1, q1⟩ => thn (hb pins s1 σ H1 _ I1 q1) fun u s2 ⟨y, H2, I2, r2, q2⟩ =>
    thn (ho pins s2 σ H2 x y v u _ I2 r1 r2 q2) fun c s3 ⟨z, H3, I3, r3, k, e, q3⟩ => ?_) hm
  subst e
  cases r3
  exact wpAny_truthy_bool ⟨H3, I3, q3⟩
/-- a op1 b op2 c -/
def tChain (r r' : R2) (ta tb tc : TE) : TE := fun σ H Q => ta σ H fun x H1 => tb σ H1 fun y H2 => r x y H2 fun z H3 => ∃ k, z = .bl k ∧
  (if k = true then tc σ H3 fun w' H4 => r' y w' H4 Q else Q (.bl false) H3)
theorem pe_chain {op op' : CmpOp} {r r' : R2} (ho : OpR X (compareOp op) r) (ho' : OpR X (compareOp op') r') (ha : PE X a ta) (hb : PE X b tb) (hc : PE X c tc)
    (hm : lastMarks [op, op'] [b, c] = false := by with_unfolding_all rfl) : PE X (.Compare a [op, op'] [b, c] pos) (tChain r r' ta tb tc) := by
  intro pins s σ H Q I h
  refine Compare_chain (thn (ha pins s σ H _ I h) fun v s1 ⟨x, H1, I1, r1, q1⟩ => chain_link (thn (hb pins s1 σ H1 _ I1 q1) fun u s2 ⟨y, H2, I2, r2, q2⟩ =>
    thn (ho pins s2 σ H2 x y v u _ I2 r1 r2 q2) fun d s3 ⟨z, H3, I3, r3, k, e, q3⟩ => ?_)) hm
  subst e
  cases r3
  refine wpAny_truthy_bool ?_
  cases k with
  | false => exact ite_ff ⟨.bl false, H3, I3, rfl, q3⟩
  | true => exact ite_tt (chain_last (thn (hc pins s3 σ H3 _ I3 q3) fun w' s4 ⟨z', H4, I4, r4, q4⟩ => ho' pins s4 σ H4 y z' u w' Q I4 r2 r4 q4))
theorem pt_chain {op op' : CmpOp} {r r' : R2} (ho : OpR X (compareOp op) r) (ho' : OpR X (compareOp op') r') (ha : PE X a ta) (hb : PE X b tb) (hc : PE X c tc)
    (hm : lastMarks [op, op'] [b, c] = false := by with_unfolding_all rfl) : PT X (.Compare a [op, op'] [b, c] pos) (tTest (tChain r r' ta tb tc)) := by
  intro pins s σ H Q I h
  refine isTrue_chain (thn (ha pins s σ H _ I h) fun v s1 ⟨x, H1, I1, r1, q1⟩ => test_link (thn (hb pins s1 σ H1 _ I1 q1) fun u s2 ⟨y, H2, I2, r2, q2⟩ =>
    thn (ho pins s2 σ H2 x y v u _ I2 r1 r2 q2) fun d s3 ⟨z, H3, I3, r3, k, e, q3⟩ => ?_)) hm
  subst e
  cases r3
  refine wpAny_truthy_bool ?_
  cases k with
  | false =>
    obtain ⟨k', e', q'⟩ := q3
    cases e'
    exact ite_ff ⟨H3, I3, q'⟩
  | true =>
    refine ite_tt (test_last (thn (hc pins s3 σ H3 _ I3 q3) fun w' s4 ⟨z', H4, I4, r4, q4⟩ => thn (ho' pins s4 σ H4 y z' u w' _ I4 r2 r4 q4) fun d' s5 ⟨z2, H5, I5, r5, k2, e2, q5⟩ => ?_))
    subst e2
    cases r5
    exact wpAny_truthy_bool ⟨H5, I5, q5⟩

/-! ### truth -/
/-- a value's truth by the abstract heap -/
def TruV (K : PySem.W.Frag) (x : V) (H : Hp) (k : Bool) : Prop :=
  match x with
  | .non => k = false
  | .bl b => k = b
  | .int i => k = (i != 0)
  | .str y => y.length ≤ sizeLine ∧ k = ((y.length : Int) != 0)
  | .byt y => y.size ≤ sizeLine ∧ k = ((y.size : Int) != 0)
  | .ref p => (∃ xs, SqL K H p xs ∧ k = !xs.isEmpty) ∨ (∃ xs, SqT K H p xs ∧ k = !xs.isEmpty) ∨ ∃ kvs, H p = some (.dK kvs) ∧ k = !kvs.isEmpty
  | _ => False
theorem line63 : (sizeLine : Nat) < 2 ^ 63 := by rw [sizeLine_eq]; decide
/-! ### strs and bytes -/
def PlainIxT (b : Expr) : Prop := ∀ o i, subscripted b false o i = operate [o, i] (getItem o i)
/-! ### scalar builtins, by CallR -/
theorem vals1 {x : V} {us : List Value} (r : Vals [x] us) : ∃ u, us = [u] ∧ RelV x u := by
  cases r with
  | cons r1 r2 => cases r2; exact ⟨_, rfl, r1⟩
theorem vals2 {x y : V} {us : List Value} (r : Vals [x, y] us) : ∃ u w', us = [u, w'] ∧ RelV x u ∧ RelV y w' := by
  cases r with
  | cons r1 r2 =>
    cases r2 with
    | cons r3 r4 => cases r4; exact ⟨_, _, rfl, r1, r3⟩
theorem call_min2 (hc : X.calm = true) : CallR X (.builtin "min") (fun xs H Q => ∃ i j, xs = [.int i, .int j] ∧ Q (.int (if j < i then j else i)) H) := by
  intro pins s σ H xs us Q I r h
  obtain ⟨i, j, rfl, q⟩ := h
  obtain ⟨u, w', rfl, ⟨t, rfl⟩, ⟨t', rfl⟩⟩ := vals2 r
  refine min_two_ints (I.ok.hd hc) fun h' tk k => ⟨_, H, I.kept k, ?_, q⟩
  by_cases hj : j < i
  · rw [if_pos hj, if_pos hj]; exact ⟨_, rfl⟩
  · rw [if_neg hj, if_neg hj]; exact ⟨_, rfl⟩
/-- len of a str, a bytes, a list, a tuple -/
def LenV (K : PySem.W.Frag) (x : V) (H : Hp) (n : Nat) : Prop :=
  match x with
  | .str y => y.length ≤ sizeLine ∧ n = y.length
  | .byt y => y.size ≤ sizeLine ∧ n = y.size
  | .ref p => (∃ xs, SqL K H p xs ∧ n = xs.length) ∨ ∃ xs, SqT K H p xs ∧ n = xs.length
  | _ => False
end
end L2

namespace L2
open PySem PySem.Spec PyProof.Rows

/-! ### an instance, its attributes a map -/
structure ObjM (h : Heap) (x dx C : Addr) (mA : Str → Option Value) : Prop where
  obj : h.get? x = some (PySem.W.instObj C dx)
  ns : h.Ns1 dx mA
  ne : dx ≠ x

theorem lookIn_ns {h : Heap} {dx : Addr} {mA : Str → Option Value} (n : h.Ns1 dx mA) : ∃ od, h.get? dx = some od ∧ ∀ name, PySem.W.lookIn name od = some (mA name) := by
  obtain ⟨o, es, ep, ho, hd, hk, _, hm⟩ := n
  refine ⟨o, ho, fun name => ?_⟩
  have e := hm name
  unfold nsFind findBy at e
  rw [← Array.find?_toList] at e
  unfold PySem.W.lookIn
  rw [hd]
  dsimp only
  split
  · rename_i y q
    rw [q] at e
    exact congrArg some e
  · rename_i q
    rw [q] at e
    have a : es.toList.any (·.refKey) = false := by
      rw [List.any_eq_false]
      intro y hy
      obtain ⟨z, t, hkey⟩ := hk y (Array.mem_toList_iff.mp hy)
      simp [DictEntry.refKey, hkey]
    have a' : ¬ es.toList.any (·.refKey) = true := by rw [a]; exact Bool.false_ne_true
    rw [if_neg a']
    exact congrArg some e

theorem ObjM.look {h : Heap} {x dx C : Addr} {mA : Str → Option Value} (I : ObjM h x dx C mA) : ∃ od, PySem.W.InstAt h x (PySem.W.instObj C dx) C (some od) ∧ ∀ name, PySem.W.lookIn name od = some (mA name) :=
  let ⟨od, ho, hl⟩ := lookIn_ns I.ns
  ⟨od, ⟨I.obj, rfl, rfl, ho⟩, hl⟩

section
variable {prog : Program} {w : World} {A : Around} {E : Value → Shared → Prop} {s : Shared} {K : PySem.W.Frag} {x dx C f : Addr} {mA : Str → Option Value} {name : Str} {v : Value}

theorem get_map {expr : Bool} {Q : Value → Shared → Prop} (X : K.In s.heap) (I : ObjM s.heap x dx C mA) (hg : PySem.W.plainGet K C name = true) (hh : PySem.W.hasDictIn K C = true)
    (ha : PySem.W.findIn K (.ref C) name = some none) (hv : mA name = some v) (hv' : PySem.W.handedIn v = true) (h : Q v { s with toks := s.toks + 1 }) :
    wpAny (model prog w) A (getAttr (.ref x) name expr) Q E s := by
  obtain ⟨od, J, hl⟩ := I.look
  exact PySem.W.get_value X J (PySem.W.plainGet_of hg).1 (PySem.W.findObj_own hh ha rfl (by rw [hl, hv])) hv' h

theorem get_meth {pl : Sem Bool} {Q : Value × List Value → Shared → Prop} (X : K.In s.heap) (I : ObjM s.heap x dx C mA) (hg : PySem.W.plainGet K C name = true)
    (hf : PySem.W.findIn K (.ref C) name = some (some (.ref f))) (ht : PySem.W.isFn K (.ref f) = true) (hv : mA name = none) (h : Q (.ref f, [.ref x]) s) :
    wpAny (model prog w) A (getMethod (.ref x) name pl) Q E s := by
  obtain ⟨od, J, hl⟩ := I.look
  exact PySem.W.method_fn X J (PySem.W.plainGet_of hg).1 (PySem.W.plainGet_of hg).2 hf (beq_iff_eq.mp ht) (by show (PySem.W.lookIn name od).map (·.isSome) = some false; rw [hl, hv]; rfl) h

theorem set_map {ns : List Str} {Q : Unit → Shared → Prop} (X : K.In s.heap) (I : ObjM s.heap x dx C mA)
    (hs : PySem.W.findIn K (.ref C) "__setattr__" = some (some (.builtin "object.__setattr__"))) (hp : PySem.W.plainOver K C = true) (ht : PySem.W.takerIn K C name = some none) (hh : PySem.W.hasDictIn K C = true)
    (hw : PySem.Within mA ns) (hsz : ns.length ≤ sizeLine)
    (h : ∀ h', ObjM h' x dx C (fun y => if y = name then some v else mA y) → Heap.SameBut dx s.heap h' → Q () { s with heap := h', toks := s.toks + 2 }) :
    wpAny (model prog w) A (setAttr (.ref x) name v) Q E s := by
  obtain ⟨od, J, hl⟩ := I.look
  refine PySem.W.set_plain X J hs (PySem.W.osa_open (s := { s with toks := s.toks + 1 }) (r := none) X J hp ht fun b => ?_)
  obtain ⟨cd, hc, hd'⟩ := PySem.W.any_some hh
  have hx : s.heap.get? x = some ⟨.ref C, some dx, .plain, #[]⟩ := I.obj
  refine wpAny_bind (wpAny_pure (wpAny_bind (wpAny_bind (wpAny_loadPart hx (wpAny_bind (PySem.W.Looks.here (s := { s with toks := s.toks + 1 }) (PySem.W.looks_clsIn X hc) ?_))))))
  rw [hd']
  refine wpAny_pure (a := some dx) (wpAny_bind (wpAny_pure (wpAny_bind ?_)))
  refine wpAny_nsSet1 (s := { s with toks := s.toks + 1 }) I.ns fun h' hn2 hs2 => ?_
  obtain ⟨oD, esD, epD, hoD, hdD, hcD⟩ := hn2.count (PySem.Within.cons name v hw)
  refine wpAny_bind (wpAny_lookBehind hoD (by rw [hdD]; exact pastItsLine_dict (Nat.le_trans hcD (by rw [List.length_cons]; omega))) ?_)
  exact wpAny_pure (h _ ⟨(hs2.2 _ (Ne.symm I.ne)).trans I.obj, hn2, I.ne⟩ hs2)

/-- C(..): the dict at the heap's end, the instance behind it; then its __init__ -/
theorem make_map {R : Result → Shared → Prop} {vs : List Value} {kw : List (Str × Value)} (X : K.In s.heap) (hm : PySem.W.makesIn K C = true)
    (hi : PySem.W.findIn K (.ref C) "__init__" = some (some (.ref f))) (hf : PySem.W.typeIn K (.ref f) = some (.type "function"))
    (h : codeAny (model prog w) (A.under (.builtin "type.__call__" ⟨.ref C :: vs, kw⟩)) (.call (.ref f) ⟨.ref (s.heap.objs.size + 1) :: vs, kw⟩) (PySem.W.InitBack (s.heap.objs.size + 1) R)
      { s with heap := (s.heap.push PySem.W.emptyDict).push (PySem.W.instObj C s.heap.objs.size) }) :
    codeAny (model prog w) A (.call (.ref C) ⟨vs, kw⟩) R s := by
  obtain ⟨hh, g, d, t, os⟩ := s
  exact PySem.W.make_core (PySem.W.makes_of X hm) (PySem.W.looks_findIn X hi) (fun self => PySem.W.bind_fn X self hf) (.inl rfl) h
end

/-! ### the attributes as a list of pairs -/
def putF (f : Str) (v : V) : List (Str × V) → List (Str × V)
  | [] => [(f, v)]
  | (g, x) :: r => if g = f then (g, v) :: r else (g, x) :: putF f v r
theorem lookup_putF (f g : Str) (v : V) : ∀ fs : List (Str × V), (putF f v fs).lookup g = if g = f then some v else fs.lookup g
  | [] => by
    show List.lookup g [(f, v)] = _
    by_cases h : g = f
    · have hb : (g == f) = true := beq_iff_eq.mpr h
      simp only [List.lookup, hb, if_pos h]
    · have hb : (g == f) = false := beq_eq_false_iff_ne.mpr h
      simp only [List.lookup, hb, if_neg h]
  | (k, x) :: r => by
    have ih := lookup_putF f g v r
    rw [show putF f v ((k, x) :: r) = (if k = f then (k, v) :: r else (k, x) :: putF f v r) from rfl]
    by_cases hk : k = f
    · rw [if_pos hk]
      by_cases h : g = k
      · have hb : (g == k) = true := beq_iff_eq.mpr h
        simp only [List.lookup, hb, if_pos (h.trans hk)]
      · have hb : (g == k) = false := beq_eq_false_iff_ne.mpr h
        simp only [List.lookup, hb, if_neg (fun e : g = f => h (e.trans hk.symm))]
    · rw [if_neg hk]
      by_cases h : g = k
      · have hb : (g == k) = true := beq_iff_eq.mpr h
        simp only [List.lookup, hb, if_neg (fun e : g = f => hk (h.symm.trans e))]
      · have hb : (g == k) = false := beq_eq_false_iff_ne.mpr h
        simp only [List.lookup, hb]
        exact ih
theorem keys_putF (f : Str) (v : V) : ∀ fs : List (Str × V), f ∈ (putF f v fs).map (·.1) ∧ ∀ g, g ∈ fs.map (·.1) → g ∈ (putF f v fs).map (·.1)
  | [] => ⟨by simp [putF], fun g h => by simp at h⟩
  | (k, x) :: r => by
    obtain ⟨i1, i2⟩ := keys_putF f v r
    rw [show putF f v ((k, x) :: r) = (if k = f then (k, v) :: r else (k, x) :: putF f v r) from rfl]
    by_cases hk : k = f
    · rw [if_pos hk]
      subst hk
      exact ⟨by simp, fun g h => by simpa using h⟩
    · rw [if_neg hk]
      refine ⟨?_, fun g h => ?_⟩
      · rw [List.map_cons]
        exact List.mem_cons_of_mem _ i1
      · rw [List.map_cons] at h ⊢
        rcases List.mem_cons.mp h with e | e
        · exact List.mem_cons.mpr (.inl e)
        · exact List.mem_cons_of_mem _ (i2 g e)
theorem length_putF (f : Str) (v : V) : ∀ fs : List (Str × V), (putF f v fs).length ≤ fs.length + 1
  | [] => by simp [putF]
  | (k, x) :: r => by
    have ih := length_putF f v r
    rw [show putF f v ((k, x) :: r) = (if k = f then (k, v) :: r else (k, x) :: putF f v r) from rfl]
    by_cases hk : k = f
    · rw [if_pos hk, List.length_cons, List.length_cons]; omega
    · rw [if_neg hk, List.length_cons, List.length_cons]; omega

theorem RelO.some_of {v : V} {o : Option Value} (r : RelO (some v) o) : ∃ u, o = some u ∧ RelV v u := by
  cases o with
  | none => exact (show False from r).elim
  | some u => exact ⟨u, rfl, r⟩
theorem RelO.none_of {o : Option Value} (r : RelO none o) : o = none := by
  cases o with
  | none => rfl
  | some u => exact (show False from r).elim
theorem handed_of {v : V} {u : Value} (r : RelV v u) : PySem.W.handedIn u = true := by
  cases v with
  | non => cases (show u = Value.none from r); rfl
  | bl b => cases (show u = Value.bool b from r); rfl
  | int i => obtain ⟨t, e⟩ := (show ∃ t, u = Value.int i t from r); cases e; rfl
  | str x => obtain ⟨t, e⟩ := (show ∃ t, u = Value.str x t from r); cases e; rfl
  | byt b => obtain ⟨t, e⟩ := (show ∃ t, u = Value.bytes b t from r); cases e; rfl
  | flt b => obtain ⟨t, e⟩ := (show ∃ t, u = Value.float b t from r); cases e; rfl
  | ref a => cases (show u = Value.ref a from r); rfl
  | ty n => cases (show u = Value.type n from r); rfl

section
variable {P : Program} {w : World} {H H' : Hp} {h h' : Heap} {a C dx : Addr} {fs fs' : List (Str × V)}
theorem ins_get (hok : HOk P w H h) (e : H a = some (.ins C dx fs)) : ∃ mA, ObjM h a dx C mA ∧ (∀ f, RelO (fs.lookup f) (mA f)) ∧ PySem.Within mA (fs.map (·.1)) ∧ fs.length ≤ 1000 ∧ H dx = some (.own a) := by
  obtain ⟨d, z, ne, ob, mA, n, r, q⟩ := (show ObjOk P w H h a (.ins C dx fs) from hok a _ e)
  exact ⟨mA, ⟨ob, n, ne⟩, r, q, z, d⟩
end

/-! ### what of the text a class must have -/
structure Cls (K : PySem.W.Frag) (C : Addr) : Prop where
  pg : PySem.W.plainGet K C Str.empty = true
  hd : PySem.W.hasDictIn K C = true
  po : PySem.W.plainOver K C = true
  sa : PySem.W.findIn K (.ref C) "__setattr__" = some (some (.builtin "object.__setattr__"))
theorem Cls.get {K : PySem.W.Frag} {C : Addr} (c : Cls K C) (f : Str) : PySem.W.plainGet K C f = true := c.pg
/-- no class of it has the name -/
def NoAttr (K : PySem.W.Frag) (C : Addr) (f : Str) : Prop := PySem.W.findIn K (.ref C) f = some none
theorem NoAttr.taker {K : PySem.W.Frag} {C : Addr} {f : Str} (n : NoAttr K C f) : PySem.W.takerIn K C f = some none := by
  unfold PySem.W.takerIn
  rw [show PySem.W.findIn K (.ref C) f = some none from n]
  rfl
/-- a constant of the class -/
structure Con (K : PySem.W.Frag) (C : Addr) (f : Str) (v : V) (u : Value) : Prop where
  at_ : PySem.W.findIn K (.ref C) f = some (some u)
  rel : RelV v u
  get : PySem.W.specialIn K u "__get__" = some none
  cp : PySem.W.copiedNames.contains f = false
/-- a method: a plain def of the class or of one above it -/
structure Meth (K : PySem.W.Frag) (C : Addr) (m : Str) (f : Addr) : Prop where
  at_ : PySem.W.findIn K (.ref C) m = some (some (.ref f))
  fn : PySem.W.isFn K (.ref f) = true
  kp : PySem.W.keepIn K (.ref f) = true

section
variable {X : Cx} {pins : List (Addr × Obj)} {σ : St} {H : Hp} {s : Shared} {a C dx : Addr} {fs : List (Str × V)} {f : Str} {v : V} {A : Around} {E : Value → Shared → Prop}

theorem getattr_ok {b : Bool} {Q : Value → Shared → Prop} (I : Inv X pins σ H s) (e : H a = some (.ins C dx fs)) (c : Cls X.K C) (n : NoAttr X.K C f) (l : fs.lookup f = some v)
    (h : ∀ u s', Inv X pins σ H s' → RelV v u → Q u s') : wpAny (model X.prog X.w) A (getAttr (.ref a) f b) Q E s := by
  obtain ⟨mA, O, r, _, _, _⟩ := ins_get I.hok e
  obtain ⟨u, hu, ru⟩ := RelO.some_of (v := v) (o := mA f) (by rw [← l]; exact r f)
  exact get_map I.kIn O (c.get f) c.hd n hu (handed_of ru) (h u _ (I.tok _) ru)

theorem getmeth_ok {m : Str} {g : Addr} {pl : Sem Bool} {Q : Value × List Value → Shared → Prop} (I : Inv X pins σ H s) (e : H a = some (.ins C dx fs)) (c : Cls X.K C) (k : Meth X.K C m g) (l : fs.lookup m = none)
    (h : Q (.ref g, [.ref a]) s) : wpAny (model X.prog X.w) A (getMethod (.ref a) m pl) Q E s := by
  obtain ⟨mA, O, r, _, _, _⟩ := ins_get I.hok e
  have hn : mA m = none := RelO.none_of (by rw [← l]; exact r m)
  exact get_meth I.kIn O (c.get m) k.at_ k.fn hn h

theorem setattr_ok {y : V} {u : Value} {Q : Unit → Shared → Prop} (I : Inv X pins σ H s) (e : H a = some (.ins C dx fs)) (c : Cls X.K C) (n : NoAttr X.K C f) (hl : fs.length < 1000) (ry : RelV y u)
    (h : ∀ s', Inv X pins σ (upd H a (.ins C dx (putF f y fs))) s' → Q () s') : wpAny (model X.prog X.w) A (setAttr (.ref a) f u) Q E s := by
  obtain ⟨mA, O, r, wi, _, ho⟩ := ins_get I.hok e
  have hz : (fs.map (·.1)).length ≤ sizeLine := by rw [List.length_map, sizeLine_eq]; omega
  refine set_map I.kIn O c.sa c.po n.taker c.hd wi hz fun h' O' sb => h _ ?_
  have hd : ∃ o, h'.get? dx = some o := let ⟨o, _, _, e', _⟩ := O'.ns; ⟨o, e'⟩
  refine I.write (x := a) (e := dx) (by rw [e]; exact True.intro) (.inr ho) (fun b q hb z => (sb.2 b hb).trans z) hd ?_
  refine ⟨by rw [upd_ne O.ne]; exact ho, ?_, O.ne, O'.obj, _, O'.ns, fun g => ?_, fun g hg => ?_⟩
  · have := length_putF f y fs; omega
  · show RelO ((putF f y fs).lookup g) (if g = f then some u else mA g)
    rw [lookup_putF]
    by_cases q : g = f
    · rw [if_pos q, if_pos q]; exact ry
    · rw [if_neg q, if_neg q]; exact r g
  · by_cases q : g = f
    · rw [q]; exact (keys_putF f y fs).1
    · refine (keys_putF f y fs).2 g (wi g fun z => hg ?_)
      show (if g = f then some u else mA g) = none
      rw [if_neg q]; exact z

/-- a new instance, tracked, without attributes -/
theorem Inv.made (I : Inv X pins σ H s) : Inv X pins σ (upd (upd H s.heap.objs.size (.own (s.heap.objs.size + 1))) (s.heap.objs.size + 1) (.ins C s.heap.objs.size []))
    { s with heap := (s.heap.push PySem.W.emptyDict).push (PySem.W.instObj C s.heap.objs.size) } := by
  have e1 : (s.heap.push PySem.W.emptyDict).get? s.heap.objs.size = some PySem.W.emptyDict := Heap.get?_push_size s.heap rfl
  have e2 : ((s.heap.push PySem.W.emptyDict).push (PySem.W.instObj C s.heap.objs.size)).get? (s.heap.objs.size + 1) = some (PySem.W.instObj C s.heap.objs.size) := by
    have := Heap.get?_push_size (s.heap.push PySem.W.emptyDict) (o := PySem.W.instObj C s.heap.objs.size) rfl
    rwa [Heap.size_push] at this
  have e3 : (s.heap.push PySem.W.emptyDict).Ns s.heap.objs.size (fun _ => none) := ⟨PySem.W.emptyDict, #[], _, e1, rfl, (fun e he => absurd he (by simp)), fun _ => rfl⟩
  have I1 := I.laid (a := s.heap.objs.size) (o := .own (s.heap.objs.size + 1)) (h' := s.heap.push PySem.W.emptyDict) (t' := s.toks) (fun b u q => Heap.get?_push_of_some _ q) (Nat.le_refl _) ⟨_, e1⟩
  refine I1.laid (a := s.heap.objs.size + 1) (o := .ins C s.heap.objs.size []) (t' := s.toks) (fun b u q => Heap.get?_push_of_some _ q) (Nat.le_of_eq (Heap.size_push _ _)) ?_
  have ne : s.heap.objs.size ≠ s.heap.objs.size + 1 := Nat.ne_of_lt (Nat.lt_succ_self _)
  refine ⟨by rw [upd_ne ne, upd_same], Nat.zero_le _, ne, e2, fun _ => none, (Heap.Ns1.of_empty e3).at fun o q => Heap.get?_push_of_some _ q, fun _ => True.intro, fun y hy => absurd rfl hy⟩

/-- e.f where nothing but the object is asked: through attributeBase (super) and the last hold -/
theorem attr_of {prog : Program} {w : World} {env : Env} {e : Expr} {f : Str} {pos : Pos} {s : Shared} {Q : Value → Shared → Prop} (hb : attributeBase e f env (eval e env) = eval e env)
    (h : wpAny (model prog w) A (eval e env) (fun o s₁ => wpAny (model prog w) A (getAttr o f true) Q E s₁) E s) : wpAny (model prog w) A (eval (.Attribute e f pos) env) Q E s :=
  Attribute_any_ h (by rw [arm_eval_Attribute, hb])
end

/-! ### readings and rules -/
/-- e.f, an attribute of the instance -/
def tFld (K : PySem.W.Frag) (ta : TE) (f : Str) : TE := fun σ H Q => ta σ H fun x H1 => ∃ a C dx fs v, x = .ref a ∧ H1 a = some (.ins C dx fs) ∧ Cls K C ∧ NoAttr K C f ∧ fs.lookup f = some v ∧ Q v H1
/-- e.f, a constant of the class -/
def tCon (K : PySem.W.Frag) (ta : TE) (f : Str) : TE := fun σ H Q => ta σ H fun x H1 => ∃ a C dx fs v u, x = .ref a ∧ H1 a = some (.ins C dx fs) ∧ Cls K C ∧ Con K C f v u ∧ fs.lookup f = none ∧ Q v H1
/-- e.f = value -/
def sFld (K : PySem.W.Frag) (ta tv : TE) (f : Str) : TS := fun D σ H => tv σ H fun y H1 => ta σ H1 fun x H2 => ∃ a C dx fs, x = .ref a ∧ H2 a = some (.ins C dx fs) ∧ Cls K C ∧ NoAttr K C f ∧ fs.length < 1000 ∧
  D.nx σ (upd H2 a (.ins C dx (putF f y fs)))
/-- an augmented operator on two values -/
def InOp (X : Cx) (op : Operator) (rd : V → V → Hp → VK → Prop) : Prop :=
  ∀ (pins : List (Addr × Obj)) (s : Shared) (σ : St) (H : Hp) (x y : V) (u v : Value) (Q : VK), Inv X pins σ H s → RelV x u → RelV y v → rd x y H Q → wpAny (model X.prog X.w) X.A (inplaceOp op u v) (EP X pins σ Q) X.xe s
/-- e.f op= value -/
def sFldAug (K : PySem.W.Frag) (ta tv : TE) (rd : V → V → Hp → VK → Prop) (f : Str) : TS := fun D σ H => ta σ H fun x H1 => ∃ a C dx fs v, x = .ref a ∧ H1 a = some (.ins C dx fs) ∧ Cls K C ∧ NoAttr K C f ∧ fs.lookup f = some v ∧
  tv σ H1 fun y H2 => rd v y H2 fun z H3 => ∃ dx' fs', H3 a = some (.ins C dx' fs') ∧ fs'.length < 1000 ∧ D.nx σ (upd H3 a (.ins C dx' (putF f z fs')))

section
variable {X : Cx} {o e value : Expr} {f : Str} {pos pos' tpos : Pos} {ta tv : TE}
theorem pe_fld (he : PE X e ta) (hb : attributeBase e f X.env (eval e X.env) = eval e X.env) : PE X (.Attribute e f pos) (tFld X.K ta f) := by
  intro pins s σ H Q I h
  refine attr_of hb (thn (he pins s σ H _ I h) fun u s1 ⟨x, H1, I1, rx, a, C, dx, fs, v, ex, ea, c, n, l, q⟩ => ?_)
  subst ex
  obtain rfl : u = Value.ref a := rx
  exact getattr_ok I1 ea c n l fun u' s2 I2 ru => ⟨v, H1, I2, ru, q⟩
theorem ps_fld (ha : PE X o ta) (hv : PE X value tv) (hs : swapsWith value (some (.Attribute o f pos')) pos.line X.env = pure false) : PS X (.Assign [.Attribute o f pos'] value pos) (sFld X.K ta tv f) := by
  intro pins s σ H D I h
  refine plainObj_wpAny_Assign_Attribute (thn (hv pins s σ H _ I h) fun u s1 ⟨y, H1, I1, ry, q⟩ => thn (ha pins s1 σ H1 _ I1 q) fun ov s2 ⟨x, H2, I2, rx, a, C, dx, fs, ex, ea, c, n, l, q2⟩ => ?_) hs
  subst ex
  obtain rfl : ov = Value.ref a := rx
  exact setattr_ok I2 ea c n l ry fun s3 I3 => ⟨σ, _, I3, q2⟩
def rAdd : V → V → Hp → VK → Prop := fun x y H Q => ∃ i j, x = .int i ∧ y = .int j ∧ Q (.int (i + j)) H
def rSub : V → V → Hp → VK → Prop := fun x y H Q => ∃ i j, x = .int i ∧ y = .int j ∧ Q (.int (i - j)) H
/-- what is between an instance and its method: the tree of a method call -/
theorem methcall_of {pl : Sem Bool} {m : Str} {apos : Pos} {args : List Expr} {pins : List (Addr × Obj)} {s : Shared} {σ : St} {H : Hp} {Q : Value → Shared → Prop} {te : TE} (he : PE X e te) (I : Inv X pins σ H s)
    (h : te σ H fun x H1 => ∃ a C dx fs g, x = .ref a ∧ H1 a = some (.ins C dx fs) ∧ Cls X.K C ∧ Meth X.K C m g ∧ fs.lookup m = none ∧
      ∀ s1, Inv X pins σ H1 s1 → wpAny (model X.prog X.w) X.A (callWith pos (.ref g) [.ref a] (backTo pos (starEach args X.env)) (backToKw pos (keywordEach [] X.env))) Q X.xe s1)
    (ht : eval (.Call (.Attribute e m apos) args [] pos) X.env = (do
      let ov ← eval e X.env
      standAt apos.atName
      let (f, first) ← holding [ov] (getMethod ov m pl)
      callWith pos f first (backTo pos (starEach args X.env)) (backToKw pos (keywordEach [] X.env)))) :
    wpAny (model X.prog X.w) X.A (eval (.Call (.Attribute e m apos) args [] pos) X.env) Q X.xe s := by
  refine PySem.W.methodCall_KW (pl := pl) (thn (he pins s σ H _ I h) fun u s1 ⟨x, H1, I1, rx, a, C, dx, fs, g, ex, ea, c, k, l, q⟩ => ?_) ht
  subst ex
  obtain rfl : u = Value.ref a := rx
  exact getmeth_ok I1 ea c k l (q s1 I1)
end

/-! ### isinstance -/
section
variable {X : Cx} {pins : List (Addr × Obj)} {σ : St} {H : Hp} {s : Shared} {A : Around} {E : Value → Shared → Prop} {Q : Value → Shared → Prop} {c : Value} {b : Bool}
/-- the type of a value, as the fragment's deciders take it; for an instance its class -/
inductive TyOf (K : PySem.W.Frag) (H : Hp) : V → Value → Prop where
  | non : TyOf K H .non (.type "NoneType")
  | bl (x : Bool) : TyOf K H (.bl x) (.type "bool")
  | int (i : Int) : TyOf K H (.int i) (.type "int")
  | str (x : Str) : TyOf K H (.str x) (.type "str")
  | flt (x : UInt64) : TyOf K H (.flt x) (.type "float")
  | lst {a : Addr} {xs : List V} (e : H a = some (.lst xs)) : TyOf K H (.ref a) (.type "list")
  | frz {a : Addr} {o : Obj} {xs : List V} (e : H a = some (.frz o (.lst xs))) : TyOf K H (.ref a) (.type "list")
  | tup {a : Addr} {xs : List V} (e : H a = some (.tup xs)) : TyOf K H (.ref a) (.type "tuple")
  | dK {a : Addr} {kvs : List (Key × V)} (e : H a = some (.dK kvs)) : TyOf K H (.ref a) (.type "dict")
  | dT {a : Addr} {kvs : List (List Key × V)} (e : H a = some (.dT kvs)) : TyOf K H (.ref a) (.type "dict")
  | ins {a C dx : Addr} {fs : List (Str × V)} (e : H a = some (.ins C dx fs)) (cl : Cls K C) (ha : PySem.W.findIn K (.ref C) "__class__" = some (some (.builtin "object.__class__")))
      (hn : PySem.W.specialIn K (.builtin "object.__class__") "__get__" = some (some (.builtin "getset_descriptor.__get__"))) (htk : PySem.W.takesIn K (.builtin "object.__class__") = some true)
      (hm : PySem.W.mroIn K C (.type "object") = some true) : TyOf K H (.ref a) (.ref C)
/-- isinstance(x, c) for one class c, a built-in or an own one: kitOne's answer -/
theorem isinst_ok {x : V} {u t : Value} (I : Inv X pins σ H s) (rx : RelV x u) (ty : TyOf X.K H x t) (e : PySem.W.kitOne X.K t c = some b) (h : ∀ tk, Q (.bool b) { s with toks := tk }) :
    wpAny (model X.prog X.w) A (call (.builtin "isinstance") [u, c]) Q E s := by
  cases ty with
  | non => cases (show u = Value.none from rx); exact PySem.W.kia_one PySem.W.kitx_none I.kIn True.intro e (fun z => nomatch z) h
  | bl y => cases (show u = Value.bool y from rx); exact PySem.W.kia_one PySem.W.kitx_bool I.kIn True.intro e (fun z => nomatch z) h
  | int i => obtain ⟨t, q⟩ := (show ∃ t, u = Value.int i t from rx); cases q; exact PySem.W.kia_one PySem.W.kitx_int I.kIn True.intro e (fun z => nomatch z) h
  | str y => obtain ⟨t, q⟩ := (show ∃ t, u = Value.str y t from rx); cases q; exact PySem.W.kia_one PySem.W.kitx_str I.kIn True.intro e (fun z => nomatch z) h
  | flt y => obtain ⟨t, q⟩ := (show ∃ t, u = Value.float y t from rx); cases q; exact PySem.W.kia_one PySem.W.kitx_float I.kIn True.intro e (fun z => nomatch z) h
  | @lst a xs ea =>
    cases (show u = Value.ref a from rx)
    obtain ⟨_, _, n, _, h1⟩ := (show ObjOk X.prog X.w H s.heap a (.lst xs) from I.hok a _ ea)
    exact PySem.W.kia_one PySem.W.kitx_list I.kIn ⟨_, h1, rfl⟩ e (fun z => nomatch z) h
  | @frz a ob xs ea =>
    cases (show u = Value.ref a from rx)
    obtain ⟨_, _, _, n, _, h1⟩ := (show ObjOk X.prog X.w H s.heap a (.frz ob (.lst xs)) from I.hok a _ ea)
    exact PySem.W.kia_one PySem.W.kitx_list I.kIn ⟨_, h1, rfl⟩ e (fun z => nomatch z) h
  | @tup a xs ea =>
    cases (show u = Value.ref a from rx)
    obtain ⟨_, _, _, p⟩ := (show ObjOk X.prog X.w H s.heap a (.tup xs) from I.hok a _ ea)
    obtain ⟨o, h1, h2, _⟩ := p
    exact PySem.W.kia_one PySem.W.kitx_tuple I.kIn ⟨o, h1, h2⟩ e (fun z => nomatch z) h
  | @dK a kvs ea =>
    cases (show u = Value.ref a from rx)
    obtain ⟨_, _, vs, _, p⟩ := (show ObjOk X.prog X.w H s.heap a (.dK kvs) from I.hok a _ ea)
    obtain ⟨o, es, ep, h1, h2, _⟩ := p
    exact PySem.W.kia_one PySem.W.kitx_dict I.kIn ⟨o, h1, h2.1⟩ e (fun z => nomatch z) h
  | @dT a kvs ea =>
    cases (show u = Value.ref a from rx)
    obtain ⟨_, _, xs, _, o, es, ep, h1, h2, _⟩ := (show ObjOk X.prog X.w H s.heap a (.dT kvs) from I.hok a _ ea)
    exact PySem.W.kia_one PySem.W.kitx_dict I.kIn ⟨o, h1, h2.1⟩ e (fun z => nomatch z) h
  | @ins a C dx fs ea cl ha hn htk hm =>
    cases (show u = Value.ref a from rx)
    obtain ⟨mA, O, _⟩ := ins_get I.hok ea
    obtain ⟨od, J, _⟩ := O.look
    exact PySem.W.kia_one (PySem.W.kitx_own (cl.get _) cl.hd ha hn htk hm) I.kIn J e (fun z => nomatch z) h
end
end L2

namespace L2
open PySem PySem.Spec PyProof.Rows

/-! ### room -/
structure Room (k : Nat) (A : Around) : Prop where
  hd : A.handled = none
  dp : A.depth + 3 * k + 5 < recursionLimit
  un : A.units + 16 * k + 200 < cLine
theorem Room.mono {j k : Nat} {A : Around} (r : Room k A) (h : j ≤ k) : Room j A := ⟨r.hd, by have := r.dp; omega, by have := r.un; omega⟩
theorem Room.deeper {k : Nat} {A : Around} (r : Room (k + 1) A) (env : Env) : Room k (A.deeper env) :=
  ⟨r.hd, by have := r.dp; show A.depth + 1 + 3 * k + 5 < _; omega, by have := r.un; show A.units + 3 + 16 * k + 200 < _; omega⟩
theorem make_depth {A : Around} {C : Addr} {us : List Value} {kw : List (Str × Value)} : (A.under (.builtin "type.__call__" ⟨.ref C :: us, kw⟩)).depth = A.depth + 1 := by
  first | rfl | simp [Around.under, Code.weight, Code.isCreation, Code.isGuard, Code.isCaller, Code.frames, Code.isFrame, guardIds]
theorem make_units {A : Around} {C : Addr} {us : List Value} {kw : List (Str × Value)} : (A.under (.builtin "type.__call__" ⟨.ref C :: us, kw⟩)).units = A.units + 1 := by
  first | rfl | simp [Around.under, Code.cUnits, Code.frames, Code.isFrame]
theorem Room.make {k : Nat} {A : Around} (r : Room (k + 1) A) (C : Addr) (us : List Value) (kw : List (Str × Value)) : Room k (A.under (.builtin "type.__call__" ⟨.ref C :: us, kw⟩)) :=
  ⟨r.hd, by have := r.dp; rw [make_depth]; omega, by have := r.un; rw [make_units]; omega⟩
theorem Room.depth {k : Nat} {A : Around} (r : Room k A) : A.depth < recursionLimit := by have := r.dp; omega
theorem Room.units {k : Nat} {A : Around} (r : Room k A) : A.units + 64 < cLine := by have := r.un; omega
/-! ### argument lists and displays -/
def tNil : TA := fun _ H Q => Q [] H
def tCons (ta : TE) (tr : TA) : TA := fun σ H Q => ta σ H fun x H1 => tr σ H1 fun xs H2 => Q (x :: xs) H2
section
variable {X : Cx} {e : Expr} {es : List Expr} {te : TE} {t : TA} {pos : Pos}
theorem pa_nil : PA X [] tNil := fun _ _ _ _ H Q I h => Calls.spliced_nil ⟨[], H, I, .nil, h⟩
theorem pa_cons (ha : PE X e te) (hr : PA X es t) (hs : starEach (e :: es) X.env = (false, eval e X.env) :: starEach es X.env := by rfl) : PA X (e :: es) (tCons te t) := by
  intro pos pins s σ H Q I h
  rw [hs]
  show wpAny _ _ (spliced ((false, eval e X.env) :: backTo pos (starEach es X.env))) _ _ s
  refine Calls.spliced_cons (thn (ha pins s σ H _ I h) fun u s1 ⟨x, H1, I1, r1, q1⟩ => ?_)
  exact thn (hr pos pins s1 σ H1 _ I1 q1) fun us s2 ⟨xs, H2, I2, r2, q2⟩ => ⟨x :: xs, H2, I2, .cons r1 r2, q2⟩

/-- a tuple, a list of written items -/
def tTup (t : TA) : TE := fun σ H Q => t σ H fun xs H1 => xs.length ≤ sizeLine ∧ ∀ p, H1 p = none → Q (.ref p) (upd H1 p (.tup xs))
def tLst (t : TA) : TE := fun σ H Q => t σ H fun xs H1 => xs.length ≤ sizeLine ∧ ∀ p, H1 p = none → Q (.ref p) (upd H1 p (.lst xs))
theorem pe_tup {x1} (h : PA X es t) : PE X (.Tuple es x1 pos) (tTup t) := by
  intro pins s σ H Q I hq
  refine wpAny_Tuple_spliced (thn (h pos pins s σ H _ I hq) fun us s1 ⟨xs, H1, I1, r, z, q⟩ => ⟨by rw [← r.length]; exact z, ?_⟩)
  have hf : H1 s1.heap.objs.size = none := I1.hok.fresh (Nat.le_refl _)
  refine ⟨.ref s1.heap.objs.size, upd H1 s1.heap.objs.size (.tup xs), I1.laid (t' := s1.toks) (fun b u e => Heap.get?_push_of_some _ e) (Nat.le_refl _) ?_, rfl, q _ hf⟩
  exact ⟨z, us, r, ⟨_, Heap.get?_push_size _ rfl, rfl, _, rfl⟩⟩
theorem pe_lst (h : PA X es t) : PE X (.List es pos) (tLst t) := by
  intro pins s σ H Q I hq
  refine wpAny_List_spliced (thn (h pos pins s σ H _ I hq) fun us s1 ⟨xs, H1, I1, r, z, q⟩ => ⟨by rw [← r.length]; exact z, ?_⟩)
  have hf : H1 s1.heap.objs.size = none := I1.hok.fresh (Nat.le_refl _)
  refine ⟨.ref s1.heap.objs.size, upd H1 s1.heap.objs.size (.lst xs), I1.laid (t' := s1.toks) (fun b u e => Heap.get?_push_of_some _ e) (Nat.le_refl _) ?_, rfl, q _ hf⟩
  exact ⟨z, us, 0, r, Heap.get?_push_size _ rfl⟩
end

/-! ### what a def promises -/
/-- a def's promise: the bound arguments in the parameters' order, the heap, the wanted end, the wanted exception -/
abbrev Sp := List V → Hp → VK → XK → Prop
/-- how an exception lies behind a call (file 08 gives it): the callers' frames, abstract heap and state ahead of the call, the wish, the exception, the state -/
abbrev CXT := List Env → Hp → Shared → XK → Value → Shared → Prop

/-- the state at a call -/
structure Env0 (P : Program) (w : World) (K : PySem.W.Frag) (mg : Str → Option Value) (base : Heap) (A : Around) (outer : List Env) (s : Shared) (H : Hp) : Prop where
  frames : A.frames = some outer
  mod : Mod K mg base
  bs : ∀ b o, base.get? b = some o → s.heap.get? b = some o ∧ H b = none
  bsz : base.objs.size ≤ s.heap.objs.size
  funs : s.heap.FunFrames base outer
  frf : ∀ b ∈ frs outer, H b = none
  hok : HOk P w H s.heap
  bare : AllBare s.gens
/-- a call's end -/
def CE (outer : List Env) (P : Program) (w : World) (H : Hp) (s : Shared) (Q : VK) (u : Value) (s' : Shared) : Prop :=
  ∃ v H', s'.os = s.os ∧ AllBare s'.gens ∧ Un (frs outer) [] H H' s.heap s'.heap ∧ HOk P w H' s'.heap ∧ RelV v u ∧ Q v H'
def CR (CX : CXT) (outer : List Env) (P : Program) (w : World) (H : Hp) (s : Shared) (Q : VK) (E : XK) (r : Result) (s' : Shared) : Prop :=
  match r with
  | .ok (.ret u) => CE outer P w H s Q u s'
  | .ok _ => False
  | .error e => CX outer H s E e s'
structure FnOk (P : Program) (w : World) (K : PySem.W.Frag) (mg : Str → Option Value) (base : Heap) (CX : CXT) (k : Nat) (f : Addr) (fd : FuncData) (ps : List Str) (sp : Sp) : Prop where
  len : ∀ vs H Q E, sp vs H Q E → vs.length = ps.length
  run : ∀ (A : Around) (outer : List Env) (s : Shared) (H : Hp) (args : Args) (us : List Value) (vs : List V) (Q : VK) (E : XK), Room k A → Env0 P w K mg base A outer s H → BindsTo s fd args (ps.zip us) → Vals vs us → sp vs H Q E →
    codeAny (model P w) A (.call (.ref f) args) (CR CX outer P w H s Q E) s
theorem Env0.make {P : Program} {w : World} {K : PySem.W.Frag} {mg : Str → Option Value} {base : Heap} {A : Around} {outer : List Env} {s : Shared} {H : Hp} (e : Env0 P w K mg base A outer s H) (C : Addr) (us : List Value) (kw : List (Str × Value)) :
    Env0 P w K mg base (A.under (.builtin "type.__call__" ⟨.ref C :: us, kw⟩)) outer s H := ⟨by first | exact e.frames | (simpa [Around.under, Code.envs, Code.isFrame, pushEnvs] using e.frames), e.mod, e.bs, e.bsz, e.funs, e.frf, e.hok, e.bare⟩
section
variable {X : Cx} {pins : List (Addr × Obj)} {σ : St} {H : Hp} {s s' : Shared}
/-- from a body: what a callee wants -/
theorem Inv.env0 (I : Inv X pins σ H s) : Env0 X.prog X.w X.K X.mg X.base X.A X.stack s H :=
  ⟨I.ok.frames, I.ok.mod, I.bs, Nat.le_trans I.ok.bsz I.sz, I.stack, I.stkFree, I.hok, I.bare⟩
/-- behind a call -/
theorem Inv.after {Q : VK} {u : Value} (I : Inv X pins σ H s) (h : CE X.stack X.prog X.w H s Q u s') : EP X pins σ Q u s' := by
  obtain ⟨v, H', os, bare, un, hok, r, q⟩ := h
  obtain ⟨hh, g, d, t, os'⟩ := s'
  obtain rfl : os' = s.os := os
  exact ⟨v, H', I.call (h' := hh) (g' := g) (d' := d) (t' := t) (ch := []) un hok bare (fun b z => absurd z (by simp)), r, q⟩
end

/-! ### calls -/
/-- f(..): the written arguments, then the defaults dvs; E: what is wanted of an exception -/
def tCall (sp : Sp) (dvs : List V) (E : XK) (t : TA) : TE := fun σ H Q => t σ H fun vs H1 => sp (vs ++ dvs) H1 Q E
/-- o.m(..) of an instance of the class at C -/
def tMeth (C : Addr) (m : Str) (sp : Sp) (dvs : List V) (E : XK) (ta : TE) (t : TA) : TE := fun σ H Q => ta σ H fun x H1 => ∃ a dx fs, x = .ref a ∧ H1 a = some (.ins C dx fs) ∧ fs.lookup m = none ∧
  t σ H1 fun vs H2 => sp (x :: (vs ++ dvs)) H2 Q E
/-- C(..): a new instance and its dict, then __init__ -/
def tMake (C : Addr) (sp : Sp) (dvs : List V) (E : XK) (t : TA) : TE := fun σ H Q => t σ H fun vs H1 => ∀ x dx, H1 x = none → H1 dx = none → dx ≠ x →
  sp (.ref x :: (vs ++ dvs)) (upd (upd H1 dx (.own x)) x (.ins C dx [])) (fun v H2 => v = .non ∧ Q (.ref x) H2) E

/-- how the parameters are bound: us the positional arguments, kw the keywords' values by name, ds the defaults that fill up -/
def Binds (K : PySem.W.Frag) (fd : FuncData) (ps : List Str) (ds : List Value) : Prop :=
  ∀ (s : Shared) (us : List Value), K.In s.heap → (us ++ ds).length = ps.length → BindsTo s fd ⟨us, []⟩ (ps.zip (us ++ ds))
/-- every parameter is given -/
theorem Binds.all {K : PySem.W.Frag} {fd : FuncData} {ps : List Str} (h : ∀ us : List Value, us.length = ps.length → bindArgs fd ⟨us, []⟩ = pure (ps.zip us)) : Binds K fd ps [] := fun s us _ hl => by
  rw [List.append_nil] at hl ⊢
  exact .of_eq (h us hl)

/-- an exception of a callee reaches what this body wants of exceptions -/
def Passes (CX : CXT) (X : Cx) (E : XK) : Prop := ∀ (pins : List (Addr × Obj)) (σ : St) (H : Hp) (s : Shared) (e : Value) (s' : Shared), Inv X pins σ H s → CX X.stack H s E e s' → X.xe e s'

section
variable {X : Cx} {CX : CXT} {k : Nat} {f C : Addr} {fd : FuncData} {ps : List Str} {sp : Sp} {dvs : List V} {ds : List Value} {E : XK} {x m : Str} {p pos apos : Pos} {e o : Expr} {es : List Expr} {ta : TE} {t : TA}

/-- the callee runs -/
theorem run_fn {pins : List (Addr × Obj)} {σ : St} {H : Hp} {s : Shared} {Q : VK} {us : List Value} {vs : List V} (F : FnOk X.prog X.w X.K X.mg X.base CX k f fd ps sp) (hr : Room k X.A) (hb : Binds X.K fd ps ds) (hd : Vals dvs ds) (hx : Passes CX X E)
    (I : Inv X pins σ H s) (r : Vals vs us) (h : sp (vs ++ dvs) H Q E) : wpAny (model X.prog X.w) X.A (call (.ref f) us) (EP X pins σ Q) X.xe s := by
  have r2 : Vals (vs ++ dvs) (us ++ ds) := r.append hd
  have hl : (us ++ ds).length = ps.length := by rw [← r2.length]; exact F.len _ _ _ _ h
  refine wpAny_call (codeAny_mono (F.run X.A X.stack s H ⟨us, []⟩ (us ++ ds) (vs ++ dvs) Q E hr I.env0 (hb s us I.kIn hl) r2 h) fun r s' hq => ?_)
  cases r with
  | error e => exact hx pins σ H s e s' I hq
  | ok fl =>
    cases fl with
    | ret u => exact I.after hq
    | next => exact False.elim hq
    | brk => exact False.elim hq
    | cont => exact False.elim hq

theorem pe_call (F : FnOk X.prog X.w X.K X.mg X.base CX k f fd ps sp) (hr : Room k X.A) (hg : Gl X x) (hm : X.mg x = some (.ref f)) (hk : PySem.W.keepIn X.K (.ref f) = true) (hb : Binds X.K fd ps ds) (hd : Vals dvs ds) (hx : Passes CX X E)
    (ha : PA X (e :: es) t) (hdb : (x == ("__debug__" : Str)) = false := by decide) (he : starEach (e :: es) X.env = (false, eval e X.env) :: starEach es X.env := by rfl) (hpl : (backTo pos (starEach es X.env)).any (·.1) = false := by rfl) :
    PE X (.Call (.Name x p) (e :: es) [] pos) (tCall sp dvs E t) := by
  intro pins s σ H Q I h
  refine wpAny_Call_Name_kw (ld_glob I hg hm ?_ hdb)
  refine PySem.W.callWith_K (h₀ := X.base) I.ok.mod.kin hk (thn (ha pos pins s σ H _ I h) fun us s1 ⟨vs, H1, I1, r, q⟩ => ⟨I1.kIn, ?_⟩) he hpl
  exact run_fn F hr hb hd hx I1 r q
/-- o.m() -/
theorem pe_meth0 {pl : Sem Bool} (he : PE X o ta) (c : Cls X.K C) (hm : Meth X.K C m f) (F : FnOk X.prog X.w X.K X.mg X.base CX k f fd ps sp) (hr : Room k X.A) (hb : Binds X.K fd ps ds) (hd : Vals dvs ds) (hx : Passes CX X E)
    (ht : eval (.Call (.Attribute o m apos) [] [] pos) X.env = (do
      let ov ← eval o X.env
      standAt apos.atName
      let (f, first) ← holding [ov] (getMethod ov m pl)
      callWith pos f first (backTo pos (starEach [] X.env)) (backToKw pos (keywordEach [] X.env))) := by rfl) :
    PE X (.Call (.Attribute o m apos) [] [] pos) (tMeth C m sp dvs E ta tNil) := by
  intro pins s σ H Q I h
  refine PySem.W.methodCall_KW (pl := pl) (thn (he pins s σ H _ I h) fun u s1 ⟨x, H1, I1, rx, a, dx, fs, ex, ea, l, q⟩ => ?_) ht
  subst ex
  obtain rfl : u = Value.ref a := rx
  refine getmeth_ok I1 ea c hm l ?_
  exact PySem.W.callWith_K0 (first := [.ref a]) I1.kIn hm.kp (run_fn (us := [.ref a]) (vs := [.ref a]) F hr hb hd hx I1 (.cons rfl .nil) q)

/-- what a class must have to be made -/
structure Mk (K : PySem.W.Frag) (C f : Addr) : Prop where
  makes : PySem.W.makesIn K C = true
  init : PySem.W.findIn K (.ref C) "__init__" = some (some (.ref f))
  fn : PySem.W.isFn K (.ref f) = true
  kp : PySem.W.keepIn K (.ref C) = true

end

/-! ### keywords -/
/-- the values of the keywords, from the left -/
def PK (X : Cx) (kws : List Keyword) (t : TA) : Prop :=
  ∀ (pos : Pos) (pins : List (Addr × Obj)) (s : Shared) (σ : St) (H : Hp) (Q : List V → Hp → Prop), Inv X pins σ H s → t σ H Q → wpAny (model X.prog X.w) X.A (evalAll ((backToKw pos (keywordEach kws X.env)).map (·.2))) (AP X pins σ Q) X.xe s
section
variable {X : Cx} {CX : CXT} {k : Nat} {f C : Addr} {fd : FuncData} {ps ks : List Str} {sp : Sp} {E : XK} {x m : Str} {p pos apos kpos : Pos} {e o : Expr} {es : List Expr} {kws : List Keyword} {te ta : TE} {t tk : TA} {nm : Option Str}
/-- how a call with keywords binds: g puts the positional values us and the keywords' values ws (names ks) in the parameters' order, defaults among them -/
structure KBinds (K : PySem.W.Frag) (fd : FuncData) (ps ks : List Str) (g : List Value → List Value → List Value) (gV : List V → List V → List V) : Prop where
  to : ∀ (s : Shared) (us ws : List Value), K.In s.heap → (g us ws).length = ps.length → BindsTo s fd ⟨us, ks.zip ws⟩ (ps.zip (g us ws))
  rel : ∀ {vs : List V} {us : List Value} {zs : List V} {ws : List Value}, Vals vs us → Vals zs ws → Vals (gV vs zs) (g us ws)
def tCallK (sp : Sp) (gV : List V → List V → List V) (E : XK) (t tk : TA) : TE := fun σ H Q => t σ H fun vs H1 => tk σ H1 fun zs H2 => sp (gV vs zs) H2 Q E
variable {g : List Value → List Value → List Value} {gV : List V → List V → List V}
end

/-! ### a def's body keeps its promise -/
/-- names: the parameters first -/
structure FnScope (N P : List Str) (sc : Scope) : Prop where
  kind : sc.kind = .function
  co : sc.isCoroutine = false
  gen : sc.isGenerator = false
  nd : N.Nodup
  pre : N.take P.length = P
  par : ∀ x ∈ P, sc.names.lookup x = some .local ∨ sc.names.lookup x = some .cell
  nofree : ∀ y ∈ sc.names, y.2 ≠ .free

theorem bindL_out {kindOf : Str → Option NameKind} {x : Str} : ∀ {binds : List (Str × Value)} {m : Str → Option Value}, (∀ v, (x, v) ∉ binds) → bindL kindOf binds m x = m x
  | [], _, _ => rfl
  | (n, v) :: r, m, h => by
    unfold bindL
    rw [bindL_out fun w hw => h w (List.mem_cons_of_mem _ hw)]
    split
    · have : x ≠ n := by rintro rfl; exact h v List.mem_cons_self
      simp [this]
    · rfl
theorem bindC_out {kindOf : Str → Option NameKind} {x : Str} : ∀ {binds : List (Str × Value)} {m : Str → Option Value}, (∀ v, (x, v) ∉ binds) → bindC kindOf binds m x = m x
  | [], _, _ => rfl
  | (n, v) :: r, m, h => by
    unfold bindC
    rw [bindC_out fun w hw => h w (List.mem_cons_of_mem _ hw)]
    split
    · rfl
    · have : x ≠ n := by rintro rfl; exact h v List.mem_cons_self
      simp [this]
theorem bindL_get {kindOf : Str → Option NameKind} {x : Str} {v : Value} : ∀ {P : List Str} {vs : List Value} {i : Nat} {m : Str → Option Value}, P.Nodup → P[i]? = some x → vs[i]? = some v → kindOf x = some .local →
    bindL kindOf (P.zip vs) m x = some v
  | [], _, _, _, _, h, _, _ => by simp at h
  | _ :: _, [], _, _, _, _, h, _ => by simp at h
  | p :: P, w :: vs, 0, m, nd, h1, h2, hk => by
    simp at h1 h2; subst h1; subst h2
    show bindL kindOf ((p, w) :: P.zip vs) m p = _
    unfold bindL
    rw [bindL_out fun v hv => (List.nodup_cons.mp nd).1 (List.of_mem_zip hv).1, if_pos hk]
    simp
  | p :: P, w :: vs, i + 1, m, nd, h1, h2, hk => by
    show bindL kindOf ((p, w) :: P.zip vs) m x = _
    unfold bindL
    exact bindL_get (i := i) (List.nodup_cons.mp nd).2 (by simpa using h1) (by simpa using h2) hk
theorem bindC_get {kindOf : Str → Option NameKind} {x : Str} {v : Value} : ∀ {P : List Str} {vs : List Value} {i : Nat} {m : Str → Option Value}, P.Nodup → P[i]? = some x → vs[i]? = some v → kindOf x ≠ some .local →
    bindC kindOf (P.zip vs) m x = some v
  | [], _, _, _, _, h, _, _ => by simp at h
  | _ :: _, [], _, _, _, _, h, _ => by simp at h
  | p :: P, w :: vs, 0, m, nd, h1, h2, hk => by
    simp at h1 h2; subst h1; subst h2
    show bindC kindOf ((p, w) :: P.zip vs) m p = _
    unfold bindC
    rw [bindC_out fun v hv => (List.nodup_cons.mp nd).1 (List.of_mem_zip hv).1, if_neg hk]
    simp
  | p :: P, w :: vs, i + 1, m, nd, h1, h2, hk => by
    show bindC kindOf ((p, w) :: P.zip vs) m x = _
    unfold bindC
    exact bindC_get (i := i) (List.nodup_cons.mp nd).2 (by simpa using h1) (by simpa using h2) hk

/-- the names' values at the entry -/
def start (N : List Str) (vs : List V) : St := vs.map some ++ List.replicate (N.length - vs.length) none

/-- the context of a def's body, at its entry; an exception leaves the frame, then lies as CX says -/
def cxOf (CX : CXT) (P : Program) (w : World) (K : PySem.W.Frag) (mg : Str → Option Value) (base : Heap) (N : List Str) (qual : Str) (scope : Scope) (f : Addr) (cd : Value) (A : Around) (outer : List Env) (s : Shared) (H : Hp) (E : XK) : Cx where
  prog := P
  w := w
  K := K
  mg := mg
  base := base
  A := A.deeper (envOfC qual scope s.heap.objs.size f cd)
  N := N
  s₀ := s
  H₀ := H
  env := envOfC qual scope s.heap.objs.size f cd
  outer := outer
  stack := envOfC qual scope s.heap.objs.size f cd :: outer
  ex := []
  calm := true
  fn := fun _ => true
  pn := []
  xe := fun e s' => wpAny (model P w) (A.deeper (envOfC qual scope s.heap.objs.size f cd)) (leaving (envOfC qual scope s.heap.objs.size f cd) e) (fun _ s'' => CX outer H s E e s'') (fun e' s'' => CX outer H s E e' s'') s'

theorem cell_has {sc : Scope} {n : Nat} {x : Str} (h : sc.names.lookup x = some .cell) : ∃ c, (cellsFrom n sc.names []).lookup x = some c := by
  have q := PySem.W.cellsFrom_some sc.names n [] (.inl h)
  exact Option.isSome_iff_exists.mp q

theorem inv_start {CX : CXT} {P : Program} {w : World} {K : PySem.W.Frag} {mg : Str → Option Value} {base : Heap} {N ps : List Str} {qual : Str} {scope : Scope} {f : Addr} {cd : Value} {A : Around} {outer : List Env} {s s1 : Shared} {H : Hp} {E : XK} {us : List Value} {vs : List V}
    (S : FnScope N ps scope) (hd : A.handled = none) (e0 : Env0 P w K mg base A outer s H) (hl : vs.length = ps.length) (r : Vals vs us)
    (x : InCallC s s.heap.objs.size (bindL (envOfC qual scope s.heap.objs.size f cd).kindOf (ps.zip us) fun _ => none) (cellsFrom (s.heap.objs.size + 1) scope.names []) (bindC (envOfC qual scope s.heap.objs.size f cd).kindOf (ps.zip us) fun _ => none) s1) :
    Inv (cxOf CX P w K mg base N qual scope f cd A outer s H E) [] (start N vs) H s1 := by
  have hpl : ps.length ≤ N.length := by have := congrArg List.length S.pre; rw [List.length_take] at this; omega
  obtain ⟨h1, tk, rfl, hk⟩ := x.done
  have noA : ∀ b : Addr, b ∉ (cxOf CX P w K mg base N qual scope f cd A outer s H E).ex := fun b z => absurd (show b ∈ ([] : List Addr) from z) (by simp)
  refine ⟨⟨e0.mod, S.kind, rfl, rfl, Nat.le_refl _, fun y z c h1 h2 => ?_, fun y hy => ?_, fun y c _ h => ?_, fun _ => hd, Around.frames_deeper e0.frames, .inr ⟨rfl, rfl⟩, fun b z => absurd z (noA b), e0.bs, e0.bsz, fun b _ _ => noA b, fun b z => absurd z (noA b), e0.funs, e0.frf⟩,
    rfl, e0.bare, Un.kept hk, ⟨_, x.toInCall.ns, fun i y v h1 h2 h3 => ?_⟩, fun y c h => ⟨_, x.cell y c h⟩, e0.hok.fresh (Nat.le_refl _), fun y c h => ?_, fun p hp => absurd (show p ∈ ([] : List (Addr × Obj)) from hp) (by simp), e0.hok.kept hk, ?_⟩
  · exact name_of_addr x.apart (PySem.mem_of_lookup h1) (PySem.mem_of_lookup h2)
  · have hy : scope.names.lookup y = some .cell ∨ scope.names.lookup y = some .free := hy
    rcases hy with hy | hy
    · exact cell_has hy
    · exact absurd rfl (S.nofree _ (PySem.mem_of_lookup hy))
  · exact Nat.le_of_lt (x.above y c (PySem.mem_of_lookup h))
  · have hi : i < vs.length := by
      unfold start at h2
      by_cases hi : i < vs.length
      · exact hi
      · rw [List.getElem?_append_right (by simpa using hi)] at h2
        rw [List.getElem?_replicate] at h2
        split at h2 <;> cases h2
    have ha : vs[i]? = some v := by
      unfold start at h2
      rw [List.getElem?_append_left (by simpa using hi), List.getElem?_map] at h2
      cases e : vs[i]? with
      | none => rw [e] at h2; cases h2
      | some a => rw [e] at h2; cases h2; rfl
    obtain ⟨u, hu, rv⟩ := r.get ha
    have hp : ps[i]? = some y := by
      rw [← S.pre, List.getElem?_take_of_lt (by omega)]; exact h1
    have ndP : ps.Nodup := by rw [← S.pre]; exact S.nd.sublist (List.take_sublist _ _)
    refine ⟨u, rv, ?_⟩
    rcases S.par y (List.mem_of_getElem? hp) with k | k
    · exact .inl ⟨k, bindL_get ndP hp hu k⟩
    · obtain ⟨c, e⟩ := cell_has (n := s.heap.objs.size + 1) k
      refine .inr ⟨.inl k, c, e, ?_⟩
      have q := x.cell y c e
      rw [bindC_get ndP hp hu (by show scope.names.lookup y ≠ _; rw [k]; decide)] at q
      exact q
  · exact e0.hok.fresh (Nat.le_of_lt (x.above y c (PySem.mem_of_lookup h)))
  · unfold start
    show _ = N.length
    rw [List.length_append, List.length_map, List.length_replicate]
    omega

/-- THE RULE: a def (or a method) of the text, by its body. The body's reading t is chosen for each entry; it is run at the parameters' values -/
theorem fn_of {CX : CXT} {P : Program} {w : World} {K : PySem.W.Frag} {mg : Str → Option Value} {base : Heap} {k : Nat} {f : Addr} {name qual : Str} {params : Arguments} {body : List Stmt} {scope : Scope} {dV kV doc pm cdv ct oc : Value} {an od : Option Addr}
    {osl : Array (Option Value)} {N ps : List Str} {sp : Sp} (lk : K.lookup f = some ⟨oc, od, .func (PySem.W.fnOf name qual params body scope dV kV doc pm an cdv ct), osl⟩) (hcd : PySem.W.codeIn K cdv qual = true) (S : FnScope N ps scope)
    (len : ∀ vs H Q E, sp vs H Q E → vs.length = ps.length)
    (hbody : ∀ (A : Around) (outer : List Env) (s : Shared) (H : Hp) (vs : List V) (Q : VK) (E : XK), Room k (A.deeper (envOfC qual scope s.heap.objs.size f cdv)) → sp vs H Q E →
      ∃ t, PSs (cxOf CX P w K mg base N qual scope f cdv A outer s H E) body t ∧ t { nx := fun _ H' => Q .non H', rt := Q } (start N vs) H) :
    FnOk P w K mg base CX (k + 1) f (PySem.W.fnOf name qual params body scope dV kV doc pm an cdv ct) ps sp := by
  refine ⟨len, fun A outer s H args us vs Q E hr e0 hb r hsp => ?_⟩
  have hl := len _ _ _ _ hsp
  have KX : K.In s.heap := e0.mod.kin.keeps fun b o e => (e0.bs b o e).1
  have lim : s.heap.NoLimit := e0.mod.nolimit.keeps fun b o e => (e0.bs b o e).1
  have hkind : ∀ y ∈ ps.zip us, scope.names.lookup y.1 = some .local ∨ (scope.names.lookup y.1 = some .cell ∧ ((cellsFrom (s.heap.objs.size + 1) scope.names []).lookup y.1).isSome = true) := fun ⟨n, v⟩ hy => by
    rcases S.par n (List.of_mem_zip hy).1 with q | q
    · exact .inl q
    · exact .inr ⟨q, PySem.W.cellsFrom_some _ _ _ (.inl q)⟩
  refine codeAny_call_function hr.depth (KX _ _ lk) rfl S.co S.gen rfl (PySem.W.codeRec_of KX hcd) (hb _ _ _ _ ?_)
  refine wpAny_newFunctionEnv_cells S.kind hkind fun env he s1 x => ?_
  subst he
  refine ⟨lim.keeps x.toInCall.keep, codeAny_func ?_⟩
  obtain ⟨t, ht, hq⟩ := hbody A outer s H vs Q E (hr.deeper _) hsp
  have I : Inv (cxOf CX P w K mg base N qual scope f cdv A outer s H E) [] (start N vs) H s1 := inv_start S hr.hd e0 hl r x
  refine wpAny_mono (ht [] s1 (start N vs) H _ I hq) (fun fl s' hs => ?_) fun e s' hs => hs
  have fin : ∀ {σ' : St} {H' : Hp} {v : V} {u : Value}, Inv (cxOf CX P w K mg base N qual scope f cdv A outer s H E) [] σ' H' s' → RelV v u → Q v H' → CE outer P w H s Q u s' :=
    fun {σ' H' v u} J rv q => ⟨v, H', J.os, J.bare, J.base, J.hok, rv, q⟩
  cases fl with
  | ret u =>
    obtain ⟨v, σ', H', J, rv, q⟩ := hs
    exact fin J rv q
  | next =>
    obtain ⟨σ', H', J, q⟩ := hs
    exact fin (v := V.non) (u := Value.none) J rfl q
  | brk =>
    obtain ⟨_, _, _, q⟩ := hs
    exact False.elim q
  | cont =>
    obtain ⟨_, _, _, q⟩ := hs
    exact False.elim q
end L2

namespace L2
open PySem PySem.Spec PyProof.Rows
section
variable {X : Cx} {x : Str} {p pos : Pos} {e : Expr} {es : List Expr} {t : TA} {id T : String} {r : List V → Hp → VK → Prop}

def tCB (r : List V → Hp → VK → Prop) (t : TA) : TE := fun σ H Q => t σ H fun vs H1 => r vs H1 Q
/-- f(e, ..), f a built-in function -/
theorem pe_callB (hc : CallR X (.builtin id) r) (hg : Gl X x) (hm : X.mg x = none) (hv : bootBuiltins x = some (.builtin id)) (ha : PA X (e :: es) t) (hn : x ≠ "__name__" := by decide) (hdb : (x == ("__debug__" : Str)) = false := by decide)
    (he : starEach (e :: es) X.env = (false, eval e X.env) :: starEach es X.env := by rfl) (hpl : (backTo pos (starEach es X.env)).any (·.1) = false := by rfl) : PE X (.Call (.Name x p) (e :: es) [] pos) (tCB r t) := by
  intro pins s σ H Q I h
  refine wpAny_Call_Name_kw (ld_blt I hg hm hv ?_ hn hdb)
  exact PyProof.Rows.callWith_builtin1 (thn (ha pos pins s σ H _ I h) fun us s1 ⟨vs, H1, I1, r1, q1⟩ => hc pins s1 σ H1 vs us Q I1 r1 q1) he hpl
/-- T(e, ..), T a built-in type -/
theorem pe_callTy (hc : CallR X (.type T) r) (hg : Gl X x) (hm : X.mg x = none) (hv : bootBuiltins x = some (.type T)) (ha : PA X (e :: es) t) (hn : x ≠ "__name__" := by decide) (hdb : (x == ("__debug__" : Str)) = false := by decide)
    (he : starEach (e :: es) X.env = (false, eval e X.env) :: starEach es X.env := by rfl) (hpl : (backTo pos (starEach es X.env)).any (·.1) = false := by rfl) : PE X (.Call (.Name x p) (e :: es) [] pos) (tCB r t) := by
  intro pins s σ H Q I h
  refine wpAny_Call_Name_kw (ld_blt I hg hm hv ?_ hn hdb)
  exact PyProof.Rows.callWith_type1 (thn (ha pos pins s σ H _ I h) fun us s1 ⟨vs, H1, I1, r1, q1⟩ => hc pins s1 σ H1 vs us Q I1 r1 q1) he hpl
end
end L2

namespace HT
open PySem PyProof.Rows

/-- t < u of tuples of ints -/
def lexLt : List Int → List Int → Bool
  | [], [] => false
  | [], _ :: _ => true
  | _ :: _, [] => false
  | x :: xs, y :: ys => if x = y then lexLt xs ys else decide (x < y)
theorem lexLt_cons (x y : Int) (xs ys : List Int) : lexLt (x :: xs) (y :: ys) = if x = y then lexLt xs ys else decide (x < y) := rfl
theorem eqAt_int (A : Around) (s : Shared) (a : Int) (t : Tok) (c : Int) (u : Tok) : ∃ e, SeqAt.EqAt A s (.int a t) (.int c u) e ∧ (e = true ↔ a = c) :=
  ⟨(a == c), SeqAt.EqAt.int_int a t c u, by simp⟩
theorem rcLt_int (A : Around) (s : Shared) (a : Int) (t : Tok) (c : Int) (u : Tok) (prog : Program) (w : World) (E : Value → Shared → Prop) (Q : Value → Shared → Prop) (h : Q (.bool (decide (a < c))) s) :
    wpAny (model prog w) A (richCompare .Lt (.int a t) (.int c u)) Q E s :=
  (PyProof.Rows.lt_int h : wpAny (model prog w) A (compareOp .Lt (.int a t) (.int c u)) Q E s)

section
open PySem.SeqAt
open PySem.AutoSeq1 (wpAny_loadPart')
open PySem.MeetsSeq PySem.MeetsSeq2 PySem.MeetsSeq3

end

section
variable {prog : Program} {w : World} {A : Around} {E : Value → Shared → Prop} {s : Shared}

/-! ### t[a:b], not the whole -/
/-- a slice's bound as a place among n (d where it is left out) -/
def sIx (n d : Nat) : Option Int → Nat
  | none => d
  | some v => if v < 0 then (v + (n : Int)).toNat else min v.toNat n
theorem sIx_none (n d : Nat) : sIx n d none = d := rfl
theorem sIx_nat (n d k : Nat) : sIx n d (some (k : Int)) = min k n := by
  show (if (k : Int) < 0 then ((k : Int) + (n : Int)).toNat else min (k : Int).toNat n) = min k n
  rw [if_neg (by omega), Int.toNat_natCast]
end
end HT

namespace L2
open PySem PySem.Spec PyProof.Rows

/-! ### the parts of a slice -/
abbrev TO := St → Hp → (Option Int → Hp → Prop) → Prop
/-- a slice's part (left out, or an int) -/
def PO (X : Cx) (e : Option Expr) (t : TO) : Prop :=
  ∀ (pins : List (Addr × Obj)) (s : Shared) (σ : St) (H : Hp) (Q : Option Int → Hp → Prop), Inv X pins σ H s → t σ H Q →
    wpAny (model X.prog X.w) X.A (evalPart e X.env) (fun u s' => ∃ o H', Inv X pins σ H' s' ∧ IsPart u o ∧ Q o H') X.xe s
def tNoPart : TO := fun _ H Q => Q none H
def tPart (t : TE) : TO := fun σ H Q => t σ H fun x H1 => ∃ i, x = .int i ∧ Q (some i) H1

theorem intsAre_of {ns : List Int} : ∀ {us : List Value}, Vals (ns.map V.int) us → IntsAre us ns := by
  induction ns with
  | nil => intro us r; rw [List.map_nil] at r; cases r; exact .nil
  | cons n ns ih =>
    intro us r
    rw [List.map_cons] at r
    cases r with
    | cons r1 r2 =>
      obtain ⟨t, e⟩ := r1
      subst e
      exact .cons n t (ih r2)

section
variable {X : Cx} {e : Expr} {te : TE} {lo hi : Option Expr} {tl th : TO} {pos p2 : Pos}

theorem po_none : PO X none tNoPart := by
  intro pins s σ H Q I h
  rw [evalPart_none]
  exact wpAny_pure ⟨none, H, I, .none, h⟩
theorem po_some (h : PE X e te) : PO X (some e) (tPart te) := by
  intro pins s σ H Q I hw
  rw [evalPart_some]
  refine thn (h pins s σ H _ I hw) fun u s1 ⟨x, H1, I1, r1, q1⟩ => ?_
  obtain ⟨i, rfl, q⟩ := q1
  obtain ⟨t, rfl⟩ := r1
  exact ⟨some i, H1, I1, .int i t, q⟩

/-- what a slice of a value is, by values: the slice object stands at sl -/
def SlR (X : Cx) (r : V → Option Int → Option Int → Hp → VK → Prop) : Prop :=
  ∀ (pins : List (Addr × Obj)) (s : Shared) (σ : St) (H : Hp) (x : V) (v vl vu : Value) (lo hi : Option Int) (sl : Addr) (Q : VK), Inv X pins σ H s → RelV x v → s.heap.IsSliceOf sl vl vu .none → IsPart vl lo → IsPart vu hi → r x lo hi H Q →
    ∃ T id, typeLookup (.type T) "__getitem__" = pure (some (.builtin id)) ∧ s.TypeIs v T ∧ wpAny (model X.prog X.w) X.A (getItem v (.ref sl)) (EP X pins σ Q) X.xe s
def tSl (r : V → Option Int → Option Int → Hp → VK → Prop) (te : TE) (tl th : TO) : TE := fun σ H Q => te σ H fun x H1 => tl σ H1 fun l H2 => th σ H2 fun u H3 => r x l u H3 Q
/-- a[lo:hi], any a -/
theorem pe_slice {r : V → Option Int → Option Int → Hp → VK → Prop} (hr : SlR X r) (he : PE X e te) (hl : PO X lo tl) (hu : PO X hi th) : PE X (.Subscript e (.Slice lo hi none p2) pos) (tSl r te tl th) := by
  intro pins s σ H Q I h
  refine Subscript_ (thn (he pins s σ H _ I h) fun v s1 ⟨x, H1, I1, r1, q1⟩ => ?_)
  refine wpAny_Slice (thn (hl pins s1 σ H1 _ I1 q1) fun vl s2 ⟨l, H2, I2, pl, q2⟩ => thn (hu pins s2 σ H2 _ I2 q2) fun vu s3 ⟨u, H3, I3, pu, q3⟩ => ?_)
  rw [evalPart_none]
  refine wpAny_pure ?_
  have I4 : Inv X pins σ H3 { s3 with heap := s3.heap.push { cls := .type "slice", data := .fields #[vl, vu, .none] } } := I3.kept (t' := s3.toks) fun b ob q => Heap.get?_push_of_some _ q
  obtain ⟨T, id, hT, ht, hg⟩ := hr pins { s3 with heap := s3.heap.push { cls := .type "slice", data := .fields #[vl, vu, .none] } } σ H3 x v vl vu l u s3.heap.objs.size Q I4 r1 (Heap.IsSliceOf.new ..) pl pu q3
  show wpAny (model X.prog X.w) X.A (subscriptTail e (.Slice lo hi none p2) v (.ref s3.heap.objs.size)) (EP X pins σ Q) X.xe { s3 with heap := s3.heap.push { cls := .type "slice", data := .fields #[vl, vu, .none] } }
  exact tail_any (ops := [.ref s3.heap.objs.size, v]) ht hT hg (by with_unfolding_all rfl)

/-- the items of xs[lo:hi] -/
def cutV (xs : List V) (lo hi : Option Int) : List V := (xs.drop (HT.sIx xs.length 0 lo)).take (HT.sIx xs.length xs.length hi - HT.sIx xs.length 0 lo)
theorem cutV_length (xs : List V) (lo hi : Option Int) : (cutV xs lo hi).length ≤ xs.length := by
  unfold cutV
  rw [List.length_take, List.length_drop]
  omega
/-- t[lo:hi], not the whole of it (the whole would be t itself) -/
def rSlT (K : PySem.W.Frag) : V → Option Int → Option Int → Hp → VK → Prop := fun x lo hi H Q => ∃ a xs, x = .ref a ∧ SqT K H a xs ∧
  ¬ (HT.sIx xs.length 0 lo = 0 ∧ HT.sIx xs.length xs.length hi = xs.length) ∧ ∀ p, H p = none → Q (.ref p) (upd H p (.tup (cutV xs lo hi)))
/-! ### t < u, t + u -/
def rLtT (K : PySem.W.Frag) : R2 := fun x y H Q => ∃ a b ns ms, x = .ref a ∧ y = .ref b ∧ SqT K H a (ns.map V.int) ∧ SqT K H b (ms.map V.int) ∧ Q (.bl (HT.lexLt ns ms)) H
/-- t + u, t not empty: u empty gives t itself -/
def rCatT (K : PySem.W.Frag) : R2 := fun x y H Q => ∃ a b xs ys, x = .ref a ∧ y = .ref b ∧ SqT K H a xs ∧ SqT K H b ys ∧ xs ≠ [] ∧ xs.length + ys.length ≤ sizeLine ∧
  (ys = [] → Q (.ref a) H) ∧ (ys ≠ [] → ∀ p, H p = none → Q (.ref p) (upd H p (.tup (xs ++ ys))))
end
end L2

namespace L2
open PySem PySem.Spec PyProof.Rows

/-! ### places -/
/-- the place that an index of any sign means -/
def ixN (n : Nat) (i : Int) : Option Nat := if 0 ≤ i then (if i < n then some i.toNat else none) else if -(n : Int) ≤ i then some (i + n).toNat else none
def atI {α : Type} (xs : List α) (i : Int) : Option α := (ixN xs.length i).bind fun j => xs[j]?
theorem ixN_seq {n : Nat} {i : Int} {j : Nat} (h : ixN n i = some j) : seqIndex? i n = some j ∧ j < n ∧ -(n : Int) ≤ i ∧ i < n := by
  unfold ixN at h
  by_cases h0 : 0 ≤ i
  · rw [if_pos h0] at h
    by_cases h1 : i < n
    · rw [if_pos h1] at h
      have e : i.toNat = j := Option.some.inj h
      exact ⟨by rw [seqIndex_of h0 h1, e], by omega, by omega, h1⟩
    · rw [if_neg h1] at h; cases h
  · rw [if_neg h0] at h
    by_cases h1 : -(n : Int) ≤ i
    · rw [if_pos h1] at h
      have e : (i + n).toNat = j := Option.some.inj h
      exact ⟨by rw [seqIndex_neg (by omega) h1, e], by omega, h1, by omega⟩
    · rw [if_neg h1] at h; cases h
theorem atI_get {α : Type} {xs : List α} {i : Int} {v : α} (h : atI xs i = some v) : ∃ j, seqIndex? i xs.length = some j ∧ xs[j]? = some v ∧ j < xs.length ∧ -(xs.length : Int) ≤ i ∧ i < xs.length := by
  unfold atI at h
  cases e : ixN xs.length i with
  | none => rw [e] at h; cases h
  | some j =>
    rw [e] at h
    obtain ⟨h1, h2, h3, h4⟩ := ixN_seq e
    exact ⟨j, h1, h, h2, h3, h4⟩
theorem atI_nat {α : Type} {xs : List α} {j : Nat} {v : α} (h : xs[j]? = some v) : atI xs (j : Int) = some v := by
  have hj : j < xs.length := (List.getElem?_eq_some_iff.mp h).1
  have e : ixN xs.length (j : Int) = some j := by
    unfold ixN
    rw [if_pos (by omega), if_pos (by omega)]; simp
  unfold atI; rw [e]; exact h
/-! ### what may be subscripted -/
/-- what stands as an index of a plain subscript -/
def PlainIx (b : Expr) : Prop := ∀ o i, subscripted b false o i = operate [o, i] (getItem o i)
/-- a subscript by values -/
def IxR (X : Cx) (r : R2) : Prop :=
  ∀ (value slice : Expr) (pins : List (Addr × Obj)) (s : Shared) (σ : St) (H : Hp) (x y : V) (v u : Value) (Q : VK), Inv X pins σ H s → RelV x v → RelV y u → r x y H Q →
    subscripted slice false v u = operate [v, u] (getItem v u) → wpAny (model X.prog X.w) X.A (subscriptTail value slice v u) (EP X pins σ Q) X.xe s
/-- a call of a builtin's method by values: the receiver, the arguments -/
def MtR (X : Cx) (id : String) (r : V → List V → Hp → VK → Prop) : Prop :=
  ∀ (pins : List (Addr × Obj)) (s : Shared) (σ : St) (H : Hp) (x : V) (xs : List V) (v : Value) (us : List Value) (Q : VK), Inv X pins σ H s → RelV x v → Vals xs us → r x xs H Q →
    wpAny (model X.prog X.w) X.A (call (.builtin id) (v :: us)) (EP X pins σ Q) X.xe s
section
variable {X : Cx} {a b : Expr} {ta tb : TE} {pos : Pos}
/-- a[b] -/
theorem pe_ix {r : R2} (hr : IxR X r) (ha : PE X a ta) (hb : PE X b tb) (hs : PlainIx b) : PE X (.Subscript a b pos) (tOp r ta tb) := by
  intro pins s σ H Q I h
  exact Subscript_ (binT ha hb I h fun v u s2 x y H2 I2 rx ry q => hr a b pins s2 σ H2 x y v u Q I2 rx ry q (hs _ _))

def rIxL (K : PySem.W.Frag) : R2 := fun x y H Q => ∃ p xs i v, x = .ref p ∧ y = .int i ∧ SqL K H p xs ∧ atI xs i = some v ∧ Q v H
def rIxT (K : PySem.W.Frag) : R2 := fun x y H Q => ∃ p xs i v, x = .ref p ∧ y = .int i ∧ SqT K H p xs ∧ atI xs i = some v ∧ Q v H
def rIxS : R2 := fun x y H Q => ∃ z i c, x = .str z ∧ y = .int i ∧ z.length ≤ sizeLine ∧ atI z.cps.toList i = some c ∧ Q (.str ⟨#[c]⟩) H
theorem ix_list : IxR X (rIxL X.K) := by
  intro value slice pins s σ H x y v u Q I rx ry h hs
  obtain ⟨p, xs, i, z, rfl, rfl, hq, he, q⟩ := h
  cases rx
  obtain ⟨t, rfl⟩ := ry
  obtain ⟨its, r, pl, hz⟩ := I.list hq
  obtain ⟨j, h1, h2, h3, h4, h5⟩ := atI_get he
  obtain ⟨w, ew, rw'⟩ := r.get h2
  have hl := r.length
  have hn := line63
  have fin : EP X pins σ Q w s := ⟨z, H, I, rw', q⟩
  by_cases h0 : 0 ≤ i
  · have hj : i.toNat = j := by
      rw [seqIndex_of h0 h5] at h1
      exact Option.some.inj h1
    exact item_listR pl.isList h0 (by omega) (by rw [hj]; simpa using ew) fin hs
  · have hj : (i + (its.toArray.size : Int)).toNat = j := by
      rw [seqIndex_neg (by omega) h4] at h1
      rw [List.size_toArray, ← hl]
      exact Option.some.inj h1
    exact subscriptTail_builtinR (x := w) pl.isList.typeIs slot_list_getitem.lookup
      (wpAny_getItem_list_neg (Q := fun r s' => r = w ∧ EP X pins σ Q r s') pl.isList (by omega) (by rw [List.size_toArray] <;> omega) (by omega) (by rw [hj]; simpa using ew) ⟨rfl, fin⟩) hs
theorem ix_tup : IxR X (rIxT X.K) := by
  intro value slice pins s σ H x y v u Q I rx ry h hs
  obtain ⟨p, xs, i, z, rfl, rfl, hq, he, q⟩ := h
  cases rx
  obtain ⟨t, rfl⟩ := ry
  obtain ⟨its, r, pl, hz⟩ := I.tuple hq
  obtain ⟨j, h1, h2, h3, h4, h5⟩ := atI_get he
  obtain ⟨w, ew, rw'⟩ := r.get h2
  have hl := r.length
  have hn := line63
  have fin : EP X pins σ Q w s := ⟨z, H, I, rw', q⟩
  exact subscriptTail_builtinR (x := w) pl.typeIs slot_tuple_getitem.lookup
    (getItem_tuple (j := j) (Q := fun r s' => r = w ∧ EP X pins σ Q r s') pl (by omega) (by omega) (by rw [List.size_toArray, ← hl]; exact h1) (by simpa using ew) ⟨rfl, fin⟩) hs
/-- list, tuple or str -/
def rIx (K : PySem.W.Frag) : R2 := fun x y H Q => rIxL K x y H Q ∨ rIxT K x y H Q ∨ rIxS x y H Q
/-! ### xs[i] = v, any sign -/
/-- the list's object behind a store -/
theorem mapSeq_set (its : List Value) (n j : Nat) (u : Value) : Obj.mapSeq (·.setIfInBounds j u) { cls := .type "list", data := .seq its.toArray n } = { cls := .type "list", data := .seq (its.set j u).toArray n } := by
  simp [Obj.mapSeq]
theorem Inv.lst {pins : List (Addr × Obj)} {σ : St} {H : Hp} {s : Shared} {p : Addr} {xs : List V} (I : Inv X pins σ H s) (h : H p = some (.lst xs)) :
    ∃ (its : List Value) (n : Nat), Vals xs its ∧ s.heap.get? p = some { cls := .type "list", data := .seq its.toArray n } ∧ xs.length ≤ sizeLine := by
  obtain ⟨z, its, n, r, e⟩ := I.hok p _ h
  exact ⟨its, n, r, e, z⟩
/-- the list at p is written by an update of its object -/
theorem Inv.lstUpd {pins : List (Addr × Obj)} {σ : St} {H : Hp} {s : Shared} {p : Addr} {xs ys : List V} {its its' : List Value} {n n' : Nat} {f : Obj → Obj} (I : Inv X pins σ H s) (h : H p = some (.lst xs))
    (ho : s.heap.get? p = some { cls := .type "list", data := .seq its.toArray n }) (hf : f { cls := .type "list", data := .seq its.toArray n } = { cls := .type "list", data := .seq its'.toArray n' }) (r : Vals ys its') (hz : ys.length ≤ sizeLine) (t : Nat) :
    Inv X pins σ (upd H p (.lst ys)) { s with heap := s.heap.update p f, toks := t } := by
  have e : (s.heap.update p f).get? p = some { cls := .type "list", data := .seq its'.toArray n' } := by
    rw [Heap.get?_update_self f ho (by rw [hf] <;> rfl), hf]
  refine I.write (x := p) (e := p) (by rw [h]; trivial) (.inl rfl) (fun b u hb q => (Heap.get?_update_other _ _ (Ne.symm hb)).trans q) ⟨_, e⟩ ?_
  exact ⟨hz, its', n', r, e⟩
def rSetL : V → V → V → Hp → (Hp → Prop) → Prop := fun o i v H Q => ∃ p xs k j, o = .ref p ∧ i = .int k ∧ H p = some (.lst xs) ∧ ixN xs.length k = some j ∧ Q (upd H p (.lst (xs.set j v)))
theorem set_list : PSet X rSetL := by
  intro pins s σ H o i v ov iv u Q I ro ri rv h
  obtain ⟨p, xs, k, j, rfl, rfl, hp, hj, q⟩ := h
  cases ro
  obtain ⟨t, rfl⟩ := ri
  obtain ⟨its, n, r, ho, hz⟩ := I.lst hp
  obtain ⟨h1, h2, h3, h4⟩ := ixN_seq hj
  have hl := r.length
  have hn := line63
  have I' : Inv X pins σ (upd H p (.lst (xs.set j v))) { s with heap := s.heap.update p (Obj.mapSeq (·.setIfInBounds j u)) } :=
    I.lstUpd hp ho (mapSeq_set its n j u) (r.set rv j) (by rw [List.length_set]; exact hz) s.toks
  by_cases h0 : 0 ≤ k
  · have hk : k.toNat = j := by
      rw [seqIndex_of h0 h4] at h1
      exact Option.some.inj h1
    exact PySem.W.ki_setAt ho h0 (by omega) (by rw [List.size_toArray, ← hl]; exact h4) (by rw [hk]; exact ⟨_, I', q⟩)
  · have hk : (k + (its.toArray.size : Int)).toNat = j := by
      rw [seqIndex_neg (by omega) h3] at h1
      rw [List.size_toArray, ← hl]
      exact Option.some.inj h1
    exact PySem.W.ki_setBack ho (by omega) (by rw [List.size_toArray, ← hl]; exact h3) (by omega) (by rw [hk]; exact ⟨_, I', q⟩)

/-! ### slices -/
theorem slice_bounds (lo hi : Option Int) (n : Nat) : (sliceBounds lo hi none n).1 = ((HT.sIx n 0 lo : Nat) : Int) ∧ (sliceBounds lo hi none n).2.1 = ((HT.sIx n n hi : Nat) : Int) ∧ (sliceBounds lo hi none n).2.2 = 1 := by
  refine ⟨?_, ?_, rfl⟩
  · cases lo with
    | none => simp [sliceBounds, HT.sIx]
    | some i =>
      simp only [sliceBounds, HT.sIx, Option.getD_none, show (1 : Int) > 0 by decide, if_true]
      by_cases h : i < 0
      · simp only [h, if_true] <;> omega
      · simp only [h, if_false] <;> omega
  · cases hi with
    | none => simp [sliceBounds, HT.sIx]
    | some i =>
      simp only [sliceBounds, HT.sIx, Option.getD_none, show (1 : Int) > 0 by decide, if_true]
      by_cases h : i < 0
      · simp only [h, if_true] <;> omega
      · simp only [h, if_false] <;> omega
theorem slicePick_cut (its : List Value) (lo hi : Option Int) : slicePick its.toArray lo hi none = ((its.drop (HT.sIx its.length 0 lo)).take (HT.sIx its.length its.length hi - HT.sIx its.length 0 lo)).toArray := by
  obtain ⟨h1, h2, h3⟩ := slice_bounds lo hi its.toArray.size
  unfold slicePick
  rw [h1, h2, h3]
  simp only [sliceRange_one, pick_run, List.size_toArray] <;> rfl
/-- xs[lo:hi] of a list: a new list -/
def rSlL (K : PySem.W.Frag) : V → Option Int → Option Int → Hp → VK → Prop := fun x lo hi H Q => ∃ a xs, x = .ref a ∧ SqL K H a xs ∧ ∀ p, H p = none → Q (.ref p) (upd H p (.lst (cutV xs lo hi)))
theorem sl_list : SlR X (rSlL X.K) := by
  intro pins s σ H x v vl vu lo hi sl Q I rx hs pl pu h
  obtain ⟨a, xs, rfl, hx, q⟩ := h
  cases rx
  obtain ⟨its, r, ht, hz⟩ := I.list hx
  have hlen := r.length
  refine ⟨"list", _, slot_list_getitem.lookup, ht.isList.typeIs, ?_⟩
  refine wpAny_getItem_list_slice ht.isList hs pl pu .none (by simp) ?_ (by rw [List.size_toArray] <;> omega)
  rw [slicePick_cut, ← hlen]
  refine ⟨.ref s.heap.objs.size, _, I.laid (t' := s.toks) (o := .lst (cutV xs lo hi)) (fun b ob q => Heap.get?_push_of_some _ q) (Nat.le_refl _) ?_, rfl, q _ (I.hok.fresh (Nat.le_refl _))⟩
  exact ⟨Nat.le_trans (cutV_length xs lo hi) hz, _, 0, (r.drop (HT.sIx xs.length 0 lo)).take (HT.sIx xs.length xs.length hi - HT.sIx xs.length 0 lo), Heap.get?_push_size _ rfl⟩

/-! ### in, not in: flat items -/
def flatV : V → Bool
  | .non => true
  | .bl _ => true
  | .int _ => true
  | .str _ => true
  | _ => false
/-- == of flat values -/
def eqV : V → V → Bool
  | .non, .non => true
  | .bl a, .bl b => a == b
  | .bl a, .int b => (if a then 1 else 0) == b
  | .int a, .bl b => a == (if b then 1 else 0)
  | .int a, .int b => a == b
  | .str a, .str b => a == b
  | _, _ => false
/-- the items' answers, read off the values (a value's own answer does not lean on its token) -/
def eqU (x : V) (u : Value) : Bool := match u with
  | .none => eqV .non x
  | .bool b => eqV (.bl b) x
  | .int i _ => eqV (.int i) x
  | .str z _ => eqV (.str z) x
  | _ => false
def inV (x : V) (xs : List V) : Bool := xs.any fun y => eqV y x
/-- x in a list or tuple of flat items -/
def rIn (K : PySem.W.Frag) (neg : Bool) : R2 := fun x y H Q => ∃ p xs, y = .ref p ∧ (SqL K H p xs ∨ SqT K H p xs) ∧ flatV x = true ∧ xs.all flatV = true ∧ Q (.bl (if neg then !inV x xs else inV x xs)) H
/-! ### len, list(x), tuple(x) of any list or tuple that is read -/
theorem call_len_seq : CallR X (.builtin "len") (fun xs H Q => ∃ p ys, xs = [.ref p] ∧ (SqL X.K H p ys ∨ SqT X.K H p ys) ∧ Q (.int ys.length) H) := by
  intro pins s σ H xs us Q I r h
  obtain ⟨p, ys, rfl, hq, q⟩ := h
  obtain ⟨u, rfl, rx⟩ := vals1 r
  cases rx
  have hn := line63
  rcases hq with hq | hq
  · obtain ⟨its, r', pl, hz⟩ := I.list hq
    have hlen := r'.length
    exact Calls.call_len_list pl.isList (by simp only [List.size_toArray] <;> omega) ⟨.int ys.length, H, I.tok _, ⟨s.toks + 1, by rw [List.size_toArray, hlen]⟩, q⟩
  · obtain ⟨its, r', pl, hz⟩ := I.tuple hq
    have hlen := r'.length
    exact len_tuple pl (by simp only [List.size_toArray] <;> omega) ⟨.int ys.length, H, I.tok _, ⟨s.toks + 1, by rw [List.size_toArray, hlen]⟩, q⟩
theorem call_list_of : CallR X (.type "list") (fun xs H Q => ∃ p ys, xs = [.ref p] ∧ (SqL X.K H p ys ∨ SqT X.K H p ys) ∧ ∀ l, H l = none → Q (.ref l) (upd H l (.lst ys))) := by
  intro pins s σ H xs us Q I r h
  obtain ⟨p, ys, rfl, hq, q⟩ := h
  obtain ⟨u, rfl, rx⟩ := vals1 r
  cases rx
  have fin : ∀ (its : List Value), Vals ys its → ys.length ≤ sizeLine → ∀ (h' : Heap) (c' : Nat), (∀ b o', s.heap.get? b = some o' → h'.get? b = some o') →
      h'.get? s.heap.objs.size = some { cls := .type "list", dict := none, data := .seq its.toArray c', slots := #[] } → EP X pins σ Q (.ref s.heap.objs.size) { s with heap := h' } := fun its r' hz h' c' kp e =>
    ⟨.ref s.heap.objs.size, _, I.laid (t' := s.toks) kp (Nat.le_refl _) (show ObjOk X.prog X.w _ h' _ (.lst ys) from ⟨hz, its, c', r', e⟩), rfl, q _ (I.hok.fresh (Nat.le_refl _))⟩
  rcases hq with hq | hq
  · obtain ⟨its, r', pl, hz⟩ := I.list hq
    have hlen := r'.length
    obtain ⟨o, ho, hc, n, hd⟩ := pl.isList
    exact call_list_seq p (.inl rfl) ho hc hd (fun h' c' kp e => fin its r' hz h' c' kp e) (by simp only [List.size_toArray] <;> omega)
  · obtain ⟨its, r', pl, hz⟩ := I.tuple hq
    have hlen := r'.length
    obtain ⟨o, ho, hc, n, hd⟩ := pl
    exact call_list_seq p (.inr rfl) ho hc hd (fun h' c' kp e => fin its r' hz h' c' kp e) (by simp only [List.size_toArray] <;> omega)
/-! ### the call of a builtin's method: o.m(..) -/
/-- the value is of that builtin type -/
def tyV (K : PySem.W.Frag) (T : String) (x : V) (H : Hp) : Prop := match x with
  | .str _ => T = "str"
  | .int _ => T = "int"
  | .ref p => (T = "list" ∧ ∃ xs, SqL K H p xs) ∨ (T = "tuple" ∧ ∃ o, K.lookup p = some o ∧ o.cls = .type "tuple" ∧ o.dict = none) ∨
      (T = "dict" ∧ ((∃ kvs, H p = some (.dK kvs)) ∨ ∃ kvs, H p = some (.dT kvs))) ∨ (T = "set" ∧ ∃ S n, H p = some (.set S n))
  | _ => False
theorem tyV_is {pins : List (Addr × Obj)} {σ : St} {H : Hp} {s : Shared} {T : String} {x : V} {v : Value} (I : Inv X pins σ H s) (r : RelV x v) (ty : tyV X.K T x H) :
    s.TypeIs v T ∧ ∀ a, v = .ref a → ∃ ob, s.heap.get? a = some ob ∧ ob.dict = none := by
  cases x with
  | str z =>
    obtain ⟨t, rfl⟩ := r
    cases (show T = "str" from ty)
    exact ⟨typeIs_str s z t, fun _ e => nomatch e⟩
  | int i =>
    obtain ⟨t, rfl⟩ := r
    cases (show T = "int" from ty)
    exact ⟨typeIs_int s i t, fun _ e => nomatch e⟩
  | ref p =>
    cases r
    rcases ty with ⟨rfl, xs, hq⟩ | ⟨rfl, o, hk, hc, hd⟩ | ⟨rfl, hk⟩ | ⟨rfl, S, n, hk⟩
    · obtain ⟨its, _, pl, _⟩ := I.list hq
      refine ⟨pl.isList.typeIs, fun a e => ?_⟩
      cases e
      obtain ⟨o, n, e, c, hd, _⟩ := pl
      exact ⟨o, e, hd⟩
    · refine ⟨⟨o, I.kIn p o hk, hc⟩, fun a e => ?_⟩
      cases e
      exact ⟨o, I.kIn _ o hk, hd⟩
    · have z : ∃ o, s.heap.get? p = some o ∧ o.ExactDict := by
        rcases hk with ⟨kvs, hk⟩ | ⟨kvs, hk⟩
        · obtain ⟨_, _, _, _, o, _, _, e, ex, _⟩ := I.hok p _ hk
          exact ⟨o, e, ex⟩
        · obtain ⟨_, _, _, _, o, _, _, e, ex, _⟩ := I.hok p _ hk
          exact ⟨o, e, ex⟩
      obtain ⟨o, e, ex⟩ := z
      refine ⟨⟨o, e, ex.1⟩, fun a e2 => ?_⟩
      cases e2
      exact ⟨o, e, ex.2.1⟩
    · obtain ⟨o, _, _, _, e, ex, _⟩ := I.hok p _ hk
      refine ⟨⟨o, e, ex.1⟩, fun a e2 => ?_⟩
      cases e2
      exact ⟨o, e, ex.2.1⟩
  | _ => exact False.elim ty
def tBM0 (K : PySem.W.Frag) (T : String) (r : V → List V → Hp → VK → Prop) (to : TE) : TE := fun σ H Q => to σ H fun x H1 => tyV K T x H1 ∧ r x [] H1 Q
def tBM (K : PySem.W.Frag) (T : String) (r : V → List V → Hp → VK → Prop) (to : TE) (t : TA) : TE := fun σ H Q => to σ H fun x H1 => tyV K T x H1 ∧ t σ H1 fun xs H2 => r x xs H2 Q
variable {o e : Expr} {es : List Expr} {to : TE} {t : TA} {name : Str} {apos cpos : Pos} {T id : String} {r : V → List V → Hp → VK → Prop}
theorem pe_bm (pa : PlainAttrs T) (slot : Slot T name id) (hty : typeOf (.builtin id) = pure (.type "method_descriptor")) (hm : MtR X id r) (ho : PE X o to) (ha : PA X (e :: es) t)
    (hbase : attributeBase o name X.env (eval o X.env) = eval o X.env := by rfl)
    (hfew : ((backTo cpos (starEach (e :: es) X.env)).all (fun x => !x.1) && (backToKw cpos (keywordEach [] X.env)).all (fun x => x.1.isSome)
      && decide ((e :: es).length + ([] : List Keyword).length + (if ([] : List Keyword).isEmpty then 0 else 1) < 30)) = true := by rfl)
    (hline : (apos.endLine == cpos.line) = true := by rfl) (hs : starEach (e :: es) X.env = (false, eval e X.env) :: starEach es X.env := by rfl) (hplain : (backTo cpos (starEach es X.env)).any (·.1) = false := by rfl) :
    PE X (.Call (.Attribute o name apos) (e :: es) [] cpos) (tBM X.K T r to t) := by
  intro pins s σ H Q I h
  refine wpAny_Call_method_late hbase hfew hline rfl (thn (ho pins s σ H _ I h) fun v s1 ⟨x, H1, I1, r1, ty, q1⟩ => ?_)
  obtain ⟨h1, h2⟩ := tyV_is I1 r1 ty
  refine ⟨T, id, pa, slot, hty, h1, h2, ?_⟩
  have hA := ha cpos pins s1 σ H1 _ I1 q1
  rw [hs] at hA ⊢
  refine Calls.callWith_builtin (by show (false || (backTo cpos (starEach es X.env)).any (·.1)) = false; rw [hplain] <;> rfl) (Calls.evalArgs_plain ?_)
  exact thn hA fun us s2 ⟨vs, H2, I2, r2, q2⟩ => hm pins s2 σ H2 x vs v us Q I2 r1 r2 q2
/- xs.append(e), list.index on a module's tuple .. are MtR facts of 06m -/
end
end L2

namespace L2
open PySem PySem.Spec PyProof.Rows

def MtM (X : Cx) (id : String) (r : V → List V → Hp → VK → Prop) : Prop :=
  ∀ (pins : List (Addr × Obj)) (s : Shared) (σ : St) (H : Hp) (x : V) (xs : List V) (v : Value) (us : List Value) (Q : VK), Inv X pins σ H s → RelV x v → Vals xs us → r x xs H Q →
    wpAny (model X.prog X.w) X.A (call (.builtin id) (v :: us)) (EP X pins σ Q) X.xe s

/-! ### lists of values -/
theorem Vals.one : ∀ {x : V} {us : List Value}, Vals [x] us → ∃ u, us = [u] ∧ RelV x u
  | _, _, .cons r .nil => ⟨_, rfl, r⟩
section
variable {X : Cx} {pins : List (Addr × Obj)} {σ : St} {H : Hp} {s : Shared} {l b : Addr} {xs ys zs : List V}

/-! ### the two steps: a tracked list is rewritten, a new list is laid -/
theorem Inv.lset {its its' : List Value} {n : Nat} {f : Array Value → Array Value} {t' : Nat} (I : Inv X pins σ H s) (hH : H l = some (.lst xs))
    (e : s.heap.get? l = some { cls := .type "list", data := .seq its.toArray n }) (hf : f its.toArray = its'.toArray) (hv : Vals ys its') (hz : ys.length ≤ sizeLine) :
    Inv X pins σ (upd H l (.lst ys)) { s with heap := s.heap.update l (Obj.mapSeq f), toks := t' } := by
  have q := PySem.IsL.update e f
  rw [hf] at q
  refine I.write (x := l) (e := l) (by rw [hH]; exact trivial) (.inl rfl) (fun b' u hb hu => (Heap.get?_update_other s.heap (Obj.mapSeq f) (Ne.symm hb)).trans hu) ⟨_, q⟩ ?_
  exact ⟨hz, its', _, hv, q⟩
theorem Inv.lnew {its : List Value} {t' : Nat} (I : Inv X pins σ H s) (hv : Vals ys its) (hz : ys.length ≤ sizeLine) :
    Inv X pins σ (upd H s.heap.objs.size (.lst ys)) { s with heap := s.heap.push { cls := .type "list", data := .seq its.toArray }, toks := t' } :=
  I.laid (fun _ _ q => Heap.get?_push_of_some _ q) (Nat.le_refl _) ⟨hz, its, 0, hv, Heap.get?_push_size _ rfl⟩
theorem Inv.fresh (I : Inv X pins σ H s) : H s.heap.objs.size = none := I.hok.fresh (Nat.le_refl _)
theorem Inv.lstM (I : Inv X pins σ H s) (hH : H l = some (.lst xs)) : xs.length ≤ sizeLine ∧ ∃ (its : List Value) (n : Nat), Vals xs its ∧ xs.length = its.length ∧ s.heap.get? l = some { cls := .type "list", data := .seq its.toArray n } := by
  obtain ⟨z, its, n, r, e⟩ := I.hok l _ hH
  exact ⟨z, its, n, r, r.length, e⟩

theorem notLongL {n : Nat} (h : n ≤ sizeLine) : Builtin.List.listTooLong n = false := by
  unfold Builtin.List.listTooLong
  exact decide_eq_false (by omega)
end

section
variable {X : Cx}

/-! ### methods -/
def rAppend : V → List V → Hp → VK → Prop := fun x vs H Q => ∃ l xs y, x = .ref l ∧ vs = [y] ∧ H l = some (.lst xs) ∧ xs.length < sizeLine ∧ Q .non (upd H l (.lst (xs ++ [y])))
theorem mt_append : MtM X "list.append" rAppend := by
  intro pins s σ H x vs v us Q I rx rv h
  obtain ⟨l, xs, y, rfl, rfl, hH, hz, q⟩ := h
  cases rx
  obtain ⟨u, rfl, ru⟩ := rv.one
  obtain ⟨z, its, n, r, hl, e⟩ := I.lstM hH
  refine call_meets F.slot_list_append ⟨_, e, rfl⟩ F.entry_list_append (F.args_list_append_2 _ _) (PySem.list_append l its.toArray n u (by rw [List.size_toArray]; omega)) ⟨e, ?_⟩
  refine ⟨.non, _, I.lset (its' := its ++ [u]) hH e (by simp) (r.append (.cons ru .nil)) ?_, rfl, q⟩
  rw [List.length_append, List.length_singleton]
  omega

def rExtend : V → List V → Hp → VK → Prop := fun x vs H Q => ∃ l b xs zs, x = .ref l ∧ vs = [.ref b] ∧ H l = some (.lst xs) ∧ H b = some (.lst zs) ∧ xs.length + zs.length ≤ sizeLine ∧ Q .non (upd H l (.lst (xs ++ zs)))
theorem mt_extend : MtM X "list.extend" rExtend := by
  intro pins s σ H x vs v us Q I rx rv h
  obtain ⟨l, b, xs, zs, rfl, rfl, hH, hB, hz, q⟩ := h
  cases rx
  obtain ⟨u, rfl, ru⟩ := rv.one
  cases ru
  obtain ⟨z, its, n, r, hl, e⟩ := I.lstM hH
  obtain ⟨z2, its2, n2, r2, hl2, e2⟩ := I.lstM hB
  have hsz : its.toArray.size + its2.toArray.size ≤ sizeLine := by rw [List.size_toArray, List.size_toArray]; omega
  have hlong : ¬ (!its.toArray.isEmpty && Builtin.List.listTooLong (its.toArray.size + its2.toArray.size)) = true := by
    rw [notLongL hsz, Bool.and_false]
    exact Bool.false_ne_true
  refine call_meets F.slot_list_extend ⟨_, e, rfl⟩ F.entry_list_extend (F.args_list_extend_2 _ _)
    (AutoSeq1.list_extend_list_list_0 l its.toArray n b its2.toArray n2 hlong (by rw [List.size_toArray]; omega) (by omega)) ⟨e, e2, ?_⟩
  refine ⟨.non, _, I.lset (its' := its ++ its2) hH e (by simp) (r.append r2) ?_, rfl, q⟩
  rw [List.length_append]
  omega

def rPop : V → List V → Hp → VK → Prop := fun x vs H Q => ∃ l xs y, x = .ref l ∧ vs = [] ∧ H l = some (.lst xs) ∧ xs[xs.length - 1]? = some y ∧ Q y (upd H l (.lst xs.dropLast))
def rPopAt : V → List V → Hp → VK → Prop := fun x vs H Q => ∃ l xs i k y, x = .ref l ∧ vs = [.int i] ∧ H l = some (.lst xs) ∧ -(2 ^ 63) ≤ i ∧ i < 2 ^ 63 ∧ seqIndex? i xs.length = some k ∧ xs[k]? = some y ∧ Q y (upd H l (.lst (xs.eraseIdx k)))
def rReverse : V → List V → Hp → VK → Prop := fun x vs H Q => ∃ l xs, x = .ref l ∧ vs = [] ∧ H l = some (.lst xs) ∧ Q .non (upd H l (.lst xs.reverse))
def rClear : V → List V → Hp → VK → Prop := fun x vs H Q => ∃ l xs, x = .ref l ∧ vs = [] ∧ H l = some (.lst xs) ∧ Q .non (upd H l (.lst []))
/-! ### list + list, list += list, list * int -/
def rCat : R2 := fun x y H Q => ∃ l b xs zs, x = .ref l ∧ y = .ref b ∧ H l = some (.lst xs) ∧ H b = some (.lst zs) ∧ xs.length + zs.length ≤ sizeLine ∧ ∀ p, H p = none → Q (.ref p) (upd H p (.lst (xs ++ zs)))
theorem op_cat : OpR X (binaryOp .Add) rCat := by
  intro pins s σ H x y v u Q I rx ry h
  obtain ⟨l, b, xs, zs, rfl, rfl, hH, hB, hz, q⟩ := h
  cases rx
  cases ry
  obtain ⟨z, its, n, r, hl, e⟩ := I.lstM hH
  obtain ⟨z2, its2, n2, r2, hl2, e2⟩ := I.lstM hB
  refine PySem.P.add_list e e2 ?_ (by rw [List.size_toArray, List.size_toArray]; omega)
  have ea : its.toArray ++ its2.toArray = (its ++ its2).toArray := by simp
  rw [ea]
  exact ⟨.ref _, _, I.lnew (t' := s.toks) (r.append r2) (by rw [List.length_append]; omega), rfl, q _ I.fresh⟩
/-- a list times an int (a negative one is nothing) -/
def rRep : R2 := fun x y H Q => ∃ l k xs, x = .ref l ∧ y = .int k ∧ H l = some (.lst xs) ∧ -(2 ^ 63) ≤ k ∧ k < 2 ^ 63 ∧ xs.length * k.toNat ≤ sizeLine ∧
  ∀ p, H p = none → Q (.ref p) (upd H p (.lst (List.replicate k.toNat xs).flatten))
/-! ### del xs[i] -/
end

/-! ### xs[a:b] = ys -/
section
variable {prog : Program} {w : World} {A : Around} {E : Value → Shared → Prop} {s : Shared}
end

section
variable {X : Cx}
end
end L2

namespace Att
open PySem PySem.W PySem.Calls PyProof.Rows

/-! ### the script -/
theorem ints_of_wellAll {P : Params} {h : Heap} : ∀ (ns : List Int) (vs : List Value), WellAll P h vs (ns.map WData.int) → IntsAre vs ns := by
  intro ns
  induction ns with
  | nil =>
    intro vs w
    rw [List.map_nil] at w
    cases w
    exact .nil
  | cons n ns ih =>
    intro vs w
    rw [List.map_cons] at w
    cases w with
    | cons a b =>
      cases a
      exact .cons _ _ (ih _ b)

theorem script_of {l : OpenLaw} {n : Nat} (hn : l.most = some n) {P : Params} {h : Heap} {args : List WData} {vals : List Value}
    (hpre : l.row.toRowW.claim.pre args = true) (hwl : WellAll P h vals args) :
    ∃ a vs ns, vals = [Value.ref a] ∧ args = [WData.list (ns.map WData.int)] ∧ h.get? a = some { cls := .type "list", data := .seq vs.toArray } ∧ IntsAre vs ns ∧ ns.length ≤ n := by
  have hsh : WShape.hasAll [] args [.list .int] = true := (pre_splitW hpre).1
  have hc : l.pre.holds [] { args := args } = true := (pre_splitW hpre).2
  obtain ⟨d, r, rfl, h1, h2⟩ := hasAllW_cons hsh
  obtain rfl := hasAllW_nil h2
  obtain ⟨xs, rfl, h3⟩ := hasW_list h1
  obtain ⟨ns, rfl⟩ := items_int h3
  have hlen : ns.length ≤ n := by
    unfold OpenLaw.pre at hc
    have h4 : (WTm.not (.lt (.lit (.int (n : Int))) (.len (.arg 0)))).holds [] { args := [.list (ns.map .int)] } = true := by
      have h4 := (holds_andW hc).1
      rw [hn] at h4
      exact h4
    have h5 := condW_of h4 (w_not (w_lt w_lit (w_len_list (w_arg rfl))))
    rw [List.length_map] at h5
    refine Nat.le_of_not_lt fun q => ?_
    have q' : (n : Int) < ((ns.length : Nat) : Int) := by omega
    first
      | (rw [decide_eq_true q'] at h5; exact absurd h5 (by decide))
      | (simp at h5; omega)
  cases hwl with
  | cons w1 w2 =>
    cases w2
    cases w1 with
    | list ho hall => exact ⟨_, _, ns, rfl, rfl, ho, ints_of_wellAll ns _ hall, hlen⟩

theorem post_true (l : OpenLaw) (args : List WData) : l.row.toRowW.claim.post args (.bool true) args = true :=
  postW_of (r := l.row.toRowW) (X := (true == true))
    (show WShape.has [] (.bool true) .bool = true by first | rfl | decide | simp [WShape.has, WShape.arms, WShape.armsAll])
    (show (WTm.eq .res (.lit (.bool true))).value [] { args := args, res := some (.bool true), after := args } = some (.bool (true == true)) from w_eq_bool (w_res rfl) w_lit) rfl

/-! ### the attachment: holds_open's last premise (the goal 'hc' behind k_head) from a wpAny of the law's body -/
/-- the same from a codeAny of the CALL (for a layer whose function contracts speak of calls) -/
theorem attach_call {l : OpenLaw} {n : Nat} {q : Program} {loose : List Str} {XP : (Str → Option Value) → Heap → Prop} {YP : World → Heap → Prop} {d : DefRec}
    (hn : l.most = some n) (hdf : d.params.defaults = [])
    (call : ∀ (w : World) (s₀ s₁ : Shared) (mg mb : Str → Option Value) (fa : Addr) (o : Obj) (pm cd doc : Value) (a : Addr) (vs : List Value) (ns : List Int),
      Ground q loose [] XP w s₀ mg mb s₁.heap → YP w s₁.heap →
      s₁.heap.get? fa = some o → o.data = .func (docDef d.name d.params d.body d.scope pm cd doc) → s₁.heap.CodeRec cd d.name → mg d.name = some (.ref fa) →
      s₁.heap.get? a = some { cls := .type "list", data := .seq vs.toArray } → IntsAre vs ns → ns.length ≤ n → s₁.gens = #[] →
      codeAny (model l.prog w) callerA (.call (.ref fa) ⟨[.ref a], []⟩) (fun r s' => r = .ok (.ret (.bool true)) ∧ OldK s₁.heap s'.heap ∧ s'.os = s₁.os ∧ AllBare s'.gens) s₁) :
    WalkO q loose XP YP l.row.toRowW d [] (fun f vs => PySem.call f vs) := by
  intro w s₀ s₁ mg mb G Y fa o pm cd doc dV kV ho hd hcd hD hmg hg args vals as hpre hlay hrd hwl hlo
  obtain rfl : dV = .none := Dflts.none hD hdf
  obtain rfl : kV = .none := Dflts.noKw hD
  obtain ⟨a, vs, ns, rfl, rfl, hobj, hints, hlen⟩ := script_of hn hpre hwl
  refine enter_call (codeAny_mono (call w s₀ s₁ mg mb fa o pm cd doc a vs ns G Y ho (fd_plain hd) hcd hmg hobj hints hlen hg) fun r s' hq => ?_)
  obtain ⟨rfl, h2, h3, h4⟩ := hq
  exact ⟨.inl ⟨.bool true, .bool true, [], rfl, fun _ => rfl, .bool true, post_true l _, fun _ => ⟨List.Pairwise.nil, fun _ hm => (nomatch hm)⟩⟩, h2, h3, h4⟩

/-! ### rules over ANY heap (no ledger) from facts about the written part K: the library's own take a ledger (News) for what they write -/
section
variable {prog : Program} {w : World} {A : Around} {E : Value → Shared → Prop} {s : Shared} {K : Frag}

/-! the whole heap as the ledger: makes every rule that writes through a ledger a rule over any heap -/
def noObjs (h : Heap) : Heap := { h with objs := #[] }
def ledger (h : Heap) (L d : Addr) : List (Addr × Obj) := (List.range h.objs.size).filterMap fun a => if a = L ∨ a = d then none else (h.get? a).map fun o => (a, o)
end
end Att

namespace L2
open PySem PySem.Spec PyProof.Rows

theorem vals_ints : ∀ {vs : List Value} {ns : List Int}, IntsAre vs ns → Vals (ns.map V.int) vs
  | _, _, .nil => .nil
  | _, _, .cons n t h => .cons ⟨t, rfl⟩ (vals_ints h)

/-- nothing is tracked but the script, known to the object (or it is an object of the module) -/
def Only (H : Hp) : Prop := ∀ b, H b = none ∨ ∃ o xs, H b = some (.frz o (.lst xs))

/-- THE HEAD: the law's promise, at the heap behind the top. F, the promise of the law's def, may use that base is part of the heap (so K.In base, base.Ns mainGlobals mg stand in Mod) -/
theorem law_call {P : Program} {w : World} {K : PySem.W.Frag} {mg mb : Str → Option Value} {CX : CXT} {k : Nat} {fa a : Addr} {fd : FuncData} {x : Str} {sp : Sp} {s₁ : Shared} {vs : List Value} {ns : List Int}
    (KX : K.In s₁.heap) (hns : s₁.heap.Ns mainGlobals mg) (hb : s₁.heap.Ns builtinsNs mb) (hbb : ∀ x : Str, x ≠ "__name__" → mb x = bootBuiltins x) (hlim : s₁.heap.NoLimit) (hg : s₁.gens = #[])
    (ha : s₁.heap.get? a = some { cls := .type "list", data := .seq vs.toArray }) (hi : IntsAre vs ns) (hl : ns.length ≤ sizeLine) (hr : Room k callerA)
    (F : ∀ base : Heap, K.In base → base.Ns mainGlobals mg → FnOk P w K mg base CX k fa fd [x] sp) (hbind : ∀ (s : Shared) (u : Value), BindsTo s fd ⟨[u], []⟩ [(x, u)])
    (hsp : ∀ H : Hp, Only H → SqL K H a (ns.map V.int) → sp [.ref a] H (fun v _ => v = .bl true) fun _ _ _ => False)
    (hCX : ∀ H e s', CX [] H s₁ (fun _ _ _ => False) e s' → False) :
    codeAny (model P w) callerA (.call (.ref fa) ⟨[.ref a], []⟩) (fun r s' => r = .ok (.ret (.bool true)) ∧ OldK s₁.heap s'.heap ∧ s'.os = s₁.os ∧ AllBare s'.gens) s₁ := by
  have rv := vals_ints hi
  have lenV := hi.length
  -- from an abstract heap in which nothing but the script may be tracked
  have core : ∀ H : Hp, Only H → SqL K H a (ns.map V.int) → HOk P w H s₁.heap → (∀ b, H b ≠ none → b = a) → (H a ≠ none → K.lookup a = none) →
      codeAny (model P w) callerA (.call (.ref fa) ⟨[.ref a], []⟩) (fun r s' => r = .ok (.ret (.bool true)) ∧ OldK s₁.heap s'.heap ∧ s'.os = s₁.os ∧ AllBare s'.gens) s₁ := by
    intro H hO hS hok hA hK
    have base_of : ∀ {b : Addr} {o : Obj}, s₁.heap.get? b = some o → H b = none → (hidT s₁.heap H).get? b = some o := fun e n => hidT_get e n
    have noA : ∀ {b : Addr} {o : Obj} {es : Array DictEntry} {ep : Nat}, s₁.heap.get? b = some o → o.data = .dict es ep → H b = none := fun {b o es ep} e d => by
      cases q : H b with
      | none => rfl
      | some u =>
        have e' : b = a := hA b (by rw [q]; simp)
        subst e'
        rw [ha] at e; cases e
        have d' : Data.seq vs.toArray _ = Data.dict es ep := d
        cases d'
    have nsK : ∀ {b : Addr} {m : Str → Option Value}, s₁.heap.Ns b m → (hidT s₁.heap H).Ns b m := fun {b m} ⟨o, es, ep, e, d, r⟩ => ⟨o, es, ep, base_of e (noA e d), d, r⟩
    have hKb : K.In (hidT s₁.heap H) := fun b o e => base_of (KX b o e) (by
      cases q : H b with
      | none => rfl
      | some u =>
        have e' : b = a := hA b (by rw [q]; simp)
        subst e'
        rw [hK (by rw [q]; simp)] at e; cases e)
    have hM : Mod K mg (hidT s₁.heap H) := ⟨hKb, nsK hns, ⟨mb, nsK hb, hbb⟩, let ⟨mc, h1, h2⟩ := hlim; ⟨mc, nsK h1, h2⟩⟩
    have e0 : Env0 P w K mg (hidT s₁.heap H) callerA [] s₁ H := ⟨rfl, hM, fun b o e => of_hidT e, Nat.le_of_eq (hidT_size _ _), trivial, fun b hb => absurd (show b ∈ ([] : List Addr) from hb) (by simp), hok, .of_eq hg⟩
    refine codeAny_mono ((F _ hKb (nsK hns)).run callerA [] s₁ H ⟨[.ref a], []⟩ [.ref a] [.ref a] _ _ hr e0 (hbind s₁ (.ref a)) (.cons rfl .nil) (hsp H hO hS)) fun r s' h => ?_
    cases r with
    | error e => exact (hCX H e s' h).elim
    | ok fl =>
      cases fl with
      | next => exact False.elim h
      | brk => exact False.elim h
      | cont => exact False.elim h
      | ret u =>
        obtain ⟨v, H', os, bare, un, hok', r', q⟩ := h
        have q' : v = .bl true := q
        subst q'
        obtain rfl : u = Value.bool true := r'
        refine ⟨rfl, OldK.of_keep fun b o e => ?_, os, bare⟩
        cases q : H b with
        | none => exact un.keep b o e q (by intro z; exact absurd (show b ∈ ([] : List Addr) from z) (by simp)) (by simp)
        | some u =>
          rcases hO b with z | ⟨ob, xs, z⟩
          · rw [q] at z; cases z
          · have z2 := un.frzs b ob _ z
            obtain ⟨e1, _⟩ := hok b _ z
            obtain ⟨e2, _⟩ := hok' b _ z2
            rw [e] at e1; cases e1
            exact e2
  cases hk : K.lookup a with
  | some o =>
    -- the script is one of the module's own objects
    have e := KX a o hk
    rw [ha] at e
    cases e
    refine core (fun _ => none) (fun _ => .inl rfl) (.inr ⟨_, vs.toArray, _, hk, rfl, rfl, rfl, by rw [List.size_toArray, lenV]; exact hl, by simpa using rv⟩) (fun b u z => by have z' : (none : Option HO) = some u := z; cases z') (fun b z => absurd rfl z) fun z => absurd rfl z
  | none =>
    refine core (fun b => if b = a then some (.frz { cls := .type "list", data := .seq vs.toArray } (.lst (ns.map V.int))) else none) (fun b => ?_) (.inl (.inr ⟨{ cls := .type "list", data := .seq vs.toArray }, if_pos rfl⟩)) (fun b u z => ?_) (fun b z => ?_) fun _ => hk
    · by_cases hb : b = a
      · exact .inr ⟨_, _, if_pos hb⟩
      · exact .inl (if_neg hb)
    · by_cases hb : b = a
      · have z' := (if_pos hb).symm.trans z
        cases z'
        subst hb
        exact ⟨ha, by rw [List.length_map]; exact hl, vs, _, rv, ha⟩
      · have z' := (if_neg hb).symm.trans z
        cases z'
    · by_cases hb : b = a
      · exact hb
      · exact absurd (if_neg hb) z
end L2

namespace L2
open PySem PySem.Spec PyProof.Rows

abbrev KOf {K : PySem.W.Frag} {h : Heap} (_ : K.In h) : PySem.W.Frag := K

/-- the goal that k_head leaves (case hc), from the law's promise. F gives the function object fd (K's own) once, then the promise over every base -/
theorem walk_of {l : PySem.W.OpenLaw} {n k : Nat} {q : Program} {loose : List Str} {XP : (Str → Option Value) → Heap → Prop} {YP : World → Heap → Prop} {d : DefRec} {K : Params → PySem.W.Frag} {CX : World → CXT} {sp : World → Sp} {x : Str}
    (hn : l.most = some n) (hn2 : n ≤ sizeLine) (hdf : d.params.defaults = []) (hr : Room k callerA)
    (hY : ∀ (w : World) (h : Heap), YP w h → (K w.params).In h)
    (F : ∀ (w : World) (mg : Str → Option Value) (fa : Addr) (h : Heap), (K w.params).In h → h.Ns mainGlobals mg → mg d.name = some (.ref fa) →
      ∃ fd : FuncData, (∀ (s : Shared) (u : Value), BindsTo s fd ⟨[u], []⟩ [(x, u)]) ∧
        ∀ base : Heap, (K w.params).In base → base.Ns mainGlobals mg → FnOk l.prog w (K w.params) mg base (CX w) k fa fd [x] (sp w))
    (hsp : ∀ (w : World) (H : Hp) (a : Addr) (ns : List Int), ns.length ≤ n → Only H → SqL (K w.params) H a (ns.map V.int) → sp w [.ref a] H (fun v _ => v = .bl true) fun _ _ _ => False)
    (hCX : ∀ (w : World) (H : Hp) (s : Shared) (e : Value) (s' : Shared), CX w [] H s (fun _ _ _ => False) e s' → False) :
    PySem.W.WalkO q loose XP YP l.row.toRowW d [] (fun f vs => PySem.call f vs) := by
  refine Att.attach_call hn hdf fun w s₀ s₁ mg mb fa o pm cd doc a vs ns G Y ho hd hcd hmg hobj hints hlen hg => ?_
  have KX := hY w _ Y
  obtain ⟨fd, hb, hF⟩ := F w mg fa _ KX G.T.g hmg
  exact law_call KX G.T.g G.T.b G.T.builtins G.T.nolimit hg hobj hints (Nat.le_trans hlen hn2) hr hF hb (fun H hO hS => hsp w H a ns hlen hO hS) fun H e s' => hCX w H s₁ e s'
end L2

/- THE LAST THEOREM (shape; LID, My.* are yours):
   My.Adr: a structure of the addresses that your layer names (classes, functions); My.Txt K t: a structure (Prop) of the equations over K;
   My.txt_mk : {K} {implicit addresses ..} (e1 : nsIn K mainGlobals "law" = some (some (.ref f))) (e2 : K.lookup f = some ⟨oc, od, .func (fnOf "law" "law" params body scope dV kV doc pm an cdv ct), sl⟩) (e3 : codeIn K cdv "law" = true) .. : ∃ t, My.Txt K t

set_option maxRecDepth 100000 in
set_option maxHeartbeats 0 in
theorem PySem.Challenge.cw_LID_holds : PySem.Challenge.rw_LID.Holds := by
  w_on; o_law; k_head; (case hw => w_witness2)
  k_fill
  refine L2.walk_of (l := PySem.Challenge.rw_LID) (n := 63) (k := 40) (x := "script") (CX := fun w => ..) (sp := fun _ => My.sp_law) rfl (by decide) rfl ⟨rfl, by decide, by decide⟩ (fun w h Y => PySem.W.kIn_of Y) ?F ?S ?C
  case F =>
    intro w mg fa h KX G hmg
    have T : ∃ t, My.Txt (L2.KOf KX) t := by
      dsimp only [L2.KOf]                          -- K must stand as «<heap const> w.params» for k_is
      refine' My.txt_mk ?e1 ?e2 ?e3 ..
      (case e1 => PySem.W.k_is)                    -- in the order: a name -> its address -> its object -> its parts
      (case e2 => PySem.W.k_is)
      ..
    obtain ⟨t, T⟩ := T
    have e0 := hmg.symm.trans (PySem.W.mg_of KX G T.law)
    cases e0                                       -- fa is the law's own address
    exact ⟨_, fun s u => .of_eq rfl, fun base kb nb => My.law_fn T kb nb⟩     -- if «.of_eq rfl» comes too early: refine' ⟨_, ?b, fun base kb nb => My.law_fn T kb nb⟩; exact fun s u => .of_eq rfl
  case S => exact fun w H a ns hl hO hS => ..
  case C => exact ..
(the tactic k_is has no namespace: write k_is) -/

/-! SHORT WORDS over the layer: a def of the text, its body, what a loop and a test want. -/
namespace L2
open PySem PySem.Spec PyProof.Rows

/-! ### the text by places -/
/-- the j-th statement of a class's body -/
def inClass (s : Stmt) (j : Nat) : Stmt := match s with
  | .ClassDef _ _ _ body _ _ _ _ _ _ _ => body.getD j (.Pass ⟨0, 0, 0, 0⟩)
  | _ => .Pass ⟨0, 0, 0, 0⟩
def defArgs (s : Stmt) : Arguments := match s with
  | .FunctionDef _ a _ _ _ _ _ _ _ _ => a
  | _ => { posonlyargs := [], args := [], vararg := none, kwonlyargs := [], kw_defaults := [], kwarg := none, defaults := [] }
def defBody (s : Stmt) : List Stmt := match s with
  | .FunctionDef _ _ b _ _ _ _ _ _ _ => b
  | _ => []
def defScope (s : Stmt) : Scope := match s with
  | .FunctionDef _ _ _ _ _ _ sc _ _ _ => sc
  | _ => { kind := .function, names := [], isGenerator := false, isCoroutine := false }

/-! ### no exception leaves a def -/
abbrev CX0 : CXT := fun _ _ _ _ _ _ => False
abbrev E0 : XK := fun _ _ _ => False
theorem pass0 {X : Cx} : Passes CX0 X E0 := fun _ _ _ _ _ _ _ h => h.elim

/-! ### a def (or method) of the text as it stands behind the top -/
structure Fun (K : PySem.W.Frag) (x qual : Str) (st : Stmt) (f : Addr) (fd : FuncData) : Prop where
  ex : ∃ (oc : Value) (od : Option Addr) (kV doc pm : Value) (an : Option Addr) (cdv ct : Value) (osl : Array (Option Value)),
    fd = PySem.W.fnOf x qual (defArgs st) (defBody st) (defScope st) .none kV doc pm an cdv ct ∧ K.lookup f = some ⟨oc, od, .func fd, osl⟩ ∧ PySem.W.codeIn K cdv qual = true
  kp : PySem.W.keepIn K (.ref f) = true
section
variable {P : Program} {w : World} {K : PySem.W.Frag} {mg : Str → Option Value} {base : Heap}
/-- THE RULE for a def: its body as a term of rules, and the reading of that term -/
theorem Fun.ok {x qual : Str} {st : Stmt} {f : Addr} {fd : FuncData} {N ps : List Str} {k : Nat} {sp : Sp} (F : Fun K x qual st f fd) (S : FnScope N ps (defScope st)) (len : ∀ vs H Q E, sp vs H Q E → vs.length = ps.length)
    (hbody : ∀ (cdv : Value) (A : Around) (outer : List Env) (s : Shared) (H : Hp) (vs : List V) (Q : VK) (E : XK), Room k (A.deeper (envOfC qual (defScope st) s.heap.objs.size f cdv)) → sp vs H Q E →
      ∃ t, PSs (cxOf CX0 P w K mg base N qual (defScope st) f cdv A outer s H E).nox (defBody st) t ∧ t { nx := fun _ H' => Q .non H', rt := Q } (start N vs) H) : FnOk P w K mg base CX0 (k + 1) f fd ps sp := by
  obtain ⟨oc, od, kV, doc, pm, an, cdv, ct, osl, rfl, lk, hcd⟩ := F.ex
  refine fn_of lk hcd S len fun A outer s H vs Q E hr hsp => ?_
  obtain ⟨t, h, q⟩ := hbody cdv A outer s H vs Q E hr hsp
  exact ⟨t, h.nox, q⟩
/-- how its arguments bind (no defaults): h is «fun _ _ _ _ _ _ us hl => match us, hl with | [_, _], _ => rfl», one _ a parameter -/
theorem Fun.binds {x qual : Str} {st : Stmt} {f : Addr} {fd : FuncData} {ps : List Str} (F : Fun K x qual st f fd)
    (h : ∀ (kV doc pm : Value) (an : Option Addr) (cdv ct : Value) (us : List Value), us.length = ps.length → bindArgs (PySem.W.fnOf x qual (defArgs st) (defBody st) (defScope st) .none kV doc pm an cdv ct) ⟨us, []⟩ = pure (ps.zip us)) : Binds K fd ps [] := by
  obtain ⟨oc, od, kV, doc, pm, an, cdv, ct, osl, rfl, lk, hcd⟩ := F.ex
  exact .all (h kV doc pm an cdv ct)
theorem fun_mk {x qual : Str} {st : Stmt} {f : Addr} {oc : Value} {od an : Option Addr} {osl : Array (Option Value)} {kV doc pm cdv ct : Value} (l : K.lookup f = some ⟨oc, od, .func (PySem.W.fnOf x qual (defArgs st) (defBody st) (defScope st) .none kV doc pm an cdv ct), osl⟩)
    (c : PySem.W.codeIn K cdv qual = true) (k : PySem.W.keepIn K (.ref f) = true) : Fun K x qual st f (PySem.W.fnOf x qual (defArgs st) (defBody st) (defScope st) .none kV doc pm an cdv ct) := ⟨⟨oc, od, kV, doc, pm, an, cdv, ct, osl, rfl, l, c⟩, k⟩
end
theorem small1000 {n : Nat} (h : n ≤ 1000) : n < sizeLine := Nat.lt_of_le_of_lt h (by decide)

/-! ### expressions in short: the name that stands in the i-th slot -/
section
variable {X : Cx}
theorem pv (i : Nat) {x : Str} {pos : Pos} (hN : X.N[i]? = some x := by rfl) (hv : Vis X.env.scope x := by first | exact Or.inl rfl | exact Or.inr (Or.inl rfl) | exact Or.inr (Or.inr rfl)) (hd : (x == ("__debug__" : Str)) = false := by decide)
    (hcd : (x == ("__classdict__" : Str)) = false := by decide) : PE X (.Name x pos) (tVar i) := pe_var hN hv hd hcd
end

/-! ### tests -/
theorem iteF {A B : Prop} (h : B) : if false = true then A else B := by
  rw [if_neg Bool.false_ne_true]
  exact h
theorem iteT {A B : Prop} (h : A) : if true = true then A else B := by
  rw [if_pos rfl]
  exact h
theorem ite2 {c A B : Prop} [Decidable c] (h1 : c → A) (h2 : ¬ c → B) : if c then A else B := by
  by_cases h : c
  · rw [if_pos h]
    exact h1 h
  · rw [if_neg h]
    exact h2 h
theorem iteNS {c A B : Prop} [Decidable c] (hc : c) (h : B) : if (!decide c) = true then A else B := by
  rw [decide_eq_true hc]
  exact iteF h

/-! ### heaps -/
/-- all that was tracked is as it was -/
def Same (H H' : Hp) : Prop := ∀ b o, H b = some o → H' b = some o
theorem Same.trans {H H1 H2 : Hp} (a : Same H H1) (b : Same H1 H2) : Same H H2 := fun c o h => b c o (a c o h)
theorem Same.free {H H' : Hp} (e : Same H H') {l : Addr} (h : H' l = Option.none) : H l = Option.none := by
  cases q : H l with
  | none => rfl
  | some o =>
    rw [e l o q] at h
    cases h
theorem Same.seq {K : PySem.W.Frag} {H H' : Hp} {a : Addr} {xs : List V} (e : Same H H') (h : SqL K H a xs) : SqL K H' a xs := by
  rcases h with (h | ⟨o, h⟩) | h
  · exact .inl (.inl (e _ _ h))
  · exact .inl (.inr ⟨o, e _ _ h⟩)
  · exact .inr h

end L2

set_option Elab.async false
set_option linter.all false
set_option maxRecDepth 100000
set_option maxHeartbeats 4000000
/-! COMPREHENSIONS over the hand layer: the block as a context of its own -/
namespace L2
open PySem PySem.Spec PyProof.Rows

section
variable {prog : Program} {w : World} {A : Around} {R : Result → Shared → Prop} {s : Shared}
theorem compLoop_any {elt target iter : Expr} {ifs : List Expr} {scope : Scope} {pos : Pos} {it acc : Value} {env : Env} (I : Nat → Shared → Prop)
    (turn : ∀ n s, I n s → wpAny (model prog w) A (pyNext it) (fun r s₁ => match r with
      | none => R (.ok .next) s₁
      | some v => wpAny (model prog w) A (letOwnedTupleGo target it v) (fun _ s₁' => wpAny (model prog w) A (assign target env v) (fun _ s₂ =>
          wpAny (model prog w) A (forIn ifs true fun c r => if r = true then do let ok ← isTrue c env (eval c env); pure (ForInStep.yield ok) else pure (ForInStep.yield r)) (fun ok s₃ =>
            if ok = true then wpAny (model prog w) A (eval elt env) (fun x s₄ =>
              wpAny (model prog w) A (call (.builtin "list.append") [acc, x]) (fun _ s₅ => ∃ m, m < n ∧ I m s₅) (notedBy (model prog w) A env fun e s' => R (.error e) s') s₄) (notedBy (model prog w) A env fun e s' => R (.error e) s') s₃
            else ∃ m, m < n ∧ I m s₃) (notedBy (model prog w) A env fun e s' => R (.error e) s') s₂) (notedBy (model prog w) A env fun e s' => R (.error e) s') s₁')
          (notedBy (model prog w) A env fun e s' => R (.error e) s') s₁) (notedBy (model prog w) A env fun e s' => R (.error e) s') s)
    (n : Nat) (h : I n s) : codeAny (model prog w) A (.compLoop (.ListComp elt [⟨target, iter, ifs, 0⟩] scope pos) 0 it acc env) R s := by
  refine codeAny_loop rfl I (fun n s hI => ?_) n h
  show wpAny _ A ((compTurn (.ListComp elt [⟨target, iter, ifs, 0⟩] scope pos) 0 it acc env).onRaise (fun x => do noteFrame x env; theTreesLotGoes x)) _ _ s
  refine wpAny_noted ?_
  rw [compTurn_list]
  refine wpAny_bind (wpAny_standAt (wpAny_bind (wpAny_mono (turn n s hI) (fun r s₁ h₁ => ?_) fun _ _ h' => h')))
  cases r with
  | none => exact wpAny_pure h₁
  | some v =>
    refine wpAny_bind (wpAny_mono h₁ (fun _ s₁' h₁' => ?_) fun _ _ h' => h')
    refine wpAny_bind (wpAny_mono h₁' (fun _ s₂ h₂ => wpAny_bind (wpAny_mono h₂ (fun ok s₃ h₃ => ?_) fun _ _ h' => h')) fun _ _ h' => h')
    cases ok with
    | false => exact wpAny_pure ⟨rfl, h₃⟩
    | true =>
      exact wpAny_bind (wpAny_bind (wpAny_mono h₃ (fun x s₄ h₄ => wpAny_bind (wpAny_mono h₄ (fun _ s₅ h₅ => wpAny_pure (wpAny_pure ⟨rfl, h₅⟩)) fun _ _ h' => h')) fun _ _ h' => h'))
end

/-! ### the cells that a block closes over -/
def closF (cells : List (Str × Addr)) : List (Str × NameKind) → List (Str × Addr) → List (Str × Addr)
  | [], acc => acc
  | (n, k) :: r, acc => closF cells r (if k == .free then (n, (cells.lookup n).getD 0) :: acc else acc)
theorem closureFor_eq {scope : Scope} {env : Env} (h : ∀ x ∈ scope.names, x.2 = .free → ∃ c, env.cells.lookup x.1 = some c) : closureFor scope env = pure (closF env.cells scope.names []) := by
  unfold closureFor
  have key : ∀ (l : List (Str × NameKind)) (acc : List (Str × Addr)), (∀ x ∈ l, x.2 = .free → ∃ c, env.cells.lookup x.1 = some c) →
      (forIn l acc (fun (x : Str × NameKind) (r : List (Str × Addr)) => (match x with
        | (name, kind) => if (kind == NameKind.free) = true then (do let c ← cellOf env name; pure (ForInStep.yield ((name, c) :: r))) else pure (ForInStep.yield r) : Sem (ForInStep (List (Str × Addr))))) : Sem (List (Str × Addr))) = pure (closF env.cells l acc) := by
    intro l
    induction l with
    | nil => intro acc _; rfl
    | cons x r ih =>
      intro acc hl
      obtain ⟨n, k⟩ := x
      rw [List.forIn_cons]
      by_cases hk : k = .free
      · subst hk
        obtain ⟨c, hc⟩ := hl (n, .free) List.mem_cons_self rfl
        have hc' : env.cells.lookup n = some c := hc
        have e1 : cellOf env n = pure c := by unfold cellOf; rw [hc']
        simp only [beq_self_eq_true, if_true, e1, pure_bind]
        rw [ih _ fun y hy => hl y (List.mem_cons_of_mem _ hy)]
        simp only [closF, beq_self_eq_true, if_true, hc', Option.getD_some]
      · have hb : (k == NameKind.free) = false := by simpa using hk
        simp only [hb, Bool.false_eq_true, if_false, pure_bind]
        rw [ih _ fun y hy => hl y (List.mem_cons_of_mem _ hy)]
        simp only [closF, hb, Bool.false_eq_true, if_false]
  have := key scope.names [] h
  simp only at this ⊢
  rw [this]
  rfl
theorem closF_mem {cells : List (Str × Addr)} {x : Str} {c : Addr} : ∀ {l : List (Str × NameKind)} {acc : List (Str × Addr)}, (∀ y ∈ l, y.2 = .free → ∃ c, cells.lookup y.1 = some c) → (x, c) ∈ closF cells l acc → (x, c) ∈ acc ∨ cells.lookup x = some c
  | [], _, _, h => .inl h
  | (n, k) :: r, acc, hl, h => by
    have hr : ∀ y ∈ r, y.2 = .free → ∃ c, cells.lookup y.1 = some c := fun y hy => hl y (List.mem_cons_of_mem _ hy)
    rcases closF_mem hr h with z | z
    · by_cases hk : k = .free
      · subst hk
        obtain ⟨c', hc⟩ := hl (n, .free) List.mem_cons_self rfl
        have hc' : cells.lookup n = some c' := hc
        simp only [beq_self_eq_true, if_true, hc', Option.getD_some] at z
        rcases List.mem_cons.mp z with e | e
        · injection e with e1 e2
          subst e1 e2
          exact .inr hc'
        · exact .inl e
      · have hb : (k == NameKind.free) = false := by simpa using hk
        simp only [hb, Bool.false_eq_true, if_false] at z
        exact .inl z
    · exact .inr z
theorem closF_sub {cells : List (Str × Addr)} {x : Str × Addr} : ∀ {l : List (Str × NameKind)} {acc : List (Str × Addr)}, x ∈ acc → x ∈ closF cells l acc
  | [], _, h => h
  | (n, k) :: r, acc, h => by
    unfold closF
    refine closF_sub ?_
    split
    · exact List.mem_cons_of_mem _ h
    · exact h
theorem closF_has {cells : List (Str × Addr)} {x : Str} {c : Addr} (hc : cells.lookup x = some c) : ∀ {l : List (Str × NameKind)} {acc : List (Str × Addr)}, (x, NameKind.free) ∈ l → (x, c) ∈ closF cells l acc
  | (n, k) :: r, acc, h => by
    unfold closF
    rcases List.mem_cons.mp h with e | e
    · injection e with e1 e2
      subst e1 e2
      refine closF_sub ?_
      simp only [beq_self_eq_true, if_true, hc, Option.getD_some]
      exact List.mem_cons_self
    · exact closF_has hc e
theorem lookup_of_mem {x : Str} {c : Addr} : ∀ {l : List (Str × Addr)}, (x, c) ∈ l → (∀ d, (x, d) ∈ l → d = c) → l.lookup x = some c
  | [], h, _ => by cases h
  | (n, d) :: r, h, u => by
    rw [List.lookup_cons]
    cases e : x == n with
    | true =>
      have e' : x = n := by simpa using e
      subst e'
      rw [u d List.mem_cons_self]
    | false =>
      rcases List.mem_cons.mp h with q | q
      · injection q with q1 q2
        subst q1
        simp at e
      · exact lookup_of_mem q fun d' hd => u d' (List.mem_cons_of_mem _ hd)

/-! ### a block's context -/
def Cx.block (X : Cx) (N : List Str) (scope : Scope) (C : Addr) (s : Shared) (H : Hp) (ex : List Addr) : Cx :=
  { X with N := N, s₀ := s, H₀ := H, env := compEnvC scope (closF X.env.cells scope.names []) C X.env, outer := X.stack, ex := ex, fn := fun _ => false, pn := [], xe := fun _ _ => False }
/-- NO, scO: the names and the scope around; N, sc: the block's; cap: where a name of the block is taken from -/
structure BlockOk (NO : List Str) (scO : Scope) (N : List Str) (sc : Scope) (cap : List (Option Nat)) : Prop where
  kind : sc.kind = .function
  nocell : ∀ y ∈ sc.names, y.2 ≠ .cell
  loc : ∀ y ∈ sc.names, y.2 = .local → sc.names.lookup y.1 = some .local
  free : ∀ y ∈ sc.names, y.2 = .free → scO.names.lookup y.1 = some .cell ∨ scO.names.lookup y.1 = some .free
  len : cap.length = N.length
  cap : (cap.zip N).all (fun p => match p.1 with | Option.none => true | some i => decide (NO[i]? = some p.2) && decide (sc.names.lookup p.2 = some .free)) = true
def blockOk (NO : List Str) (scO : Scope) (N : List Str) (sc : Scope) (cap : List (Option Nat)) : Bool :=
  decide (sc.kind = .function) && sc.names.all (fun y => decide (y.2 ≠ .cell)) && sc.names.all (fun y => !decide (y.2 = .local) || decide (sc.names.lookup y.1 = some .local)) &&
  sc.names.all (fun y => !decide (y.2 = .free) || (decide (scO.names.lookup y.1 = some .cell) || decide (scO.names.lookup y.1 = some .free))) && decide (cap.length = N.length) &&
  (cap.zip N).all (fun p => match p.1 with | Option.none => true | some i => decide (NO[i]? = some p.2) && decide (sc.names.lookup p.2 = some .free))
theorem BlockOk.of {NO : List Str} {scO : Scope} {N : List Str} {sc : Scope} {cap : List (Option Nat)} (h : blockOk NO scO N sc cap = true) : BlockOk NO scO N sc cap := by
  unfold blockOk at h
  simp only [Bool.and_eq_true] at h
  obtain ⟨⟨⟨⟨⟨h1, h2⟩, h3⟩, h4⟩, h5⟩, h6⟩ := h
  refine ⟨of_decide_eq_true h1, fun y hy => of_decide_eq_true (List.all_eq_true.mp h2 y hy), fun y hy hk => ?_, fun y hy hk => ?_, of_decide_eq_true h5, h6⟩
  · have := List.all_eq_true.mp h3 y hy
    rw [decide_eq_true hk] at this
    exact of_decide_eq_true (by simpa using this)
  · have := List.all_eq_true.mp h4 y hy
    rw [decide_eq_true hk] at this
    simpa using this
def capSt (cap : List (Option Nat)) (σ : St) : St := cap.map fun o => o.bind fun i => (σ[i]?).bind id

theorem mem_relabel {sc : Scope} {env : Env} {x : Str} {r : NameKind} (h : (relabel sc env).names.lookup x = some r) : ∃ k, (x, k) ∈ sc.names ∧ (r = k ∨ (k = .free ∧ r = .cell)) := by
  have m := PySem.mem_of_lookup h
  obtain ⟨⟨n, k⟩, hm, e⟩ := List.mem_map.mp m
  dsimp only at e
  split at e
  · rename_i hc
    injection e with e1 e2
    subst e1
    refine ⟨k, hm, .inr ⟨?_, e2.symm⟩⟩
    simp only [Bool.and_eq_true, beq_iff_eq] at hc
    exact hc.1.1
  · injection e with e1 e2
    subst e1 e2
    exact ⟨k, hm, .inl rfl⟩

section
variable {X : Cx} {pins : List (Addr × Obj)} {σ : St} {H : Hp} {s : Shared} {N : List Str} {sc : Scope} {cap : List (Option Nat)}

theorem BlockOk.cells (B : BlockOk X.N X.env.scope N sc cap) (ok : X.Ok) : ∀ x ∈ sc.names, x.2 = .free → ∃ c, X.env.cells.lookup x.1 = some c := fun x hx hk => ok.has x.1 (B.free x hx hk)
theorem BlockOk.back (B : BlockOk X.N X.env.scope N sc cap) (ok : X.Ok) {x : Str} {c : Addr} (h : (closF X.env.cells sc.names []).lookup x = some c) : X.env.cells.lookup x = some c :=
  (closF_mem (B.cells ok) (PySem.mem_of_lookup h)).elim (fun z => by cases z) id
theorem BlockOk.on (B : BlockOk X.N X.env.scope N sc cap) (ok : X.Ok) {x : Str} {c : Addr} (hx : (x, NameKind.free) ∈ sc.names) (h : X.env.cells.lookup x = some c) : (closF X.env.cells sc.names []).lookup x = some c :=
  lookup_of_mem (closF_has h hx) fun d hd => by
    have := (closF_mem (B.cells ok) hd).elim (fun z => by cases z) id
    rw [h] at this
    exact (Option.some.inj this).symm

theorem block_start {fp : List Addr} {h₁ : Heap} {t' : Nat} {D C : Addr} (I : Inv X pins σ H s) (B : BlockOk X.N X.env.scope N sc cap) (hf : ∀ b ∈ fp, FpOk X pins H b ∧ b < s.heap.objs.size)
    (hD : D = s.heap.objs.size) (hC : C = s.heap.objs.size + 1) (k : ∀ b o, s.heap.get? b = some o → h₁.get? b = some o)
    (hl : h₁.get? D = some { cls := .type "list", data := .seq ([] : List Value).toArray }) (hn : ∃ m, h₁.Ns C m) :
    Inv (X.block N sc C s H fp) [] (capSt cap σ) (upd H D (.lst [])) { s with heap := h₁, toks := t' } := by
  subst hD
  have hfr : H s.heap.objs.size = none := I.hok.fresh (Nat.le_refl _)
  have hfC : H C = none := I.hok.fresh (by rw [hC]; exact Nat.le_succ _)
  have neD : ∀ b o, s.heap.get? b = some o → b ≠ s.heap.objs.size := fun b o e => Nat.ne_of_lt (Heap.lt_size e)
  have cellA : ∀ x c, (closF X.env.cells sc.names []).lookup x = some c → X.env.cells.lookup x = some c := fun x c e => B.back I.ok e
  refine ⟨⟨I.ok.mod, B.kind, I.ok.glob, I.ok.blt, ?_, ?_, ?_, ?_, I.ok.hd, I.ok.frames, .inl rfl, ?_, I.bs, Nat.le_trans I.ok.bsz I.sz, ?_, ?_, I.stack, I.stkFree⟩, rfl, I.bare, Un.laid k (Nat.le_refl _) hfr, ?_, ?_, ?_, ?_, ?_, ?_, ?_⟩
  · show s.heap.objs.size ≤ C
    rw [hC]; exact Nat.le_succ _
  · intro x y c h1 h2
    exact I.ok.inj x y c (cellA x c h1) (cellA y c h2)
  · intro x hx
    have hx' : (relabel sc X.env).names.lookup x = some .cell ∨ (relabel sc X.env).names.lookup x = some .free := hx
    have hm : (x, NameKind.free) ∈ sc.names := by
      rcases hx' with q | q
      · obtain ⟨k, hk, e | ⟨e, _⟩⟩ := mem_relabel q
        · subst e; exact absurd rfl (B.nocell _ hk)
        · subst e; exact hk
      · obtain ⟨k, hk, e | ⟨e, _⟩⟩ := mem_relabel q
        · subst e; exact hk
        · subst e; exact hk
    obtain ⟨c, hc⟩ := B.cells I.ok _ hm rfl
    exact ⟨c, B.on I.ok hm hc⟩
  · intro x c h
    exact absurd (show false = true from h) (by decide)
  · intro b hb
    have f := hf b hb
    refine ⟨?_, fun x c e => f.1.2.2.2.2.1 x c (cellA x c e)⟩
    show b ≠ C
    rw [hC]; exact Nat.ne_of_lt (Nat.lt_succ_of_lt f.2)
  · intro b o e hb
    have f := (hf b hb).1
    rcases f.2.2.2.1 with z | z
    · exact I.ok.noex b o e z
    · exact absurd (Nat.lt_of_lt_of_le (Heap.lt_size e) (Nat.le_trans I.ok.bsz z)) (Nat.lt_irrefl _)
  · intro b hb z
    have f := (hf b hb).1
    rcases List.mem_cons.mp (I.stkSub b z) with e | e
    · exact f.2.1 e
    · exact f.2.2.1 e
  · obtain ⟨m, hm⟩ := hn
    refine ⟨m, hm, fun j x v e1 e2 e3 => ?_⟩
    have e1 : N[j]? = some x := e1
    have e3 : Vis (relabel sc X.env) x := e3
    unfold capSt at e2
    rw [List.getElem?_map] at e2
    cases hc : cap[j]? with
    | none => rw [hc] at e2; cases e2
    | some o =>
      rw [hc] at e2
      cases o with
      | none => cases e2
      | some i =>
        have e2 : (σ[i]?).bind id = some v := Option.some.inj e2
        have hv : σ[i]? = some (some v) := by
          cases q : σ[i]? with
          | none => rw [q] at e2; cases e2
          | some w' => rw [q] at e2; exact congrArg some e2
        have hz : (some i, x) ∈ cap.zip N := by
          refine List.mem_of_getElem? (i := j) ?_
          rw [List.getElem?_zip_eq_some]
          exact ⟨hc, e1⟩
        have hcap := List.all_eq_true.mp B.cap _ hz
        simp only [Bool.and_eq_true, decide_eq_true_eq] at hcap
        obtain ⟨hN, hlk⟩ := hcap
        have hmem := PySem.mem_of_lookup hlk
        have hkO := B.free _ hmem rfl
        obtain ⟨m0, hn0, hl0⟩ := I.loc
        obtain ⟨u, ru, lk⟩ := hl0 i x v hN hv (.inr hkO)
        refine ⟨u, ru, .inr ⟨?_, ?_⟩⟩
        · show (relabel sc X.env).names.lookup x = some .cell ∨ (relabel sc X.env).names.lookup x = some .free
          rcases e3 with q | q
          · obtain ⟨k', hk', e | ⟨_, e⟩⟩ := mem_relabel q
            · subst e
              have := B.loc _ hk' rfl
              rw [hlk] at this
              cases this
            · cases e
          · exact q
        · rcases lk with ⟨q, _⟩ | ⟨_, c, hcc, ⟨oc, hoc, hod⟩⟩
          · have q' : X.env.scope.names.lookup x = some .local := q
            rcases hkO with z | z <;> (rw [q'] at z; cases z)
          · exact ⟨c, B.on I.ok hmem hcc, oc, k _ _ hoc, hod⟩
  · intro x c e
    obtain ⟨v, o, ho, hd⟩ := I.cell x c (cellA x c e)
    exact ⟨v, o, k _ _ ho, hd⟩
  · show upd H s.heap.objs.size (.lst []) C = none
    rw [upd_ne (by rw [hC]; exact Nat.succ_ne_self _)]
    exact hfC
  · intro x c e
    obtain ⟨v, o, ho, hd⟩ := I.cell x c (cellA x c e)
    rw [upd_ne (neD c o ho)]
    exact I.freeC x c (cellA x c e)
  · intro p hp
    exact absurd (show p ∈ ([] : List (Addr × Obj)) ++ [] from hp) (by simp)
  · exact I.hok.laid k (Nat.le_refl _) ⟨Nat.zero_le _, [], 0, .nil, hl⟩
  · show (capSt cap σ).length = N.length
    unfold capSt
    rw [List.length_map]
    exact B.len
end
end L2

set_option Elab.async false
set_option linter.all false
set_option maxRecDepth 100000
set_option maxHeartbeats 4000000
namespace L2
open PySem PySem.Spec PyProof.Rows

/-- the tests of a clause -/
def PTs (X : Cx) (ifs : List Expr) (t : TT) : Prop :=
  ∀ (pins : List (Addr × Obj)) (s : Shared) (σ : St) (H : Hp) (Q : Bool → Hp → Prop), Inv X pins σ H s → t σ H Q →
    wpAny (model X.prog X.w) X.A (forIn ifs true fun c r => if r = true then do let ok ← isTrue c X.env (eval c X.env); pure (ForInStep.yield ok) else pure (ForInStep.yield r)) (TP X pins σ Q) X.xe s
def tYes : TT := fun _ H Q => Q true H
theorem pts_nil {X : Cx} : PTs X [] tYes := fun _ _ _ H _ I h => wpAny_tests_nil ⟨H, I, h⟩
/-- the reading of a comprehension: W the invariant over the turn, a measure, what was gathered, the block's names, the heap -/
def CompW (J : It) (g : TG) (tc : TT) (te : TE) (τ0 : St) (H1 : Hp) (Q : VK) (D : Addr) : Prop :=
  ∃ W : Nat → Nat → List V → St → Hp → Prop, (∃ m, W 0 m [] τ0 (upd H1 D (.lst []))) ∧ ∀ i m ys τ H2, W i m ys τ H2 →
    H2 D = some (.lst ys) ∧ ((J.stop i H2 ∧ Q (.ref D) H2) ∨ (J.go i H2 ∧ ys.length < sizeLine ∧ ∃ M : List V → St → Hp → Prop, (∀ zs τ' H', M zs τ' H' → ∃ m', m' < m ∧ W (i + 1) m' zs τ' H') ∧
      ∀ x H3, J.yld i H2 x H3 → g x τ H3 fun τ' H4 => tc τ' H4 fun c H5 => if c = true then te τ' H5 fun y H6 => H6 D = some (.lst ys) ∧ M (ys ++ [y]) τ' (upd H6 D (.lst (ys ++ [y]))) else M ys τ' H5))
def tComp (wi : TI) (g : TG) (tc : TT) (te : TE) (st : St → St) : TE := fun σ H Q => wi σ H fun J H1 => ∀ D, H1 D = none → CompW J g tc te (st σ) H1 Q D

section
variable {X : Cx} {pins : List (Addr × Obj)} {σ : St} {s : Shared} {N : List Str} {sc : Scope} {cap : List (Option Nat)} {elt tg iter : Expr} {ifs : List Expr} {pos : Pos} {wi : TI} {g : TG} {tc : TT} {te : TE}

/-- what a comprehension leaves -/
structure CompEnd (X : Cx) (pins : List (Addr × Obj)) (σ : St) (Q : VK) (D C : Addr) (s' : Shared) : Prop where
  ex : ∃ H', Inv X pins σ H' s' ∧ FpOk X pins H' C ∧ (∃ m, s'.heap.Ns C m) ∧ Q (.ref D) H'

theorem comp_block {J : It} {H : Hp} {it : Addr} {fp : List Addr} {tn : Nat → Heap → Prop} {Q : VK} {RR : Value → Addr → Result → Shared → Prop} (hc : X.calm = true) (B : BlockOk X.N X.env.scope N sc cap)
    (hg : ∀ C s H ex, PG (X.block N sc C s H ex) tg g) (ht : ∀ C s H ex, PTs (X.block N sc C s H ex) ifs tc) (he : ∀ C s H ex, PE (X.block N sc C s H ex) elt te)
    (I : Inv X pins σ H s) (T : Turn X.prog X.w X.K tg J fp it tn) (h0 : tn 0 s.heap) (hf : ∀ b ∈ fp, FpOk X pins H b)
    (h : ∀ D, H D = none → CompW J g tc te (capSt cap σ) H Q D)
    (hRR : ∀ D C s', CompEnd X pins σ Q D C s' → RR (.ref D) C (.ok .next) s') :
    wpAny (model X.prog X.w) X.A (newList []) (fun acc s₃ => wpAny (model X.prog X.w) X.A (newFunctionEnv sc X.env.globals (closF X.env.cells sc.names []) [] X.env.qual none .none (some X.env)) (fun cenv s₄ =>
      codeAny (model X.prog X.w) X.A (.compStart (.ListComp elt [⟨tg, iter, ifs, 0⟩] sc pos) 0 (.ref it) acc { cenv with scope := relabel sc X.env }) (RR acc cenv.locals) s₄) X.xe s₃) X.xe s := by
  refine wpAny_newObj_type (wpAny_newFunctionEnv B.nocell (by intro y hy; simp at hy) (fun h₁ hns₁ hsb₁ => ?_) B.kind)
  dsimp only at hns₁ hsb₁ ⊢
  generalize hH2 : s.heap.push { cls := .type "list", dict := none, data := .seq ([] : List Value).toArray } = H2 at hns₁ hsb₁ ⊢
  have hC : H2.objs.size = s.heap.objs.size + 1 := by rw [← hH2, Heap.size_push]
  have hDC : s.heap.objs.size ≠ H2.objs.size := by rw [hC]; exact Nat.ne_of_lt (Nat.lt_succ_self _)
  have lo : ∀ b o, s.heap.get? b = some o → h₁.get? b = some o := fun b o e =>
    hsb₁.extBut b o (by rw [hC]; exact Nat.ne_of_lt (Nat.lt_succ_of_lt (Heap.lt_size e))) (Heap.get?_push_of_some _ (hH2 ▸ Heap.get?_push_of_some _ e))
  have hacc : h₁.get? s.heap.objs.size = some { cls := .type "list", data := .seq ([] : List Value).toArray } := hsb₁.extBut _ _ hDC (Heap.get?_push_of_some _ (hH2 ▸ Heap.get?_push_size _ rfl))
  have hfs : ∀ b ∈ fp, FpOk X pins H b ∧ b < s.heap.objs.size := fun b hb => by
    obtain ⟨o, e, _⟩ := T.obj 0 _ h0 b hb
    exact ⟨hf b hb, Heap.lt_size e⟩
  obtain ⟨W, ⟨m0, w0⟩, turn⟩ := h s.heap.objs.size (I.hok.fresh (Nat.le_refl _))
  generalize hCg : H2.objs.size = C at hns₁ hsb₁ hC hDC ⊢
  have I0 := block_start (t' := s.toks + ([] : List (Str × Value)).length) I B hfs rfl hC lo hacc ⟨_, hns₁⟩
  have h01 : tn 0 h₁ := T.keep 0 _ _ h0 fun b _ o e => lo b o e
  have cne : ∀ x c, (closF X.env.cells sc.names []).lookup x = some c → X.env.cells.lookup x = some c := fun x c e => B.back I.ok e
  -- the iterator's objects within the block
  have stat : ∀ {H' : Hp}, (∀ b ∈ fp, H' b = none) → ∀ b ∈ fp, FpOk (X.block N sc C s H fp) [] H' b := fun {H'} hn b hb => by
    obtain ⟨f, lt⟩ := hfs b hb
    refine ⟨hn b hb, ?_, fun z => ?_, .inl hb, fun x c e => f.2.2.2.2.1 x c (cne x c e), fun p hp => absurd (show p ∈ ([] : List (Addr × Obj)) ++ [] from hp) (by simp)⟩
    · show b ≠ C
      rw [hC]; exact Nat.ne_of_lt (Nat.lt_succ_of_lt lt)
    · rcases List.mem_cons.mp (I.stkSub b z) with e | e
      · exact f.2.1 e
      · exact f.2.2.1 e
  have fin : ∀ {τ : St} {H' : Hp} {s' : Shared}, Inv (X.block N sc C s H fp) [] τ H' s' → Q (.ref s.heap.objs.size) H' → CompEnd X pins σ Q s.heap.objs.size C s' := fun {τ H' s'} J' q => by
    have hch : ∀ b ∈ fp, (b ∈ X.ex ∨ X.s₀.heap.objs.size ≤ b) ∧ b ≠ X.env.locals ∧ (∀ x c, X.env.cells.lookup x = some c → c ≠ b) ∧ ∀ p ∈ X.pn ++ pins, p.1 ≠ b := fun b hb =>
      let f := hf b hb; ⟨f.2.2.2.1, f.2.1, f.2.2.2.2.1, f.2.2.2.2.2⟩
    refine ⟨H', I.call' (ch := fp) J'.os J'.base J'.hok J'.bare hch, I.fpOk (by rw [hC]; exact Nat.le_succ _) J'.free, ?_, q⟩
    obtain ⟨m, hn, _⟩ := J'.loc
    exact ⟨m, hn⟩
  have loop : ∀ s₃ : Shared, s₃ = { s with heap := h₁, toks := s.toks + ([] : List (Str × Value)).length } →
      codeAny (model X.prog X.w) X.A (.compLoop (.ListComp elt [⟨tg, iter, ifs, 0⟩] sc pos) 0 (.ref it) (.ref s.heap.objs.size) (X.block N sc C s H fp).env) (RR (.ref s.heap.objs.size) C) s₃ := by
    rintro s₃ rfl
    refine compLoop_any (fun n s' => ∃ i ys τ H', Inv (X.block N sc C s H fp) [] τ H' s' ∧ tn i s'.heap ∧ (∀ b ∈ fp, H' b = none) ∧ W i n ys τ H') ?_ m0 ⟨0, [], _, _, I0, h01, fun b hb => ?_, w0⟩
    · rintro n s3 ⟨i, ys, τ, H3, I3, st3, fr3, w3⟩
      obtain ⟨hD3, stop | ⟨go, hlt, M, hM, step⟩⟩ := turn i n ys τ H3 w3
      · refine thn (T.done (X.block N sc C s H fp) rfl rfl rfl hc i [] s3 τ H3 _ I3 (stat fr3) st3 stop.1) fun r s4 ⟨hr, I4⟩ => ?_
        subst hr
        exact hRR _ _ _ (fin I4 stop.2)
      · refine thn (T.item (X.block N sc C s H fp) rfl rfl rfl hc i [] s3 τ H3 _ I3 (stat fr3) st3 go) fun r s4 ⟨u, hr, h4⟩ => ?_
        subst hr
        refine thn h4 fun _ s5 ⟨x, H5, I5, r5, y5, st5, fr5⟩ => ?_
        have I5' := I5.pinned (stat fr5) (T.obj _ _ st5)
        refine wpAny_mono (hg C s H fp _ s5 τ H5 x u _ I5' r5 (step x H5 y5)) (fun _ s6 ⟨τ6, H6, I6, q6⟩ => ?_) (fun _ _ z => False.elim z)
        refine wpAny_mono (ht C s H fp _ s6 τ6 H6 _ I6 q6) (fun ok s7 ⟨H7, I7, q7⟩ => ?_) (fun _ _ z => False.elim z)
        have again : ∀ {τ8 : St} {H8 : Hp} {s8 : Shared} {zs : List V}, Inv (X.block N sc C s H fp) ([] ++ pinsAt fp s5.heap) τ8 H8 s8 → M zs τ8 H8 →
            ∃ m, m < n ∧ ∃ i ys τ H', Inv (X.block N sc C s H fp) [] τ H' s8 ∧ tn i s8.heap ∧ (∀ b ∈ fp, H' b = none) ∧ W i m ys τ H' := fun {τ8 H8 s8 zs} I8 w8' => by
          obtain ⟨m', hm, w8⟩ := hM zs τ8 H8 w8'
          refine ⟨m', hm, i + 1, zs, τ8, H8, I8.unpinned, T.keep _ _ _ st5 fun b hb o e => (I8.pin (b, o) (List.mem_append_right _ (List.mem_append_right _ (mem_pinsAt hb e)))).1, fun b hb => ?_, w8⟩
          obtain ⟨o, e, d⟩ := T.obj _ _ st5 b hb
          exact (I8.pin (b, o) (List.mem_append_right _ (List.mem_append_right _ (mem_pinsAt hb e)))).2.1
        cases ok with
        | false => exact again I7 q7
        | true =>
          refine wpAny_mono (he C s H fp _ s7 τ6 H7 _ I7 q7) (fun v s8 ⟨y, H8, I8, r8, hD8, q8⟩ => ?_) (fun _ _ z => False.elim z)
          refine wpAny_mono (mt_append (X := X.block N sc C s H fp) _ s8 τ6 H8 (.ref s.heap.objs.size) [y] (.ref s.heap.objs.size) [v] (fun _ H9 => M (ys ++ [y]) τ6 H9) I8 rfl (.cons r8 .nil) ⟨_, ys, y, rfl, rfl, hD8, hlt, q8⟩) (fun _ s9 ⟨_, H9, I9, _, q9⟩ => again I9 q9) (fun _ _ z => False.elim z)
    · have hne : b ≠ s.heap.objs.size := Nat.ne_of_lt (hfs b hb).2
      rw [upd_ne hne]
      exact (hf b hb).1
  exact codeAny_compStart_list (loop _ rfl) (T.self X.A 0 _ _ _ h01 (loop _ rfl))

/-- a comprehension as a value -/
theorem pe_comp (hc : X.calm = true) (B : BlockOk X.N X.env.scope N sc cap) (hi : PI X tg iter wi)
    (hg : ∀ C s H ex, PG (X.block N sc C s H ex) tg g) (ht : ∀ C s H ex, PTs (X.block N sc C s H ex) ifs tc) (he : ∀ C s H ex, PE (X.block N sc C s H ex) elt te)
    (hs : ∀ x, foldedSetIterable iter X.env x = pure x := by intro _; rfl) : PE X (.ListComp elt [⟨tg, iter, ifs, 0⟩] sc pos) (tComp wi g tc te (capSt cap)) := by
  intro pins s σ H Q I h
  rw [eval_ListComp]
  refine wpAny_comprehension_free (use := none) rfl hs (closureFor_eq (B.cells I.ok)) B.kind B.loc (thn (hi pins s σ H _ I h) fun xv s₁ h₁ => thn h₁ fun itv s₂ h₂ => ?_)
  obtain ⟨it, fp, tn, J, H2, e, I2, T, st2, f2, h2⟩ := h₂
  subst e
  refine comp_block (RR := fun acc C => compPost (model X.prog X.w) X.A X.xe none (EP X pins σ Q) acc C) hc B hg ht he I2 T st2 f2 h2 fun D C s' q => ?_
  obtain ⟨H', I', fC, ⟨m, hn⟩, q⟩ := q.ex
  refine ⟨m, hn, fun h' sb => ⟨.ref D, H', ?_, rfl, q⟩⟩
  exact I'.turned (t' := s'.toks) (fun b o hb e => (sb.2 b hb).trans e) fC.1 fC.2.1 fC.2.2.2.1 fC.2.2.2.2.1 fC.2.2.2.2.2

/-- name = comprehension, where the store comes ahead of the block's leaving -/
theorem ps_setC {i : Nat} {y : Str} {py spos : Pos} (hN : X.N.Nodup) (hiN : X.N[i]? = some y) (hx : Loc X.env.scope y) (hc : X.calm = true) (B : BlockOk X.N X.env.scope N sc cap) (hi : PI X tg iter wi)
    (hg : ∀ C s H ex, PG (X.block N sc C s H ex) tg g) (ht : ∀ C s H ex, PTs (X.block N sc C s H ex) ifs tc) (he : ∀ C s H ex, PE (X.block N sc C s H ex) elt te)
    (hsw : swapsWith (.ListComp elt [⟨tg, iter, ifs, 0⟩] sc pos) (some (.Name y py)) spos.line X.env = pure true := by rfl)
    (hs : ∀ x, foldedSetIterable iter X.env x = pure x := by intro _; rfl) (hfn : X.fn y = true ∨ X.env.scope.names.lookup y = some .local := by first | exact .inl rfl | exact .inr rfl | assumption) :
    PS X (.Assign [.Name y py] (.ListComp elt [⟨tg, iter, ifs, 0⟩] sc pos) spos) (tAsg (tComp wi g tc te (capSt cap)) (gName i)) := by
  intro pins s σ H Dn I h
  rw [exec_Assign_Name_used _ _ _ _ hsw]
  refine wpAny_bind (wpAny_standAt (wpAny_bind ?_))
  show wpAny _ X.A (do let _ ← comprehension (.ListComp elt [⟨tg, iter, ifs, 0⟩] sc pos) sc X.env _ (newList []) false (eval iter X.env) (some (assign (.Name y py) X.env))) _ _ s
  refine wpAny_bind (wpAny_mono (wpAny_comprehension_free (use := some (assign (.Name y py) X.env)) (Q := fun _ s' => SP X pins Dn .next s') rfl hs (closureFor_eq (B.cells I.ok)) B.kind B.loc
    (thn (hi pins s σ H _ I h) fun xv s₁ h₁ => thn h₁ fun itv s₂ h₂ => ?_)) (fun _ s' hq => wpAny_pure (wpAny_pure hq)) fun _ _ e => e)
  obtain ⟨it, fp, tn, J, H2, e, I2, T, st2, f2, h2⟩ := h₂
  subst e
  refine comp_block (Q := fun x H1 => gName i x σ H1 Dn.nx) (RR := fun acc C => compPost (model X.prog X.w) X.A X.xe (some (assign (.Name y py) X.env)) (fun _ s' => SP X pins Dn .next s') acc C) hc B hg ht he I2 T st2 f2 h2 fun D C s' q => ?_
  obtain ⟨H', I', fC, ⟨m, hn⟩, q⟩ := q.ex
  show wpAny _ X.A (assign (.Name y py) X.env (.ref D)) _ _ _
  refine wpAny_assign_Name (store_ok2 I' hN hiN hx (v := .ref D) rfl (fun s'' I'' ⟨a, sb, ha⟩ => ?_) hfn)
  have hCa : C ≠ a := by
    rcases ha with ha | ha
    · rw [ha]; exact fC.2.1
    · exact fun z => fC.2.2.2.2.1 y a ha z.symm
  refine ⟨m, hn.sameBut sb hCa, fun h' sb' => ⟨_, H', ?_, q⟩⟩
  exact I''.turned (t' := s''.toks) (fun b o hb e => (sb'.2 b hb).trans e) fC.1 fC.2.1 fC.2.2.2.1 fC.2.2.2.2.1 fC.2.2.2.2.2
end

/-! ### the forms one uses: n turns, an invariant over the turn, what was gathered, the block's names, the heap -/
theorem comp_by {J : It} {g : TG} {tc : TT} {te : TE} {τ0 : St} {H1 : Hp} {Q : VK} {D : Addr} (n : Nat) (hn : n ≤ sizeLine) (Pv : Nat → List V → St → Hp → Prop) (h0 : Pv 0 [] τ0 (upd H1 D (.lst [])))
    (hD : ∀ i ys τ H, Pv i ys τ H → H D = some (.lst ys) ∧ ys.length ≤ i)
    (hs : ∀ i ys τ H, i < n → Pv i ys τ H → J.go i H ∧ ∀ x H3, J.yld i H x H3 → g x τ H3 fun τ' H4 => tc τ' H4 fun c H5 => if c = true then te τ' H5 fun y H6 => H6 D = some (.lst ys) ∧ Pv (i + 1) (ys ++ [y]) τ' (upd H6 D (.lst (ys ++ [y]))) else Pv (i + 1) ys τ' H5)
    (he : ∀ ys τ H, Pv n ys τ H → J.stop n H ∧ Q (.ref D) H) : CompW J g tc te τ0 H1 Q D := by
  refine ⟨fun i m ys τ H => m = n - i ∧ i ≤ n ∧ Pv i ys τ H, ⟨n, rfl, Nat.zero_le _, h0⟩, ?_⟩
  rintro i m ys τ H ⟨rfl, hi, p⟩
  obtain ⟨hd, hl⟩ := hD i ys τ H p
  refine ⟨hd, ?_⟩
  by_cases hlt : i < n
  · obtain ⟨go, st⟩ := hs i ys τ H hlt p
    exact .inr ⟨go, by omega, Pv (i + 1), fun zs τ' H' q => ⟨n - (i + 1), by omega, rfl, hlt, q⟩, st⟩
  · have e : i = n := by omega
    subst e
    exact .inl (he ys τ H p)
end L2

set_option Elab.async false
set_option linter.all false
set_option maxRecDepth 100000
set_option maxHeartbeats 4000000
/-! EXCEPTIONS over the hand layer: raise of an own class, the way through the frames, try with one clause -/
namespace L2
open PySem PySem.Spec PyProof.Rows

/-! ### what is tracked stands in the heap -/
theorem ObjOk.there {P : Program} {w : World} {H : Hp} {h : Heap} {a : Addr} {o : HO} (x : ObjOk P w H h a o) : ∃ ob, h.get? a = some ob := by
  cases o with
  | lst xs => obtain ⟨_, _, _, _, e⟩ := x; exact ⟨_, e⟩
  | tup xs => obtain ⟨_, _, _, ob, e, _⟩ := x; exact ⟨ob, e⟩
  | dK kvs => obtain ⟨_, _, _, _, o, _, _, e, _⟩ := x; exact ⟨o, e⟩
  | dT kvs => obtain ⟨_, _, _, _, o, _, _, e, _⟩ := x; exact ⟨o, e⟩
  | set S n => obtain ⟨o, _, _, _, e, _⟩ := x; exact ⟨o, e⟩
  | ins C dx fs => obtain ⟨_, _, _, e, _⟩ := x; exact ⟨_, e⟩
  | own y => obtain ⟨o, e⟩ := x; exact ⟨o, e⟩
  | xd fs => obtain ⟨_, ⟨o, _, _, e, _⟩, _⟩ := x; exact ⟨o, e⟩
  | rng lo hi => obtain ⟨_, _, _, e⟩ := x; exact ⟨_, e⟩
  | frz ob u => obtain ⟨e, _⟩ := x; exact ⟨ob, e⟩
  | tbl ps => exact ⟨_, (show h.get? a = some _ from x)⟩
  | met f y => exact ⟨_, (show h.get? a = some _ from x)⟩
  | ext φ => obtain ⟨_, ⟨o, e⟩, _⟩ := x; exact ⟨o, e⟩
theorem HOk.there {P : Program} {w : World} {H : Hp} {h : Heap} {a : Addr} {o : HO} (x : HOk P w H h) (e : H a = some o) : ∃ ob, h.get? a = some ob := (x a o e).there
theorem HOk.none_of {P : Program} {w : World} {H : Hp} {h : Heap} {a : Addr} (x : HOk P w H h) (e : h.get? a = none) : H a = none := by
  cases q : H a with
  | none => rfl
  | some o =>
    obtain ⟨ob, e'⟩ := x.there q
    rw [e] at e'
    cases e'

/-! ### an exception in flight -/
structure Fly (h : Heap) (H : Hp) (h0 : Heap) (e : Addr) (cls : Value) : Prop where
  ex : ∃ (oe : Obj) (vs : Array Value) (T : Addr) (oT : Obj) (ts : Array Value) (a0 : Value), h.get? e = some oe ∧ oe.cls = cls ∧ oe.data = .fields vs ∧ vs[0]? = some a0 ∧ vs[1]? = some (.ref T) ∧ T ≠ e ∧
    h.get? T = some oT ∧ oT.data = .fields ts ∧ ts[3]? = some .none ∧ H T = none ∧ h0.get? T = none
  free : H e = none
  new : h0.get? e = none
def CXo (P : Program) (w : World) : CXT := fun outer H s E x s' => ∃ (e : Addr) (cls : Value) (H' : Hp), x = .ref e ∧ Fly s'.heap H' s.heap e cls ∧ s'.os = s.os ∧ AllBare s'.gens ∧ Un (frs outer) [] H H' s.heap s'.heap ∧ HOk P w H' s'.heap ∧ E cls none H'

section
variable {X : Cx} {pins : List (Addr × Obj)} {σ : St} {H : Hp} {s s' : Shared}

/-- all objects kept but the frames' slots -/
theorem Inv.slots (I : Inv X pins σ H s) (ho : s'.os = s.os) (hg : AllBare s'.gens) (kp : ∀ b o, s.heap.get? b = some o → b ∉ frs X.stack → s'.heap.get? b = some o)
    (sl : ∀ b o, s.heap.get? b = some o → b ∈ frs X.stack → ∃ sl, s'.heap.get? b = some { o with slots := sl }) : Inv X pins σ H s' := by
  refine I.call' (ch := []) ho ⟨fun b o e _ hb _ => kp b o e hb, fun b o e _ hb _ => sl b o e hb, fun _ _ _ n _ => n, fun b o e _ => ?_, fun _ _ e => e, fun _ _ _ e => e, fun b ps e => ⟨#[], by rw [e]; simp⟩⟩ (fun b u e => ?_) hg (fun b hb => absurd hb (by simp))
  · by_cases hb : b ∈ frs X.stack
    · obtain ⟨sl', e'⟩ := sl b o e hb
      exact ⟨_, e'⟩
    · exact ⟨o, kp b o e hb⟩
  · have nf : ∀ c v, H c = some v → c ∉ frs X.stack := fun c v q z => by
      rw [I.stkFree c z] at q
      cases q
    refine (I.hok b u e).stay (fun c v hc q => kp c v q ?_) (fun _ q => q) fun _ _ q => q
    rcases hc with rfl | hc
    · exact nf _ _ e
    · exact nf _ _ hc

/-- what stood at the entry stands now -/
theorem Inv.old (I : Inv X pins σ H s) (hx : X.ex = []) {b : Addr} {o : Obj} (e : X.s₀.heap.get? b = some o) : ∃ o', s.heap.get? b = some o' := I.base.there b o e (by rw [hx]; simp)

/-- the frame is left by an exception that was made here -/
theorem leave_made {E : XK} {P : Program} {w : World} {K : PySem.W.Frag} {mg : Str → Option Value} {base : Heap} {N : List Str} {qual : Str} {scope : Scope} {f : Addr} {cd : Value} {A : Around} {outer : List Env} {s0 : Shared} {H0 : Hp}
    {h' : Heap} {e : Addr} {cls : Value} {vs : List Value} (I : Inv (cxOf (CXo P w) P w K mg base N qual scope f cd A outer s0 H0 E) pins σ H s) (m : Heap.MadeExcOf s.heap h' e cls vs) (q : E cls none H) :
    (cxOf (CXo P w) P w K mg base N qual scope f cd A outer s0 H0 E).xe (.ref e) { s with heap := h' } := by
  have hst := I.stack
  have hmem : ∀ env ∈ (envOfC qual scope s0.heap.objs.size f cd :: outer), ∀ a, env.frame = some a → a ∈ frs (envOfC qual scope s0.heap.objs.size f cd :: outer) := fun env he a ha => List.mem_filterMap.mpr ⟨env, he, ha⟩
  have hB : ∀ b o, s.heap.get? b = some o → b ∉ frs (envOfC qual scope s0.heap.objs.size f cd :: outer) → (PySem.W.hideAll s.heap (frs (envOfC qual scope s0.heap.objs.size f cd :: outer))).get? b = some o := fun b o e hb => PySem.W.hideAll_get _ e hb
  refine wpAny_leaves_madeW (base := PySem.W.hideAll s.heap (frs (envOfC qual scope s0.heap.objs.size f cd :: outer))) I.ok.frames rfl (fun b o e => PySem.W.of_hideAll _ e) (PySem.W.funFrames_hide hst hmem) m fun h'' t fl _ _ up => ?_
  have kp : ∀ b o, s.heap.get? b = some o → b ∉ frs (envOfC qual scope s0.heap.objs.size f cd :: outer) → h''.get? b = some o := fun b o e hb => fl.1 b o (hB b o e hb)
  have sl : ∀ b o, s.heap.get? b = some o → b ∈ frs (envOfC qual scope s0.heap.objs.size f cd :: outer) → ∃ sl, h''.get? b = some { o with slots := sl } := fun b o e hb => by
    obtain ⟨_, o', e', hd⟩ := hst.mem hb
    rw [e] at e'
    cases e'
    exact up b o (m.keeps b o e) hd
  have I2 : Inv (cxOf (CXo P w) P w K mg base N qual scope f cd A outer s0 H0 E) pins σ H { s with heap := h'' } := I.slots rfl I.bare kp sl
  have he : H e = none := I.hok.none_of m.new
  have h0e : s0.heap.get? e = none := by
    cases q : s0.heap.get? e with
    | none => rfl
    | some o =>
      obtain ⟨o', e'⟩ := I.old rfl q
      rw [m.new] at e'
      cases e'
  obtain ⟨_, _, hfr, oe, ws, T, oT, ts, g1, ⟨g2, g3⟩, g4, g5, g6, g7, g8, g9, g10⟩ := fl
  have hT : ∀ o, s.heap.get? T = some o → T ∈ frs (envOfC qual scope s0.heap.objs.size f cd :: outer) := fun o e => by
    by_cases hb : T ∈ frs (envOfC qual scope s0.heap.objs.size f cd :: outer)
    · exact hb
    · have := hB T o e hb
      rw [g6] at this
      cases this
  refine ⟨e, cls, H, rfl, ⟨⟨oe, ws, T, oT, ts, _, g1, g2, g4, g3, g5, g7, g8, g9, g10, ?_, ?_⟩, he, h0e⟩, I2.os, I2.bare, I2.base, I2.hok, q⟩
  · cases z : H T with
    | none => rfl
    | some u =>
      obtain ⟨ob, e'⟩ := I.hok.there z
      have := I.stkFree T (hT ob e')
      rw [z] at this
      cases this
  · cases z : s0.heap.get? T with
    | none => rfl
    | some u =>
      obtain ⟨ob, e'⟩ := I.old rfl z
      have hm := hT ob e'
      have hm' : T = s0.heap.objs.size ∨ T ∈ frs outer := List.mem_cons.mp hm
      rcases hm' with z' | z'
      · exact absurd (Heap.lt_size z) (by rw [z']; exact Nat.lt_irrefl _)
      · obtain ⟨_, o', e'', hd⟩ := hfr.mem z'
        rw [g8] at e''
        cases e''
        exact absurd g9 (hd ts)

/-- an exception of a callee leaves the frame -/
theorem leave_on {E : XK} {P : Program} {w : World} {K : PySem.W.Frag} {mg : Str → Option Value} {base : Heap} {N : List Str} {qual : Str} {scope : Scope} {f : Addr} {cd : Value} {A : Around} {outer : List Env} {s0 : Shared} {H0 : Hp} :
    Passes (CXo P w) (cxOf (CXo P w) P w K mg base N qual scope f cd A outer s0 H0 E) E := by
  intro pins σ H s x s' I hx
  obtain ⟨e, cls, H', rfl, F, os, bare, un, hok, q⟩ := hx
  have I1 : Inv (cxOf (CXo P w) P w K mg base N qual scope f cd A outer s0 H0 E) pins σ H' s' := I.call' (ch := []) os un hok bare (fun b hb => absurd hb (by simp))
  obtain ⟨⟨oe, ws, T, oT, ts, a0, g1, g2, g3, g4, g5, g6, g7, g8, g9, g10, g11⟩, he, hn⟩ := F
  have hst := I1.stack
  have hmem : ∀ env ∈ (envOfC qual scope s0.heap.objs.size f cd :: outer), ∀ a, env.frame = some a → a ∈ e :: T :: frs (envOfC qual scope s0.heap.objs.size f cd :: outer) := fun env he a ha =>
    List.mem_cons_of_mem _ (List.mem_cons_of_mem _ (List.mem_filterMap.mpr ⟨env, he, ha⟩))
  have hB : ∀ b o, s'.heap.get? b = some o → b ∉ e :: T :: frs (envOfC qual scope s0.heap.objs.size f cd :: outer) → (PySem.W.hideAll s'.heap (e :: T :: frs (envOfC qual scope s0.heap.objs.size f cd :: outer))).get? b = some o := fun b o e hb => PySem.W.hideAll_get _ e hb
  have hfl : Heap.FlyingW (PySem.W.hideAll s'.heap (e :: T :: frs (envOfC qual scope s0.heap.objs.size f cd :: outer))) (envOfC qual scope s0.heap.objs.size f cd :: outer) e cls a0 s'.heap :=
    ⟨fun b o e => PySem.W.of_hideAll _ e, PySem.W.hideAll_none _ List.mem_cons_self, PySem.W.funFrames_hide hst hmem, oe, ws, T, oT, ts, g1, ⟨g2, g4⟩, g3, g5, PySem.W.hideAll_none _ (List.mem_cons_of_mem _ List.mem_cons_self), g6, g7, g8, g9⟩
  refine wpAny_leaves_onW I.ok.frames rfl hfl fun h'' fl up => ?_
  have nof : ∀ b, s.heap.get? b = none → s0.heap.get? b = none := fun b z => by
    cases q : s0.heap.get? b with
    | none => rfl
    | some o =>
      obtain ⟨o', e'⟩ := I.old rfl q
      rw [z] at e'
      cases e'
  -- the exception and its entry are no objects of the entry, no tracked ones, no frames
  have offe : e ∉ frs (envOfC qual scope s0.heap.objs.size f cd :: outer) := fun hb => by
    obtain ⟨_, o', e', hd⟩ := hst.mem hb
    rw [g1] at e'
    cases e'
    exact hd ws g3
  have offT : T ∉ frs (envOfC qual scope s0.heap.objs.size f cd :: outer) := fun hb => by
    obtain ⟨_, o', e', hd⟩ := hst.mem hb
    rw [g7] at e'
    cases e'
    exact hd ts g8
  have kp : ∀ b o, s'.heap.get? b = some o → b ≠ e → b ≠ T → b ∉ frs (envOfC qual scope s0.heap.objs.size f cd :: outer) → h''.get? b = some o := fun b o q n1 n2 n3 => fl.1 b o (hB b o q (by simp [n1, n2, n3]))
  have sl : ∀ b o, s'.heap.get? b = some o → b ∈ frs (envOfC qual scope s0.heap.objs.size f cd :: outer) → ∃ sl, h''.get? b = some { o with slots := sl } := fun b o q hb => by
    obtain ⟨_, o', e', hd⟩ := hst.mem hb
    rw [q] at e'
    cases e'
    exact up b o q hd
  obtain ⟨_, _, hfr, oe2, ws2, T2, oT2, ts2, k1, ⟨k2, k3⟩, k4, k5, k6, k7, k8, k9, k10⟩ := fl
  have hT2 : ∀ o, s'.heap.get? T2 = some o → T2 = T ∨ T2 ∈ frs (envOfC qual scope s0.heap.objs.size f cd :: outer) := fun o q => by
    by_cases n2 : T2 = T
    · exact .inl n2
    · by_cases n3 : T2 ∈ frs (envOfC qual scope s0.heap.objs.size f cd :: outer)
      · exact .inr n3
      · have := hB T2 o q (by simp [k7, n2, n3])
        rw [k6] at this
        cases this
  -- over the call and the leaving together
  have old : ∀ b o, s.heap.get? b = some o → b ≠ e ∧ b ≠ T := fun b o q => ⟨fun z => (by rw [z, hn] at q; cases q), fun z => (by rw [z, g11] at q; cases q)⟩
  have nt : ∀ b u, H' b = some u → b ≠ e ∧ b ≠ T ∧ b ∉ frs (envOfC qual scope s0.heap.objs.size f cd :: outer) := fun b u q => ⟨fun z => (by rw [z, he] at q; cases q), fun z => (by rw [z, g10] at q; cases q), fun z => (by rw [I1.stkFree b z] at q; cases q)⟩
  have I2 : Inv (cxOf (CXo P w) P w K mg base N qual scope f cd A outer s0 H0 E) pins σ H' { s' with heap := h'' } := by
    refine I.call' (ch := []) os ⟨fun b o q n hb _ => ?_, fun b o q n hb _ => ?_, fun b o q n hx => un.free b o q n hx, fun b o q hx => ?_, un.tups, un.frzs, un.tbls⟩ (fun b u q => ?_) bare (fun b hb => absurd hb (by simp))
    · exact kp b o (un.keep b o q n hb (by simp)) (old b o q).1 (old b o q).2 hb
    · obtain ⟨sl1, q1⟩ := un.slot b o q n hb (by simp)
      obtain ⟨sl2, q2⟩ := sl b _ q1 hb
      exact ⟨sl2, q2⟩
    · obtain ⟨o', q1⟩ := un.there b o q (by simp)
      by_cases hb : b ∈ frs (envOfC qual scope s0.heap.objs.size f cd :: outer)
      · obtain ⟨sl2, q2⟩ := sl b _ q1 hb
        exact ⟨_, q2⟩
      · exact ⟨o', kp b o' q1 (old b o q).1 (old b o q).2 hb⟩
    · refine (hok b u q).stay (fun c v hc z => ?_) (fun _ z => z) fun _ _ z => z
      rcases hc with rfl | hc
      · exact kp _ v z (nt _ _ q).1 (nt _ _ q).2.1 (nt _ _ q).2.2
      · exact kp _ v z (nt _ _ hc).1 (nt _ _ hc).2.1 (nt _ _ hc).2.2
  refine ⟨e, cls, H', rfl, ⟨⟨oe2, ws2, T2, oT2, ts2, _, k1, k2, k4, k3, k5, k7, k8, k9, k10, ?_, ?_⟩, he, nof e hn⟩, I2.os, I2.bare, I2.base, I2.hok, q⟩
  · cases z : H' T2 with
    | none => rfl
    | some u =>
      obtain ⟨ob, e'⟩ := hok.there z
      rcases hT2 ob e' with z' | z'
      · rw [z', g10] at z
        cases z
      · rw [I1.stkFree T2 z'] at z
        cases z
  · cases z : s0.heap.get? T2 with
    | none => rfl
    | some u =>
      obtain ⟨ob, e'⟩ := I1.old rfl z
      rcases hT2 ob e' with z' | z'
      · rw [z', nof T g11] at z
        cases z
      · have hm' : T2 = s0.heap.objs.size ∨ T2 ∈ frs outer := List.mem_cons.mp z'
        rcases hm' with w' | w'
        · exact absurd (Heap.lt_size z) (by rw [w']; exact Nat.lt_irrefl _)
        · obtain ⟨_, o', e'', hd⟩ := hfr.mem w'
          rw [k8] at e''
          cases e''
          exact absurd k9 (hd ts2)
end

/-! ### an own error class -/
/-- what the fragment says of an own class under ValueError without an __init__ -/
structure ExcC (K : PySem.W.Frag) (mg : Str → Option Value) (x : Str) (C : Addr) : Prop where
  mg : mg x = some (.ref C)
  ok : PySem.W.excIn K C [.type "ValueError", .type "Exception", .type "BaseException", .type "object"] "ValueError.__new__" = true
theorem exc_obj {K : PySem.W.Frag} {h : Heap} {C : Addr} {bmB : List Value} {newId : String} (X : K.In h) (q : PySem.W.excIn K C bmB newId = true) :
    ∃ bm N nm qn bs hdct sn sub ab col dd k0 k1 k2 k3 k5 mN, h.get? C = some (excClassObj nm qn C N bs bm hdct sn sub ab col dd k0 k1 k2 k3 k5 newId) ∧ h.Ns N mN ∧ mN "__init__" = none ∧ OwnTail h bmB bm := by
  unfold PySem.W.excIn at q
  split at q
  · rename_i dd cd sl ho
    split at q
    · rename_i C' bm k0 k1 k2 k3 n k5 hm hs
      simp only [Bool.and_eq_true, beq_iff_eq, Bool.not_eq_true'] at q
      obtain ⟨⟨⟨⟨⟨rfl, rfl⟩, hdel⟩, ht⟩, hok⟩, hni⟩ := q
      obtain ⟨nm, bs, mro, ns, qn, hd, sn, sub, ab, col, del⟩ := cd
      dsimp only at hm hdel hok hni
      subst hm hdel
      have hsl : sl = #[k0, k1, k2, k3, some (.builtin n), k5] := by
        obtain ⟨l⟩ := sl
        simp only at hs
        rw [hs]
      subst hsl
      exact ⟨bm, ns, nm, qn, bs, hd, sn, sub, ab, col, dd, k0, k1, k2, k3, k5, _, X _ _ ho, .of_isNs (PySem.W.isNs_of_in X hok), PySem.W.nsMap_none_of_in X hok hni, PySem.W.tail_of_in X ht⟩
    · cases q
  · cases q

/-- what may be raised: the class's own exceptions reach what is wanted -/
def Leaves (X : Cx) (E : St → XK) : Prop := ∀ (pins : List (Addr × Obj)) (σ : St) (H : Hp) (s : Shared) (h' : Heap) (e : Addr) (cls : Value) (vs : List Value), Inv X pins σ H s → Heap.MadeExcOf s.heap h' e cls vs → E σ cls none H → X.xe (.ref e) { s with heap := h' }
theorem leaves_cx {E : XK} {P : Program} {w : World} {K : PySem.W.Frag} {mg : Str → Option Value} {base : Heap} {N : List Str} {qual : Str} {scope : Scope} {f : Addr} {cd : Value} {A : Around} {outer : List Env} {s0 : Shared} {H0 : Hp} :
    Leaves (cxOf (CXo P w) P w K mg base N qual scope f cd A outer s0 H0 E) (fun _ => E) := fun _ _ _ _ _ _ _ _ I m q => leave_made I m q

section
variable {X : Cx} {x : Str} {C : Addr} {e0 : Expr} {es : List Expr} {np cpos pos : Pos} {t : TA} {E : St → XK}
def tRaise (C : Addr) (E : St → XK) (t : TA) : TS := fun _ σ H => t σ H fun vs H1 => vs.length ≤ sizeLine ∧ E σ (.ref C) none H1
theorem ps_raise (hc : X.calm = true) (c : ExcC X.K X.mg x C) (hL : Leaves X E) (hg : Gl X x) (ha : PA X (e0 :: es) t) (hd : (x == ("__debug__" : Str)) = false := by decide)
    (he : starEach (e0 :: es) X.env = (false, eval e0 X.env) :: starEach es X.env := by rfl) (hpl : (backTo cpos (starEach es X.env)).any (·.1) = false := by rfl) :
    PS X (.Raise (some (.Call (.Name x np) (e0 :: es) [] cpos)) none pos) (tRaise C E t) := by
  intro pins s σ H D I h
  obtain ⟨tl, N, nm, q, bs, hdct, sn, sub, ab, col, dd, k0, k1, k2, k3, k5, mN, hC, hN, hni, T⟩ := exc_obj I.ok.mod.kin c.ok
  refine wpAny_Raise_call_subT (C := C) (nm := nm) (q := q) (N := N) (bs := bs) (bm := tl) (hdct := hdct) (sn := sn) (sub := sub) (ab := ab) (col := col) (dd := dd) (k0 := k0) (k1 := k1) (k2 := k2) (k3 := k3) (k5 := k5)
    PySem.F.excBase_ValueError (mN := mN) (T.hasType PySem.F.excBase_ValueError.hasBase) (I.ok.hd hc) (by rw [he]; show (false || (backTo cpos (starEach es X.env)).any (·.1)) = false; rw [hpl]; rfl) hni (ld_glob I hg c.mg ⟨rfl, ?_⟩ hd)
  have ha' := ha cpos pins s σ H _ I h
  rw [he] at ha' ⊢
  exact Calls.evalArgs_plain (thn ha' fun us s2 ⟨vs, H2, I2, r2, hl, q2⟩ => ⟨rfl, by rw [← r2.length]; exact hl, I2.bk _ _ hC, hN.keeps I2.bk, T.keeps I2.bk, fun h' e m => hL pins σ H2 s2 h' e (.ref C) us I2 m q2⟩)
end

/-! ### calls whose exceptions are wanted by the names' values -/
def PassesX (CX : CXT) (X : Cx) (E : St → XK) : Prop := ∀ (pins : List (Addr × Obj)) (σ : St) (H : Hp) (s : Shared) (e : Value) (s' : Shared), Inv X pins σ H s → CX X.stack H s (E σ) e s' → X.xe e s'
theorem passes_cx {E : XK} {P : Program} {w : World} {K : PySem.W.Frag} {mg : Str → Option Value} {base : Heap} {N : List Str} {qual : Str} {scope : Scope} {f : Addr} {cd : Value} {A : Around} {outer : List Env} {s0 : Shared} {H0 : Hp} :
    PassesX (CXo P w) (cxOf (CXo P w) P w K mg base N qual scope f cd A outer s0 H0 E) (fun _ => E) := leave_on
def tCallX (sp : Sp) (dvs : List V) (E : St → XK) (t : TA) : TE := fun σ H Q => t σ H fun vs H1 => sp (vs ++ dvs) H1 Q (E σ)
def tMethX (C : Addr) (m : Str) (sp : Sp) (dvs : List V) (E : St → XK) (ta : TE) (t : TA) : TE := fun σ H Q => ta σ H fun x H1 => ∃ a dx fs, x = .ref a ∧ H1 a = some (.ins C dx fs) ∧ fs.lookup m = none ∧
  t σ H1 fun vs H2 => sp (x :: (vs ++ dvs)) H2 Q (E σ)
def tMakeX (C : Addr) (sp : Sp) (dvs : List V) (E : St → XK) (t : TA) : TE := fun σ H Q => t σ H fun vs H1 => ∀ x dx, H1 x = none → H1 dx = none → dx ≠ x →
  sp (.ref x :: (vs ++ dvs)) (upd (upd H1 dx (.own x)) x (.ins C dx [])) (fun v H2 => v = .non ∧ Q (.ref x) H2) (E σ)
section
variable {X : Cx} {CX : CXT} {k : Nat} {f C : Addr} {fd : FuncData} {ps : List Str} {sp : Sp} {dvs : List V} {ds : List Value} {E : St → XK} {x m : Str} {p pos apos : Pos} {e o : Expr} {es : List Expr} {ta : TE} {t : TA}
theorem run_fnX {E : XK} {pins : List (Addr × Obj)} {σ : St} {H : Hp} {s : Shared} {Q : VK} {us : List Value} {vs : List V} (F : FnOk X.prog X.w X.K X.mg X.base CX k f fd ps sp) (hr : Room k X.A) (hb : Binds X.K fd ps ds) (hd : Vals dvs ds)
    (hx : ∀ e s', CX X.stack H s E e s' → X.xe e s') (I : Inv X pins σ H s) (r : Vals vs us) (h : sp (vs ++ dvs) H Q E) : wpAny (model X.prog X.w) X.A (call (.ref f) us) (EP X pins σ Q) X.xe s := by
  have r2 : Vals (vs ++ dvs) (us ++ ds) := r.append hd
  have hl : (us ++ ds).length = ps.length := by rw [← r2.length]; exact F.len _ _ _ _ h
  refine wpAny_call (codeAny_mono (F.run X.A X.stack s H ⟨us, []⟩ (us ++ ds) (vs ++ dvs) Q E hr I.env0 (hb s us I.kIn hl) r2 h) fun r s' hq => ?_)
  cases r with
  | error e => exact hx e s' hq
  | ok fl =>
    cases fl with
    | ret u => exact I.after hq
    | next => exact False.elim hq
    | brk => exact False.elim hq
    | cont => exact False.elim hq
theorem pe_callX (F : FnOk X.prog X.w X.K X.mg X.base CX k f fd ps sp) (hr : Room k X.A) (hg : Gl X x) (hm : X.mg x = some (.ref f)) (hk : PySem.W.keepIn X.K (.ref f) = true) (hb : Binds X.K fd ps ds) (hd : Vals dvs ds) (hx : PassesX CX X E)
    (ha : PA X (e :: es) t) (hdb : (x == ("__debug__" : Str)) = false := by decide) (he : starEach (e :: es) X.env = (false, eval e X.env) :: starEach es X.env := by rfl) (hpl : (backTo pos (starEach es X.env)).any (·.1) = false := by rfl) :
    PE X (.Call (.Name x p) (e :: es) [] pos) (tCallX sp dvs E t) := by
  intro pins s σ H Q I h
  refine wpAny_Call_Name_kw (ld_glob I hg hm ?_ hdb)
  refine PySem.W.callWith_K (h₀ := X.base) I.ok.mod.kin hk (thn (ha pos pins s σ H _ I h) fun us s1 ⟨vs, H1, I1, r, q⟩ => ⟨I1.kIn, ?_⟩) he hpl
  exact run_fnX F hr hb hd (fun e s' => hx pins σ H1 s1 e s' I1) I1 r q
theorem pe_methX {pl : Sem Bool} (he : PE X o ta) (c : Cls X.K C) (hm : Meth X.K C m f) (F : FnOk X.prog X.w X.K X.mg X.base CX k f fd ps sp) (hr : Room k X.A) (hb : Binds X.K fd ps ds) (hd : Vals dvs ds) (hx : PassesX CX X E) (ha : PA X (e :: es) t)
    (hst : starEach (e :: es) X.env = (false, eval e X.env) :: starEach es X.env := by rfl) (hpl : (backTo pos (starEach es X.env)).any (·.1) = false := by rfl)
    (ht : eval (.Call (.Attribute o m apos) (e :: es) [] pos) X.env = (do
      let ov ← eval o X.env
      standAt apos.atName
      let (f, first) ← holding [ov] (getMethod ov m pl)
      callWith pos f first (backTo pos (starEach (e :: es) X.env)) (backToKw pos (keywordEach [] X.env))) := by rfl) :
    PE X (.Call (.Attribute o m apos) (e :: es) [] pos) (tMethX C m sp dvs E ta t) := by
  intro pins s σ H Q I h
  refine PySem.W.methodCall_KW (pl := pl) (thn (he pins s σ H _ I h) fun u s1 ⟨x, H1, I1, rx, a, dx, fs, ex, ea, l, q⟩ => ?_) ht
  subst ex
  obtain rfl : u = Value.ref a := rx
  refine getmeth_ok I1 ea c hm l ?_
  refine PySem.W.callWith_K (first := [.ref a]) (h₀ := X.base) I.ok.mod.kin hm.kp (thn (ha pos pins s1 σ H1 _ I1 q) fun us s2 ⟨vs, H2, I2, r, q2⟩ => ⟨I2.kIn, ?_⟩) hst hpl
  exact run_fnX (us := .ref a :: us) (vs := .ref a :: vs) F hr hb hd (fun e s' => hx pins σ H2 s2 e s' I2) I2 (.cons rfl r) q2
theorem run_makeX {E : XK} {pins : List (Addr × Obj)} {σ : St} {H : Hp} {s : Shared} {Q : VK} {us : List Value} {vs : List V} (M : Mk X.K C f) (F : FnOk X.prog X.w X.K X.mg X.base CX k f fd ps sp) (hr : Room (k + 1) X.A) (hb : Binds X.K fd ps ds) (hd : Vals dvs ds)
    (hx : ∀ H s e s', Inv X pins σ H s → CX X.stack H s E e s' → X.xe e s') (I : Inv X pins σ H s) (r : Vals vs us)
    (h : ∀ x dx, H x = none → H dx = none → dx ≠ x → sp (.ref x :: (vs ++ dvs)) (upd (upd H dx (.own x)) x (.ins C dx [])) (fun v H2 => v = .non ∧ Q (.ref x) H2) E) :
    wpAny (model X.prog X.w) X.A (call (.ref C) us) (EP X pins σ Q) X.xe s := by
  have hq := h (s.heap.objs.size + 1) s.heap.objs.size (I.hok.fresh (Nat.le_succ _)) (I.hok.fresh (Nat.le_refl _)) (Nat.ne_of_lt (Nat.lt_succ_self _))
  have I2 := Inv.made (C := C) I
  have r2 : Vals (V.ref (s.heap.objs.size + 1) :: (vs ++ dvs)) (Value.ref (s.heap.objs.size + 1) :: (us ++ ds)) := .cons rfl (r.append hd)
  have hl : (Value.ref (s.heap.objs.size + 1) :: us ++ ds).length = ps.length := by
    have e := r2.length
    rw [F.len _ _ _ _ hq] at e
    exact e.symm
  refine wpAny_call (make_map (f := f) I.kIn M.makes M.init (beq_iff_eq.mp M.fn) (codeAny_mono (F.run _ X.stack _ _ ⟨Value.ref (s.heap.objs.size + 1) :: us, []⟩ (Value.ref (s.heap.objs.size + 1) :: (us ++ ds)) _ _ E (hr.make C us [])
    (I2.env0.make C us []) (hb _ (Value.ref (s.heap.objs.size + 1) :: us) I2.kIn hl) r2 hq) fun r s' hq' => ?_))
  cases r with
  | error e => exact hx _ _ e s' I2 hq'
  | ok fl =>
    cases fl with
    | ret u =>
      obtain ⟨v, H', I3, rv, ev, q3⟩ := I2.after hq'
      subst ev
      exact ⟨rv, ⟨V.ref (s.heap.objs.size + 1), H', I3, rfl, q3⟩⟩
    | next => exact False.elim hq'
    | brk => exact False.elim hq'
    | cont => exact False.elim hq'
theorem pe_makeX (M : Mk X.K C f) (F : FnOk X.prog X.w X.K X.mg X.base CX k f fd ps sp) (hr : Room (k + 1) X.A) (hg : Gl X x) (hm : X.mg x = some (.ref C)) (hb : Binds X.K fd ps ds) (hd : Vals dvs ds) (hx : PassesX CX X E)
    (ha : PA X (e :: es) t) (hdb : (x == ("__debug__" : Str)) = false := by decide) (he : starEach (e :: es) X.env = (false, eval e X.env) :: starEach es X.env := by rfl) (hpl : (backTo pos (starEach es X.env)).any (·.1) = false := by rfl) :
    PE X (.Call (.Name x p) (e :: es) [] pos) (tMakeX C sp dvs E t) := by
  intro pins s σ H Q I h
  refine wpAny_Call_Name_kw (ld_glob I hg hm ?_ hdb)
  refine PySem.W.callWith_K (h₀ := X.base) I.ok.mod.kin M.kp (thn (ha pos pins s σ H _ I h) fun us s1 ⟨vs, H1, I1, r, q⟩ => ⟨I1.kIn, ?_⟩) he hpl
  exact run_makeX M F hr hb hd (fun H s e s' I' => hx pins σ H s e s' I') I1 r q
end

/-! ### a def whose exceptions are told -/
section
variable {P : Program} {w : World} {K : PySem.W.Frag} {mg : Str → Option Value} {base : Heap}
theorem Fun.okX {x qual : Str} {st : Stmt} {f : Addr} {fd : FuncData} {N ps : List Str} {k : Nat} {sp : Sp} (F : Fun K x qual st f fd) (S : FnScope N ps (defScope st)) (len : ∀ vs H Q E, sp vs H Q E → vs.length = ps.length)
    (hbody : ∀ (cdv : Value) (A : Around) (outer : List Env) (s : Shared) (H : Hp) (vs : List V) (Q : VK) (E : XK), Room k (A.deeper (envOfC qual (defScope st) s.heap.objs.size f cdv)) → sp vs H Q E →
      ∃ t, PSs (cxOf (CXo P w) P w K mg base N qual (defScope st) f cdv A outer s H E) (defBody st) t ∧ t { nx := fun _ H' => Q .non H', rt := Q } (start N vs) H) : FnOk P w K mg base (CXo P w) (k + 1) f fd ps sp := by
  obtain ⟨oc, od, kV, doc, pm, an, cdv, ct, osl, rfl, lk, hcd⟩ := F.ex
  exact fn_of lk hcd S len fun A outer s H vs Q E hr hsp => hbody cdv A outer s H vs Q E hr hsp
end
end L2

set_option Elab.async false
set_option linter.all false
set_option maxRecDepth 100000
set_option maxHeartbeats 4000000
/-! TRY, isinstance, all, any, zip of two lists, == of nested lists and tuples -/
namespace L2
open PySem PySem.Spec PyProof.Rows

section
variable {X : Cx} {pins pins' pn' : List (Addr × Obj)} {σ : St} {H H' : Hp} {s s1 : Shared}
end

/-! ### try with one clause that always returns -/
def Cx.tried (X : Cx) (pn : List (Addr × Obj)) (R : St → Value → Hp → Prop) : Cx :=
  { X with pn := pn, A := X.A, calm := X.calm, xe := fun x s₁ => ∃ (pins : List (Addr × Obj)) (σ : St) (H : Hp) (s : Shared), Inv { X with pn := pn, xe := X.xe, A := X.A, calm := X.calm } pins σ H s ∧ CXo X.prog X.w X.stack H s (fun cls _ H' => R σ cls H') x s₁ }
def Cx.held (X : Cx) (pn : List (Addr × Obj)) (e : Addr) (oe : Obj) : Cx := { X with pn := pn ++ [(e, oe)], xe := fun _ _ => False, A := X.A.mark (some (.ref e)), calm := false }
def TryR (X : Cx) (c : Value) (i : Nat) (suite : List Stmt) (D : Ends) : St → Value → Hp → Prop := fun σ cls H => PySem.W.exmOne X.K cls c = some true ∧
  ∀ (e : Addr) (oe : Obj) (pn : List (Addr × Obj)), oe.cls = cls → ∃ th, PSs (X.held pn e oe) suite th ∧ th { nx := fun _ _ => False, rt := D.rt } (σ.set i (some (.ref e))) H
def tTry (tb : Ends → TS) : TS := fun D σ H => tb D D σ H
end L2

set_option Elab.async false
set_option linter.all false
set_option maxRecDepth 100000
set_option maxHeartbeats 4000000
namespace L2
open PySem PySem.Spec PyProof.Rows

/-! ### isinstance -/
def clsV : V → Value
  | .ty n => .type n
  | .ref a => .ref a
  | _ => .none
theorem clsV_rel {c : V} {u : Value} (r : RelV c u) (h : clsV c ≠ .none) : u = clsV c := by
  cases c with
  | ty n => exact r
  | ref a => exact r
  | _ => exact absurd rfl h
theorem call_isi {X : Cx} : CallR X (.builtin "isinstance") (fun xs H Q => ∃ x c t b, xs = [x, c] ∧ TyOf X.K H x t ∧ clsV c ≠ .none ∧ PySem.W.kitOne X.K t (clsV c) = some b ∧ Q (.bl b) H) := by
  intro pins s σ H xs us Q I r h
  obtain ⟨x, c, t, b, rfl, ty, hc, hk, q⟩ := h
  obtain ⟨u, w', rfl, r1, r2⟩ := vals2 r
  rw [clsV_rel r2 hc]
  exact isinst_ok I r1 ty hk fun tk => ⟨.bl b, H, I.tok tk, rfl, q⟩

/-- what the fragment says of an own error class, for isinstance of its objects -/
structure ExcK (K : PySem.W.Frag) (C : Addr) : Prop where
  cl : (PySem.W.clsIn K C).isSome = true
  ga : PySem.W.findIn K (.ref C) "__getattribute__" = some (some (.builtin "BaseException.__getattribute__"))
  gh : PySem.W.findIn K (.ref C) "__getattr__" = some none
  ca : PySem.W.findIn K (.ref C) "__class__" = some (some (.builtin "object.__class__"))
  gt : PySem.W.specialIn K (.builtin "object.__class__") "__get__" = some (some (.builtin "getset_descriptor.__get__"))
  tk : PySem.W.takesIn K (.builtin "object.__class__") = some true
  mo : PySem.W.mroIn K C (.type "object") = some true
  mb : PySem.W.mroIn K C (.type "BaseException") = some true

section
open PySem.Builtin PySem.Builtin.ObjectAttr PySem.Builtin.Getset_descriptor
variable {prog : Program} {w : World} {A : Around} {E : Value → Shared → Prop} {K : PySem.W.Frag} {h : Heap} {g : Array GenState} {d : Drawn} {t : Nat} {os : OsState} {a C : Addr} {o : Obj}
end
end L2

set_option Elab.async false
set_option linter.all false
set_option maxRecDepth 100000
set_option maxHeartbeats 4000000
namespace L2
open PySem PySem.Spec PyProof.Rows

/-! ### all, any over a list of bools -/
theorem Vals.at {xs : List V} {us : List Value} {i : Nat} {u : Value} (r : Vals xs us) (h : us[i]? = some u) : ∃ x, xs[i]? = some x ∧ RelV x u := by
  have hl := r.length
  have hi : i < us.length := (List.getElem?_eq_some_iff.mp h).1
  have hx : xs[i]? = some (xs[i]'(by omega)) := List.getElem?_eq_getElem (by omega)
  obtain ⟨u', h1, h2⟩ := r.get hx
  rw [h] at h1
  cases h1
  exact ⟨_, hx, h2⟩
theorem all_range {bs : List Bool} : (List.range bs.length).all (fun i => (bs[i]?).getD false) = bs.all id := by
  rw [Bool.eq_iff_iff, List.all_eq_true, List.all_eq_true]
  constructor
  · intro h b hb
    obtain ⟨i, hi, e⟩ := List.mem_iff_getElem.mp hb
    have := h i (List.mem_range.mpr hi)
    rw [List.getElem?_eq_getElem hi] at this
    rw [← e]
    exact this
  · intro h i hi
    have hi' := List.mem_range.mp hi
    rw [List.getElem?_eq_getElem hi']
    exact h _ (List.getElem_mem hi')
theorem any_range {bs : List Bool} : (List.range bs.length).any (fun i => (bs[i]?).getD false) = bs.any id := by
  rw [Bool.eq_iff_iff, List.any_eq_true, List.any_eq_true]
  constructor
  · rintro ⟨i, hi, h⟩
    have hi' := List.mem_range.mp hi
    rw [List.getElem?_eq_getElem hi'] at h
    exact ⟨_, List.getElem_mem hi', h⟩
  · rintro ⟨b, hb, h⟩
    obtain ⟨i, hi, e⟩ := List.mem_iff_getElem.mp hb
    refine ⟨i, List.mem_range.mpr hi, ?_⟩
    rw [List.getElem?_eq_getElem hi, e]
    exact h
section
variable {X : Cx}
theorem bools_truth {A : Around} {prog : Program} {w : World} {bs : List Bool} {its : List Value} (r : Vals (bs.map V.bl) its) : TruthOf prog w A (fun i v => its.toArray[i]? = some v) (fun i => (bs[i]?).getD false) := by
  intro i v s Q E hP hQ
  obtain ⟨x, hx, rx⟩ := r.at (i := i) (u := v) (by simpa using hP)
  rw [List.getElem?_map] at hx
  cases e : bs[i]? with
  | none => rw [e] at hx; cases hx
  | some b =>
    rw [e] at hx
    cases hx
    cases rx
    have hQ : Q ((bs[i]?).getD false) s := hQ
    rw [e] at hQ
    exact wpAny_truthy_bool hQ
theorem call_all (hc : X.calm = true) : CallR X (.builtin "all") (fun xs H Q => ∃ (p : Addr) (bs : List Bool), xs = [.ref p] ∧ SqL X.K H p (bs.map V.bl) ∧ Q (.bl (bs.all id)) H) := by
  intro pins s σ H xs us Q I r h
  obtain ⟨p, bs, rfl, hq, q⟩ := h
  obtain ⟨u, rfl, rx⟩ := vals1 r
  cases rx
  obtain ⟨its, r', pl, hz⟩ := I.list hq
  obtain ⟨ol, hol, hol'⟩ := pl.isList
  have hlt : p < s.heap.objs.size := Heap.lt_size hol
  refine call_all_walk (wpAny_pyIter_list pl.isList ⟨s.heap.objs.size, _, _, _, _, _, fun i => (bs[i]?).getD false, rfl, Walks.list (A := X.A.in1) (show X.A.in1.handled = none from I.ok.hd hc) s.heap.objs.size p (Nat.ne_of_lt hlt) its.toArray, ⟨⟨_, Heap.get?_push_size _ rfl, rfl, rfl⟩, ⟨ol, Heap.get?_push_of_some _ hol, hol'⟩⟩, bools_truth r', fun h' tk hk => ?_⟩)
  refine ⟨.bl _, H, I.kept (t' := tk) (fun b o e => hk b o (by simpa using Nat.ne_of_lt (Heap.lt_size e)) (Heap.get?_push_of_some _ e)), rfl, ?_⟩
  have e : its.toArray.size = bs.length := by rw [List.size_toArray, ← r'.length, List.length_map]
  rw [e, all_range]
  exact q
theorem call_any (hc : X.calm = true) : CallR X (.builtin "any") (fun xs H Q => ∃ (p : Addr) (bs : List Bool), xs = [.ref p] ∧ SqL X.K H p (bs.map V.bl) ∧ Q (.bl (bs.any id)) H) := by
  intro pins s σ H xs us Q I r h
  obtain ⟨p, bs, rfl, hq, q⟩ := h
  obtain ⟨u, rfl, rx⟩ := vals1 r
  cases rx
  obtain ⟨its, r', pl, hz⟩ := I.list hq
  obtain ⟨ol, hol, hol'⟩ := pl.isList
  have hlt : p < s.heap.objs.size := Heap.lt_size hol
  refine call_any_walk (wpAny_pyIter_list pl.isList ⟨s.heap.objs.size, _, _, _, _, _, fun i => (bs[i]?).getD false, rfl, Walks.list (A := X.A.in1) (show X.A.in1.handled = none from I.ok.hd hc) s.heap.objs.size p (Nat.ne_of_lt hlt) its.toArray, ⟨⟨_, Heap.get?_push_size _ rfl, rfl, rfl⟩, ⟨ol, Heap.get?_push_of_some _ hol, hol'⟩⟩, bools_truth r', fun h' tk hk => ?_⟩)
  refine ⟨.bl _, H, I.kept (t' := tk) (fun b o e => hk b o (by simpa using Nat.ne_of_lt (Heap.lt_size e)) (Heap.get?_push_of_some _ e)), rfl, ?_⟩
  have e : its.toArray.size = bs.length := by rw [List.size_toArray, ← r'.length, List.length_map]
  rw [e, any_range]
  exact q
end

/-! ### zip of two lists -/
def Itz (K : PySem.W.Frag) (a b : Addr) : It :=
  ⟨fun i H => ∃ xs ys x y, SqL K H a xs ∧ SqL K H b ys ∧ xs[i]? = some x ∧ ys[i]? = some y,
   fun i H v H' => ∃ T x y, v = .ref T ∧ H T = none ∧ H' = upd H T (.tup [x, y]) ∧ (∀ xs, SqL K H a xs → xs[i]? = some x) ∧ ∀ ys, SqL K H b ys → ys[i]? = some y,
   fun i H => ∃ xs ys, SqL K H a xs ∧ SqL K H b ys ∧ (xs.length ≤ i ∨ ys.length ≤ i)⟩
def zipTn (a b z TI TO i1 i2 : Addr) (i : Nat) (h : Heap) : Prop := IsZip h z TI TO .none ∧ IsPair h TI (.ref i1) (.ref i2) ∧ (∃ p q, IsPair h TO p q) ∧ h.IsListIter i1 a i ∧ h.IsListIter i2 b i
theorem zip_inv {X : Cx} {pins : List (Addr × Obj)} {σ : St} {H : Hp} {s : Shared} {fp ch : List Addr} {h' : Heap} (I : Inv X pins σ H s) (hf : ∀ b ∈ fp, FpOk X pins H b) (hch : ∀ b ∈ ch, b ∈ fp) (k : ∀ c o, c ∉ ch → s.heap.get? c = some o → h'.get? c = some o) :
    Inv X pins σ H { s with heap := h' } := by
  have nt : ∀ b u, H b = some u → b ∉ ch := fun b u e z => by
    rw [(hf b (hch b z)).1] at e
    cases e
  refine I.step (g' := s.gens) (d' := s.drawn) (t' := s.toks) (ch := ch) (fun b hb => ?_) (fun b o _ _ hc e _ => k b o hc e) (fun b o _ _ hc e _ => ⟨o.slots, k b o hc e⟩) (fun _ _ _ _ n => n) (fun b o hc e => ⟨o, k b o hc e⟩) (fun _ _ e => e) (fun _ _ _ e => e) (fun b ps e => ⟨#[], by rw [e]; simp⟩) (fun m hm => ?_) (fun b u e => ?_) I.bare
  · have f := hf b (hch b hb)
    exact ⟨f.2.2.2.1, f.2.1, f.2.2.2.2.1, f.2.2.2.2.2⟩
  · obtain ⟨o, es, ep, ho, r⟩ := hm
    exact ⟨o, es, ep, k _ o (fun z => (hf _ (hch _ z)).2.1 rfl) ho, r⟩
  · refine (I.hok b u e).stay (fun c v hc q => k c v ?_ q) (fun _ q => q) fun _ _ q => q
    rcases hc with rfl | hc
    · exact nt _ _ e
    · exact nt _ _ hc
theorem turn_zip {P : Program} {w : World} {K : PySem.W.Frag} {elts : List Expr} {kk : Nat} {tp : Pos} (a b z TI TO i1 i2 : Addr) (D : ZipApart z TI TO i1 i2 a b) :
    Turn P w K (.Tuple elts kk tp) (Itz K a b) [z, TI, TO, i1, i2] z (zipTn a b z TI TO i1 i2) where
  mem := by simp
  obj := fun i h st c hc => by
    obtain ⟨h1, h2, ⟨p, q, h3⟩, ⟨o4, e4, _, d4⟩, ⟨o5, e5, _, d5⟩⟩ := st
    simp only [List.mem_cons, List.not_mem_nil, or_false] at hc
    rcases hc with rfl | rfl | rfl | rfl | rfl
    · exact ⟨_, h1, fun v z => nomatch z⟩
    · exact ⟨_, h2, fun v z => nomatch z⟩
    · exact ⟨_, h3, fun v z => nomatch z⟩
    · exact ⟨o4, e4, fun v z => by rw [d4] at z; cases z⟩
    · exact ⟨o5, e5, fun v z => by rw [d5] at z; cases z⟩
  keep := fun i h h' st k => by
    obtain ⟨h1, h2, ⟨p, q, h3⟩, h4, h5⟩ := st
    exact ⟨k z (by simp) _ h1, k TI (by simp) _ h2, ⟨p, q, k TO (by simp) _ h3⟩, h4.at fun o e => k i1 (by simp) o e, h5.at fun o e => k i2 (by simp) o e⟩
  item := by
    intro X hP hw hK hc i pins s σ H E I hf st hg
    subst hP hw hK
    obtain ⟨h1, h2, ⟨p, q, h3⟩, h4, h5⟩ := st
    obtain ⟨xs, ys, x, y, hq1, hq2, hx, hy⟩ := hg
    obtain ⟨its1, rv1, p1, hz1⟩ := I.list hq1
    obtain ⟨its2, rv2, p2, hz2⟩ := I.list hq2
    obtain ⟨u1, hu1, ru1⟩ := rv1.get hx
    obtain ⟨u2, hu2, ru2⟩ := rv2.get hy
    refine wpAny_pyNext_zip_item D h1 h2 h3 h4 h5 p1.isList p2.isList (x := u1) (y := u2) (by simpa using hu1) (by simpa using hu2) fun h' a1 a2 a3 a4 a5 a6 a7 => ?_
    refine ⟨_, rfl, wpAny_letOwnedTupleGo_zip a1 fun h'' b1 bs => ?_⟩
    have hnz : s.heap.objs.size ≠ z := Nat.ne_of_gt (Heap.lt_size h1)
    have hT : IsPair h'' s.heap.objs.size u1 u2 := (bs.2 _ hnz).trans a5
    have kk : ∀ c o, c ∉ [z, TO, i1, i2] → s.heap.get? c = some o → h''.get? c = some o := fun c o hc e => by
      simp only [List.mem_cons, List.not_mem_nil, or_false, not_or] at hc
      exact (bs.2 c hc.1).trans (a7 c o hc.1 hc.2.1 hc.2.2.1 hc.2.2.2 e)
    have hfr : H s.heap.objs.size = none := I.hok.fresh (Nat.le_refl _)
    have nt : ∀ c v, H c = some v → c ∉ [z, TO, i1, i2] ∧ c ≠ s.heap.objs.size := fun c v e => by
      refine ⟨fun hc => ?_, ne_of_none e hfr⟩
      have hm : c ∈ [z, TI, TO, i1, i2] := by
        simp only [List.mem_cons, List.not_mem_nil, or_false] at hc ⊢
        rcases hc with h | h | h | h <;> simp [h]
      rw [(hf c hm).1] at e
      cases e
    have sub : ∀ c ∈ [z, TO, i1, i2], c ∈ [z, TI, TO, i1, i2] := fun c hc => by
      simp only [List.mem_cons, List.not_mem_nil, or_false] at hc ⊢
      rcases hc with h | h | h | h <;> simp [h]
    have lt : ∀ c o, s.heap.get? c = some o → c ≠ s.heap.objs.size := fun c o e => Nat.ne_of_lt (Heap.lt_size e)
    have I2 : Inv X pins σ (upd H s.heap.objs.size (.tup [x, y])) { s with heap := h'' } := by
      refine I.step (g' := s.gens) (d' := s.drawn) (t' := s.toks) (ch := [z, TO, i1, i2]) (fun c hc => ?_) (fun c o _ _ hc e _ => kk c o hc e) (fun c o _ _ hc e _ => ⟨o.slots, kk c o hc e⟩) (fun c o _ e n => by rw [upd_ne (lt c o e)]; exact n)
        (fun c o hc e => ⟨o, kk c o hc e⟩) (fun c zs e => by rw [upd_ne (nt c _ e).2]; exact e) (fun c o v e => by rw [upd_ne (nt c _ e).2]; exact e) (fun c ps e => ⟨#[], by rw [upd_ne (nt c _ e).2, e]; simp⟩) (fun m hm => ?_) (fun c v e => ?_) I.bare
      · have f := hf c (sub c hc)
        exact ⟨f.2.2.2.1, f.2.1, f.2.2.2.2.1, f.2.2.2.2.2⟩
      · obtain ⟨o, es, ep, ho, r⟩ := hm
        exact ⟨o, es, ep, kk _ o (fun c => (hf _ (sub _ c)).2.1 rfl) ho, r⟩
      · by_cases hc : c = s.heap.objs.size
        · subst hc
          rw [upd_same] at e
          cases e
          exact ⟨by show 2 ≤ sizeLine; decide, [u1, u2], .cons ru1 (.cons ru2 .nil), _, hT, rfl, 0, rfl⟩
        · rw [upd_ne hc] at e
          refine (I.hok c v e).stay (fun c' v' hc' q => kk c' v' ?_ q) (fun c' q => by rw [upd_ne (nt c' _ q).2]; exact q) fun c' zs q => by rw [upd_ne (nt c' _ q).2]; exact q
          rcases hc' with rfl | hc'
          · exact (nt _ _ e).1
          · exact (nt _ _ hc').1
    refine ⟨.ref s.heap.objs.size, _, I2, rfl, ⟨_, x, y, rfl, hfr, rfl, fun zs hq => ?_, fun zs hq => ?_⟩, ⟨b1, ?_, ⟨u1, u2, (bs.2 _ D.TOz).trans a2⟩, a3.at fun o e => (bs.2 _ D.i1z).trans e, a4.at fun o e => (bs.2 _ D.i2z).trans e⟩, fun c hc => ?_⟩
    · rw [I.list_inj hq hq1]
      exact hx
    · rw [I.list_inj hq hq2]
      exact hy
    · exact (bs.2 _ D.TIz).trans (a7 _ _ D.TIz D.TITO D.TIi1 D.TIi2 h2)
    · obtain ⟨o, e⟩ : ∃ o, s.heap.get? c = some o := by
        simp only [List.mem_cons, List.not_mem_nil, or_false] at hc
        obtain ⟨o4, e4, _⟩ := h4
        obtain ⟨o5, e5, _⟩ := h5
        rcases hc with rfl | rfl | rfl | rfl | rfl
        · exact ⟨_, h1⟩
        · exact ⟨_, h2⟩
        · exact ⟨_, h3⟩
        · exact ⟨_, e4⟩
        · exact ⟨_, e5⟩
      rw [upd_ne (lt c o e)]
      exact (hf c hc).1
  done := by
    intro X hP hw hK hc i pins s σ H E I hf st hg
    subst hP hw hK
    obtain ⟨h1, h2, ⟨p, q, h3⟩, h4, h5⟩ := st
    obtain ⟨xs, ys, hq1, hq2, hend⟩ := hg
    obtain ⟨its1, rv1, p1, hz1⟩ := I.list hq1
    obtain ⟨its2, rv2, p2, hz2⟩ := I.list hq2
    have l1 := rv1.length
    have l2 := rv2.length
    refine wpAny_pyNext_zip_end (I.ok.hd hc) D h1 h2 h3 h4 h5 p1.isList p2.isList (by
      rcases hend with z | z
      · exact .inl (by simp; omega)
      · exact .inr (by simp; omega)) fun h' hk => ⟨rfl, ?_⟩
    refine zip_inv (ch := [z, TO, i1, i2]) I hf (fun c hc => ?_) fun c o hc e => ?_
    · simp only [List.mem_cons, List.not_mem_nil, or_false] at hc ⊢
      rcases hc with h | h | h | h <;> simp [h]
    · simp only [List.mem_cons, List.not_mem_nil, or_false, not_or] at hc
      exact hk c o hc.1 hc.2.1 hc.2.2.1 hc.2.2.2 e
  self := fun _ _ _ _ _ st h => wpAny_pyIter_zip st.1 h
def iZip (K : PySem.W.Frag) (ta : TA) : TI := fun σ H R => ta σ H fun vs H1 => ∃ a b, vs = [.ref a, .ref b] ∧ (∃ xs, SqL K H1 a xs) ∧ (∃ ys, SqL K H1 b ys) ∧ R (Itz K a b) H1
theorem boot_zipT : bootBuiltins "zip" = some (.type "zip") := by decide +kernel
theorem pi_zip {X : Cx} {elts : List Expr} {kk : Nat} {tp : Pos} {e1 e2 : Expr} {ta : TA} {p pos : Pos} (hg : Gl X "zip") (hm : X.mg "zip" = none) (ha : PA X [e1, e2] ta) (hs : starEach [e1, e2] X.env = [(false, eval e1 X.env), (false, eval e2 X.env)] := by rfl)
    (hs2 : starEach [e2] X.env = [(false, eval e2 X.env)] := by rfl) : PI X (.Tuple elts kk tp) (.Call (.Name "zip" p) [e1, e2] [] pos) (iZip X.K ta) := by
  intro pins s σ H R I h
  refine Call_ (ld_blt I hg hm boot_zipT (PyProof.Rows.callWith_type1 (thn (ha pos pins s σ H _ I h) fun us s1 ⟨vs, H1, I1, r1, q1⟩ => ?_) (by rw [hs, hs2]) (by rw [hs2]; rfl)))
  obtain ⟨a, b, e, ⟨xs, hq1⟩, ⟨ys, hq2⟩, q⟩ := q1
  subst e
  obtain ⟨u, w', rfl, ru, rw'⟩ := vals2 r1
  cases ru
  cases rw'
  obtain ⟨its1, rv1, p1, hz1⟩ := I1.list hq1
  obtain ⟨its2, rv2, p2, hz2⟩ := I1.list hq2
  have lt1 : a < s1.heap.objs.size := by obtain ⟨_, e, _⟩ := p1.isList; exact Heap.lt_size e
  have lt2 : b < s1.heap.objs.size := by obtain ⟨_, e, _⟩ := p2.isList; exact Heap.lt_size e
  refine call_zip_2 p1.isList p2.isList fun h' g1 g2 g3 g4 g5 g6 g7 => wpAny_pyIter_zip g1 ?_
  have I2 : Inv X pins σ H1 { s1 with heap := h' } := I1.kept (t' := s1.toks) g7
  refine ⟨s1.heap.objs.size + 4, [s1.heap.objs.size + 4, s1.heap.objs.size + 2, s1.heap.objs.size + 3, s1.heap.objs.size, s1.heap.objs.size + 1], _, _, H1, rfl, I2, turn_zip a b _ _ _ _ _ (zipApart_new lt1 lt2), ⟨g1, g2, ⟨_, _, g3⟩, g4, g5⟩, fun c hc => ?_, q⟩
  have le : s1.heap.objs.size ≤ c := by
    simp only [List.mem_cons, List.not_mem_nil, or_false] at hc
    rcases hc with rfl | rfl | rfl | rfl | rfl
    · exact Nat.le_add_right _ _
    · exact Nat.le_add_right _ _
    · exact Nat.le_add_right _ _
    · exact Nat.le_refl _
    · exact Nat.le_add_right _ _
  exact I1.fpOk le (I1.hok.fresh le)

/-! ### == of nested lists and tuples -/
inductive Dt where
  | non | bl (b : Bool) | int (i : Int) | str (x : Str) | lst (l : List Dt) | tup (l : List Dt)
mutual
def HasD (K : PySem.W.Frag) (H : Hp) : Dt → V → Prop
  | .non, v => v = .non
  | .bl b, v => v = .bl b
  | .int i, v => v = .int i
  | .str x, v => v = .str x
  | .lst l, v => ∃ a xs, v = .ref a ∧ SqL K H a xs ∧ HasDs K H l xs
  | .tup l, v => ∃ a xs, v = .ref a ∧ SqT K H a xs ∧ HasDs K H l xs
def HasDs (K : PySem.W.Frag) (H : Hp) : List Dt → List V → Prop
  | [], xs => xs = []
  | d :: l, xs => ∃ x r, xs = x :: r ∧ HasD K H d x ∧ HasDs K H l r
end
mutual
def dpD : Dt → Nat
  | .lst l => dpDs l + 1
  | .tup l => dpDs l + 1
  | _ => 0
def dpDs : List Dt → Nat
  | [] => 0
  | d :: l => max (dpD d) (dpDs l)
end
section
variable {X : Cx} {pins : List (Addr × Obj)} {σ : St} {H : Hp} {s : Shared}
end
/-- == of two that read alike: True -/
def rSame (K : PySem.W.Frag) (A : Around) (k : Bool) : R2 := fun x y H Q => ∃ d, HasD K H d x ∧ HasD K H d y ∧ 0 < dpD d ∧ A.units + dpD d < cLine ∧ Q (.bl k) H
theorem yes_if {τ : St} {H : Hp} {A B : Hp → Prop} (h : A H) : tYes τ H (fun c H5 => if c = true then A H5 else B H5) := by
  show if true = true then A H else B H
  exact iteT h
theorem name_yes_if {i : Nat} {x : V} {τ : St} {H : Hp} {A B : St → Hp → Prop} (h : A (τ.set i (some x)) H) : gName i x τ H (fun τ' H4 => tYes τ' H4 fun c H5 => if c = true then A τ' H5 else B τ' H5) := by
  show if true = true then A (τ.set i (some x)) H else B (τ.set i (some x)) H
  exact iteT h
end L2

set_option Elab.async false
set_option linter.all false
set_option maxRecDepth 100000
set_option maxHeartbeats 4000000
/-! ZIP of any number of lists (next and end for every number; the making for three and for four) -/
namespace L2
open PySem PySem.Spec PyProof.Rows
section
variable {prog : Program} {w : World} {A : Around} {E : Value → Shared → Prop} {s : Shared}
abbrev Tup (h : Heap) (T : Addr) (vs : Array Value) : Prop := h.get? T = some { cls := .type "tuple", data := .seq vs }

theorem forIn_steps {α σ : Type} {r : σ} {f : α → σ → Sem (ForInStep σ)} {Q : σ → Shared → Prop} (I : Nat → Shared → Prop) :
    ∀ (l : List α) (k : Nat) (s : Shared), I k s → (∀ j a s, l[j]? = some a → I (k + j) s → wpAny (model prog w) A (f a r) (fun r' s' => r' = .yield r ∧ I (k + j + 1) s') E s) → (∀ s, I (k + l.length) s → Q r s) → wpAny (model prog w) A (forIn l r f) Q E s
  | [], k, s, h, _, hQ => by
    rw [List.forIn_nil]
    exact wpAny_pure (hQ s h)
  | a :: l, k, s, h, hs, hQ => by
    rw [List.forIn_cons]
    refine wpAny_bind (wpAny_mono (hs 0 a s rfl h) (fun r' s' hr => ?_) fun _ _ e => e)
    obtain ⟨rfl, hI⟩ := hr
    refine forIn_steps I l (k + 1) s' hI (fun j b s2 hb h2 => ?_) (fun s2 h2 => hQ s2 ?_)
    · have := hs (j + 1) b s2 hb (by rw [show k + (j + 1) = k + 1 + j by omega]; exact h2)
      rw [show k + (j + 1) + 1 = k + 1 + j + 1 by omega] at this
      exact this
    · rw [List.length_cons, show k + (l.length + 1) = k + 1 + l.length by omega]
      exact h2

structure ZApart (z TI TO : Addr) (L : List (Addr × Addr)) : Prop where
  nd : (z :: TI :: TO :: L.map (·.1)).Nodup
  ls : ∀ p ∈ L, p.2 ∉ z :: TO :: L.map (·.1)
theorem ZApart.TIz {z TI TO : Addr} {L : List (Addr × Addr)} (D : ZApart z TI TO L) : TI ≠ z := fun e => (List.nodup_cons.mp D.nd).1 (by rw [e]; exact List.mem_cons_self)
theorem ZApart.TOz {z TI TO : Addr} {L : List (Addr × Addr)} (D : ZApart z TI TO L) : TO ≠ z := fun e => (List.nodup_cons.mp D.nd).1 (by rw [e]; exact List.mem_cons_of_mem _ List.mem_cons_self)
theorem ZApart.iz {z TI TO : Addr} {L : List (Addr × Addr)} (D : ZApart z TI TO L) {p : Addr × Addr} (hp : p ∈ L) : p.1 ≠ z := fun e => (List.nodup_cons.mp D.nd).1 (by rw [← e]; exact List.mem_cons_of_mem _ (List.mem_cons_of_mem _ (List.mem_map_of_mem hp)))
theorem ZApart.nd2 {z TI TO : Addr} {L : List (Addr × Addr)} (D : ZApart z TI TO L) : (TI :: TO :: L.map (·.1)).Nodup := (List.nodup_cons.mp D.nd).2
theorem ZApart.TITO {z TI TO : Addr} {L : List (Addr × Addr)} (D : ZApart z TI TO L) : TI ≠ TO := fun e => (List.nodup_cons.mp D.nd2).1 (by rw [e]; exact List.mem_cons_self)
theorem ZApart.iTI {z TI TO : Addr} {L : List (Addr × Addr)} (D : ZApart z TI TO L) {p : Addr × Addr} (hp : p ∈ L) : p.1 ≠ TI := fun e => (List.nodup_cons.mp D.nd2).1 (by rw [← e]; exact List.mem_cons_of_mem _ (List.mem_map_of_mem hp))
theorem ZApart.nd3 {z TI TO : Addr} {L : List (Addr × Addr)} (D : ZApart z TI TO L) : (TO :: L.map (·.1)).Nodup := (List.nodup_cons.mp D.nd2).2
theorem ZApart.iTO {z TI TO : Addr} {L : List (Addr × Addr)} (D : ZApart z TI TO L) {p : Addr × Addr} (hp : p ∈ L) : p.1 ≠ TO := fun e => (List.nodup_cons.mp D.nd3).1 (by rw [← e]; exact List.mem_map_of_mem hp)
theorem ZApart.ii {z TI TO : Addr} {L : List (Addr × Addr)} (D : ZApart z TI TO L) {j k : Nat} {p q : Addr × Addr} (hp : L[j]? = some p) (hq : L[k]? = some q) (e : p.1 = q.1) : j = k := by
  have n := (List.nodup_cons.mp D.nd3).2
  have hj : j < (L.map (·.1)).length := by rw [List.length_map]; exact (List.getElem?_eq_some_iff.mp hp).1
  refine (List.getElem?_inj hj n).mp ?_
  rw [List.getElem?_map, List.getElem?_map, hp, hq]
  exact congrArg some e

/-- between two items -/
structure ZMid (z TI TO : Addr) (L : List (Addr × Addr)) (us : List Value) (m : Nat) (h0 : Heap) (k : Nat) (h : Heap) : Prop where
  sz : h.objs.size = h0.objs.size
  zip : IsZip h z TI TO .ellipsis
  out : ∃ vs, Tup h TO vs ∧ vs.size = L.length ∧ ∀ j, j < k → vs[j]? = us[j]?
  its : ∀ (j : Nat) (p : Addr × Addr), L[j]? = some p → h.IsListIter p.1 p.2 (if j < k then m + 1 else m)
  old : ∀ c o, c ∉ z :: TO :: L.map (·.1) → h0.get? c = some o → h.get? c = some o

theorem znext_item {z TI TO : Addr} {L : List (Addr × Addr)} {m : Nat} {us : List Value} {vs0 : Array Value} {Q : Value → Shared → Prop} (D : ZApart z TI TO L) (hne : 0 < L.length) (hsm : L.length ≤ 100)
    (hz : IsZip s.heap z TI TO .none) (hTI : Tup s.heap TI (L.map fun p => Value.ref p.1).toArray) (hTO : Tup s.heap TO vs0) (hv0 : vs0.size = L.length)
    (hit : ∀ p ∈ L, s.heap.IsListIter p.1 p.2 m) (hu : us.length = L.length) (hx : ∀ (j : Nat) (p : Addr × Addr) (u : Value), L[j]? = some p → us[j]? = some u → ∃ xs, s.heap.IsList p.2 xs ∧ xs[m]? = some u)
    (hQ : ∀ h', IsZip h' z TI TO (rawInt s.heap.objs.size) → Tup h' TO us.toArray → (∀ p ∈ L, h'.IsListIter p.1 p.2 (m + 1)) → Tup h' s.heap.objs.size us.toArray →
      (∀ c o, c ∉ z :: TO :: L.map (·.1) → s.heap.get? c = some o → h'.get? c = some o) → Q (.ref s.heap.objs.size) { s with heap := h' }) :
    wpAny (model prog w) A (Builtin.«zip.__next__» ⟨[.ref z], []⟩) (fun fin s' => ∃ v, fin = .done (.ret v) ∧ Q v s') E s := by
  have hsl : (L.map fun p => Value.ref p.1).toArray.size = L.length := by simp
  have hemp : (L.map fun p => Value.ref p.1).toArray.isEmpty = false := by
    rw [Array.isEmpty_eq_false_iff]
    intro e
    rw [e] at hsl
    have : (0 : Nat) = L.length := hsl
    omega
  have fits : L.length ≤ sizeLine := Nat.le_trans hsm (by decide)
  show wpAny _ _ (field (.ref z) 2 >>= _) _ _ _
  refine wpAny_bind (wpAny_field hz rfl (x := .bool false) rfl (show wpAny _ _ (field (.ref z) 3 >>= _) _ _ _ from wpAny_bind (wpAny_field hz rfl (x := .ref TI) rfl (wpAny_bind (wpAny_seqItems hTI rfl ?_)))))
  simp only [hemp, Bool.false_eq_true, if_false]
  refine wpAny_bind (show wpAny _ _ (Builtin.SmallTypes.ownedTupleIsFree (.ref z)) _ _ _ from ?_)
  unfold Builtin.SmallTypes.ownedTupleIsFree
  refine wpAny_bind (wpAny_field hz rfl (x := .none) rfl (wpAny_pure ?_))
  simp only [if_true]
  refine wpAny_bind (wpAny_rule (wpAny_bind (wpAny_field hz rfl (x := .ref TO) rfl (wpAny_bind (wpAny_setField_rec hz (by simp) fun h₁ hz₁ hs₁ => ?_)))))
  replace hz₁ : IsZip h₁ z TI TO .ellipsis := hz₁
  refine wpAny_bind (forIn_steps (fun k s' => ∃ h', s' = { s with heap := h' } ∧ ZMid z TI TO L us m s.heap k h') _ 0 _ ⟨h₁, rfl, ?_⟩ ?_ ?_)
  · refine ⟨hs₁.1, hz₁, ⟨vs0, hs₁.extBut _ _ D.TOz hTO, hv0, fun j hj => absurd hj (Nat.not_lt_zero _)⟩, fun j p hp => ?_, fun c o hc e => hs₁.extBut _ _ (fun q => hc (by rw [q]; exact List.mem_cons_self)) e⟩
    rw [if_neg (Nat.not_lt_zero _)]
    have hm := List.mem_of_getElem? hp
    exact (hit p hm).extBut hs₁.extBut (D.iz hm)
  · rintro j a s' ha ⟨h₂, rfl, M⟩
    rw [Nat.zero_add] at M ⊢
    -- which item
    have hja : ∃ p, L[j]? = some p ∧ a = (Value.ref p.1, j) := by
      have ha2 : (L.map fun p => Value.ref p.1).zipIdx[j]? = some a := ha
      rw [List.getElem?_zipIdx, List.getElem?_map] at ha2
      cases q : L[j]? with
      | none => rw [q] at ha2; cases ha2
      | some p => rw [q] at ha2; exact ⟨p, rfl, by have := (Option.some.inj ha2).symm; rw [this]; simp⟩
    obtain ⟨p, hp, rfl⟩ := hja
    have hm := List.mem_of_getElem? hp
    have hjl : j < L.length := (List.getElem?_eq_some_iff.mp hp).1
    obtain ⟨u, huj⟩ : ∃ u, us[j]? = some u := ⟨us[j], List.getElem?_eq_getElem (by omega)⟩
    obtain ⟨xs, hl, hxu⟩ := hx j p u hp huj
    have hl₂ : h₂.IsList p.2 xs := hl.at fun o e => M.old _ _ (D.ls p hm) e
    have hi₂ : h₂.IsListIter p.1 p.2 m := by
      have := M.its j p hp
      rw [if_neg (Nat.lt_irrefl _)] at this
      exact this
    refine wpAny_bind (wpAny_onRaise ?_)
    show wpAny _ _ (Builtin.SmallTypes.nextOf (.ref p.1) >>= _) _ _ _
    refine wpAny_bind (wpAny_nextOf_list_item hi₂ hl₂ hxu fun h₃ hi₃ hs₃ => wpAny_pure ?_)
    obtain ⟨vs, hTO₂, hvs, hvj⟩ := M.out
    have hTO₃ : Tup h₃ TO vs := hs₃.extBut _ _ (D.iTO hm).symm hTO₂
    refine wpAny_bind (wpAny_seqItems hTO₃ rfl (wpAny_bind (wpAny_updateSeq hTO₃ rfl (wpAny_bind (wpAny_letGo (wpAny_pure ⟨rfl, _, rfl, ?_⟩))) (by rw [hvs]; exact fits) (by rw [Array.size_setIfInBounds, hvs]; exact Nat.le_succ_of_le fits))))
    have hs₄ : Heap.SameBut TO h₃ (h₃.update TO (Obj.mapSeq fun x => x.setIfInBounds j u)) := Heap.SameBut.update ..
    have hTO₄ : Tup (h₃.update TO (Obj.mapSeq fun x => x.setIfInBounds j u)) TO (vs.setIfInBounds j u) := by
      show Heap.get? _ _ = _
      rw [Heap.get?_update_self _ hTO₃ rfl]
      simp [Obj.mapSeq]
    refine ⟨by rw [hs₄.1, hs₃.1]; exact M.sz, hs₄.extBut _ _ D.TOz.symm (hs₃.extBut _ _ (D.iz hm).symm M.zip), ⟨_, hTO₄, by rw [Array.size_setIfInBounds]; exact hvs, fun i hi => ?_⟩, fun i q hq => ?_, fun c o hc e => ?_⟩
    · by_cases hij : i = j
      · subst hij
        rw [Array.getElem?_setIfInBounds_self_of_lt (by omega)]
        exact huj.symm
      · rw [Array.getElem?_setIfInBounds_ne (Ne.symm hij)]
        exact hvj i (by omega)
    · have hqm := List.mem_of_getElem? hq
      by_cases hij : i = j
      · subst hij
        rw [hp] at hq
        cases hq
        rw [if_pos (Nat.lt_succ_self _)]
        exact hi₃.extBut hs₄.extBut (D.iTO hm)
      · have e1 := M.its i q hq
        have e2 : (if i < j + 1 then m + 1 else m) = if i < j then m + 1 else m := by
          by_cases hlt : i < j
          · rw [if_pos hlt, if_pos (by omega)]
          · rw [if_neg hlt, if_neg (by omega)]
        rw [e2]
        exact (e1.extBut hs₃.extBut fun z' => hij (D.ii hq hp z')).extBut hs₄.extBut (D.iTO hqm)
    · have n1 : c ≠ TO := fun q => hc (by rw [q]; exact List.mem_cons_of_mem _ List.mem_cons_self)
      have n2 : c ≠ p.1 := fun q => hc (by rw [q]; exact List.mem_cons_of_mem _ (List.mem_cons_of_mem _ (List.mem_map_of_mem hm)))
      exact hs₄.extBut _ _ n1 (hs₃.extBut _ _ n2 (M.old c o hc e))
  · rintro s' ⟨h₅, rfl, M⟩
    have hln : 0 + ((L.map fun p => Value.ref p.1).toArray.toList.zipIdx).length = L.length := by simp
    rw [hln] at M
    obtain ⟨vs, hTO₅, hvs, hvj⟩ := M.out
    have hvu : vs = us.toArray := by
      refine Array.ext_getElem? fun j => ?_
      by_cases hj : j < L.length
      · rw [hvj j hj]
        simp
      · rw [Array.getElem?_eq_none (by omega), Array.getElem?_eq_none (by simp; omega)]
    subst hvu
    refine wpAny_bind (wpAny_seqItems hTO₅ rfl (wpAny_bind (wpAny_newTuple ?_)))
    show wpAny _ _ (Builtin.SmallTypes.ownedTupleHandOut (.ref z) (.ref h₅.objs.size) >>= _) _ _ _
    refine wpAny_bind ?_
    unfold Builtin.SmallTypes.ownedTupleHandOut
    have hzlt : z < h₅.objs.size := Heap.lt_size M.zip
    have hz₆ : IsZip (h₅.push { cls := .type "tuple", data := .seq us.toArray.toList.toArray }) z TI TO .ellipsis := Heap.get?_push_of_some _ M.zip
    refine wpAny_bind (wpAny_setField_rec hz₆ (by simp) fun h₇ hz₇ hs₇ => ?_)
    replace hz₇ : IsZip h₇ z TI TO (rawInt h₅.objs.size) := hz₇
    refine wpAny_setField_rec hz₇ (by simp) fun h₈ hz₈ hs₈ => wpAny_pure ⟨_, rfl, ?_⟩
    replace hz₈ : IsZip h₈ z TI TO (rawInt h₅.objs.size) := hz₈
    have up : ∀ c o, c ≠ z → h₅.get? c = some o → h₈.get? c = some o := fun c o c1 e => hs₈.extBut _ _ c1 (hs₇.extBut _ _ c1 (Heap.get?_push_of_some _ e))
    have hT₈ : Tup h₈ h₅.objs.size us.toArray := hs₈.extBut _ _ (Nat.ne_of_gt hzlt) (hs₇.extBut _ _ (Nat.ne_of_gt hzlt) (Heap.get?_push_size _ rfl))
    rw [M.sz] at hz₈ hT₈
    show Q (.ref h₅.objs.size) _
    rw [M.sz]
    refine hQ h₈ hz₈ (up _ _ D.TOz hTO₅) (fun p hp => ?_) hT₈ fun c o hc e => up c o (fun q => hc (by rw [q]; exact List.mem_cons_self)) (M.old c o hc e)
    obtain ⟨j, hj, e⟩ := List.mem_iff_getElem.mp hp
    have := M.its j p (by rw [← e]; exact List.getElem?_eq_getElem hj)
    rw [if_pos hj] at this
    exact this.at fun o e => up _ o (D.iz hp) e

theorem znext_end {z TI TO : Addr} {p : Addr × Addr} {L : List (Addr × Addr)} {m : Nat} {xs vs0 : Array Value} {Q : Fin → Shared → Prop} (hh : A.handled = none) (D : ZApart z TI TO (p :: L))
    (hz : IsZip s.heap z TI TO .none) (hTI : Tup s.heap TI ((p :: L).map fun p => Value.ref p.1).toArray) (hTO : Tup s.heap TO vs0)
    (hit : s.heap.IsListIter p.1 p.2 m) (hl : s.heap.IsList p.2 xs) (hend : xs[m]? = none)
    (hE : ∀ h' e, (∀ c o, c ∉ z :: TO :: (p :: L).map (·.1) → s.heap.get? c = some o → h'.get? c = some o) → (∃ o, h'.get? e = some o ∧ o.cls = .type "StopIteration") → E (.ref e) { s with heap := h' }) :
    wpAny (model prog w) A (Builtin.«zip.__next__» ⟨[.ref z], []⟩) Q E s := by
  have hm : p ∈ p :: L := List.mem_cons_self
  have hemp : ((p :: L).map fun p => Value.ref p.1).toArray.isEmpty = false := by simp
  show wpAny _ _ (field (.ref z) 2 >>= _) _ _ _
  refine wpAny_bind (wpAny_field hz rfl (x := .bool false) rfl (show wpAny _ _ (field (.ref z) 3 >>= _) _ _ _ from wpAny_bind (wpAny_field hz rfl (x := .ref TI) rfl (wpAny_bind (wpAny_seqItems hTI rfl ?_)))))
  simp only [hemp, Bool.false_eq_true, if_false]
  refine wpAny_bind (show wpAny _ _ (Builtin.SmallTypes.ownedTupleIsFree (.ref z)) _ _ _ from ?_)
  unfold Builtin.SmallTypes.ownedTupleIsFree
  refine wpAny_bind (wpAny_field hz rfl (x := .none) rfl (wpAny_pure ?_))
  simp only [if_true]
  refine wpAny_bind (wpAny_rule (wpAny_bind (wpAny_field hz rfl (x := .ref TO) rfl (wpAny_bind (wpAny_setField_rec hz (by simp) fun h₁ hz₁ hs₁ => ?_)))))
  replace hz₁ : IsZip h₁ z TI TO .ellipsis := hz₁
  refine wpAny_bind ?_
  simp only [List.map_cons, List.zipIdx_cons, List.forIn_cons]
  refine wpAny_bind (wpAny_bind (wpAny_onRaise ?_))
  show wpAny _ _ (Builtin.SmallTypes.nextOf (.ref p.1) >>= _) _ _ _
  have n1 : p.2 ≠ z := fun q => D.ls p hm (by rw [q]; exact List.mem_cons_self)
  refine wpAny_bind (wpAny_nextOf_list_end hh (hit.extBut hs₁.extBut (D.iz hm)) (hl.extBut hs₁.extBut n1) hend fun h₂ e hs₂ he => ?_)
  obtain ⟨oe, hoe, hce⟩ := he
  have hz₂ : IsZip h₂ z TI TO .ellipsis := hs₂ _ _ (D.iz hm).symm hz₁
  have hez : e ≠ z := fun x => by
    subst x
    rw [hz₂] at hoe
    cases hoe
    simp at hce
  refine wpAny_setField_rec hz₂ (by simp) fun h₃ _ hs₃ => hE h₃ e (fun c o hc x => ?_) ⟨oe, hs₃.extBut _ _ hez hoe, hce⟩
  have c1 : c ≠ z := fun q => hc (by rw [q]; exact List.mem_cons_self)
  have c2 : c ≠ p.1 := fun q => hc (by rw [q]; exact List.mem_cons_of_mem _ (List.mem_cons_of_mem _ (List.mem_map_of_mem hm)))
  exact hs₃.extBut _ _ c1 (hs₂ _ _ c2 (hs₁.extBut _ _ c1 x))

theorem zpy_item {z TI TO : Addr} {L : List (Addr × Addr)} {m : Nat} {us : List Value} {vs0 : Array Value} {Q : Option Value → Shared → Prop} (D : ZApart z TI TO L) (hne : 0 < L.length) (hsm : L.length ≤ 100)
    (hz : IsZip s.heap z TI TO .none) (hTI : Tup s.heap TI (L.map fun p => Value.ref p.1).toArray) (hTO : Tup s.heap TO vs0) (hv0 : vs0.size = L.length)
    (hit : ∀ p ∈ L, s.heap.IsListIter p.1 p.2 m) (hu : us.length = L.length) (hx : ∀ (j : Nat) (p : Addr × Addr) (u : Value), L[j]? = some p → us[j]? = some u → ∃ xs, s.heap.IsList p.2 xs ∧ xs[m]? = some u)
    (hQ : ∀ h', IsZip h' z TI TO (rawInt s.heap.objs.size) → Tup h' TO us.toArray → (∀ p ∈ L, h'.IsListIter p.1 p.2 (m + 1)) → Tup h' s.heap.objs.size us.toArray →
      (∀ c o, c ∉ z :: TO :: L.map (·.1) → s.heap.get? c = some o → h'.get? c = some o) → Q (some (.ref s.heap.objs.size)) { s with heap := h' }) :
    wpAny (model prog w) A (pyNext (.ref z)) Q E s := by
  have hT : s.TypeIs (.ref z) "zip" := ⟨_, hz, rfl⟩
  unfold pyNext
  exact wpAny_bind (wpAny_attempt (wpAny_callSpecial?_slot (name := Str.ofString "__next__") hT F.slot_zip_next
    (wpAny_call_entry F.slot_zip_next hT F.entry_zip_next (znext_item D hne hsm hz hTI hTO hv0 hit hu hx fun h' a1 a2 a3 a4 a5 => wpAny_pure (hQ h' a1 a2 a3 a4 a5)) (F.args_zip_next_1 _))))
theorem zpy_end {z TI TO : Addr} {p : Addr × Addr} {L : List (Addr × Addr)} {m : Nat} {xs vs0 : Array Value} {Q : Option Value → Shared → Prop} (hh : A.handled = none) (D : ZApart z TI TO (p :: L))
    (hz : IsZip s.heap z TI TO .none) (hTI : Tup s.heap TI ((p :: L).map fun p => Value.ref p.1).toArray) (hTO : Tup s.heap TO vs0)
    (hit : s.heap.IsListIter p.1 p.2 m) (hl : s.heap.IsList p.2 xs) (hend : xs[m]? = none)
    (hQ : ∀ h', (∀ c o, c ∉ z :: TO :: (p :: L).map (·.1) → s.heap.get? c = some o → h'.get? c = some o) → Q none { s with heap := h' }) : wpAny (model prog w) A (pyNext (.ref z)) Q E s := by
  have hT : s.TypeIs (.ref z) "zip" := ⟨_, hz, rfl⟩
  unfold pyNext
  refine wpAny_bind (wpAny_attempt (wpAny_callSpecial?_slot (name := Str.ofString "__next__") hT F.slot_zip_next
    (wpAny_call_entry F.slot_zip_next hT F.entry_zip_next (znext_end hh D hz hTI hTO hit hl hend fun h' e hk he => ?_) (F.args_zip_next_1 _))))
  obtain ⟨o, ho, hc⟩ := he
  exact wpAny_bind (wpAny_isInstance (T := "StopIteration") (b := true) ⟨o, ho, hc⟩ isSubtype_stop (wpAny_pure (hQ _ hk)))
end

/-! ### the iterator: L is the (iterator, list) pairs; it ends where the first list ends -/
def Itn (K : PySem.W.Frag) (as : List Addr) : It :=
  ⟨fun i H => ∃ vs : List V, vs.length = as.length ∧ ∀ (j : Nat) (a : Addr) (v : V), as[j]? = some a → vs[j]? = some v → ∃ xs, SqL K H a xs ∧ xs[i]? = some v,
   fun i H v H' => ∃ (T : Addr) (vs : List V), v = .ref T ∧ H T = none ∧ H' = upd H T (.tup vs) ∧ vs.length = as.length ∧ ∀ (j : Nat) (a : Addr) (v : V), as[j]? = some a → vs[j]? = some v → ∀ xs, SqL K H a xs → xs[i]? = some v,
   fun i H => ∃ a as' xs, as = a :: as' ∧ SqL K H a xs ∧ xs.length ≤ i⟩
def znTn (L : List (Addr × Addr)) (z TI TO : Addr) (i : Nat) (h : Heap) : Prop :=
  IsZip h z TI TO .none ∧ Tup h TI (L.map fun p => Value.ref p.1).toArray ∧ (∃ vs, Tup h TO vs ∧ vs.size = L.length) ∧ ∀ p ∈ L, h.IsListIter p.1 p.2 i
theorem vals_of {X : Cx} {pins : List (Addr × Obj)} {σ : St} {H : Hp} {s : Shared} (I : Inv X pins σ H s) {i : Nat} : ∀ (as : List Addr) (vs : List V), vs.length = as.length → (∀ (j : Nat) (a : Addr) (v : V), as[j]? = some a → vs[j]? = some v → ∃ xs, SqL X.K H a xs ∧ xs[i]? = some v) →
    ∃ us : List Value, Vals vs us ∧ ∀ (j : Nat) (a : Addr) (u : Value), as[j]? = some a → us[j]? = some u → ∃ xs, s.heap.IsList a xs ∧ xs[i]? = some u
  | [], [], _, _ => ⟨[], .nil, fun j a u h => by simp at h⟩
  | a :: as, v :: vs, hl, h => by
    obtain ⟨us, r, g⟩ := vals_of I as vs (by simpa using hl) fun j a' v' h1 h2 => h (j + 1) a' v' h1 h2
    obtain ⟨xs, hq, hx⟩ := h 0 a v rfl rfl
    obtain ⟨its, rv, pl, hz⟩ := I.list hq
    obtain ⟨u, hu, ru⟩ := rv.get hx
    refine ⟨u :: us, .cons ru r, fun j a' u' h1 h2 => ?_⟩
    cases j with
    | zero =>
      cases h1
      cases h2
      exact ⟨_, pl.isList, by simpa using hu⟩
    | succ j => exact g j a' u' h1 h2
end L2

set_option Elab.async false
set_option linter.all false
set_option maxRecDepth 100000
set_option maxHeartbeats 4000000
namespace L2
open PySem PySem.Spec PyProof.Rows
theorem turn_zipn {P : Program} {w : World} {K : PySem.W.Frag} {elts : List Expr} {kk : Nat} {tp : Pos} {L : List (Addr × Addr)} {z TI TO : Addr} (D : ZApart z TI TO L) (hne : 0 < L.length) (hsm : L.length ≤ 100) :
    Turn P w K (.Tuple elts kk tp) (Itn K (L.map (·.2))) (z :: TI :: TO :: L.map (·.1)) z (znTn L z TI TO) where
  mem := List.mem_cons_self
  obj := fun i h st c hc => by
    obtain ⟨h1, h2, ⟨vs, h3, _⟩, h4⟩ := st
    rcases List.mem_cons.mp hc with rfl | hc
    · exact ⟨_, h1, fun v z => nomatch z⟩
    rcases List.mem_cons.mp hc with rfl | hc
    · exact ⟨_, h2, fun v z => nomatch z⟩
    rcases List.mem_cons.mp hc with rfl | hc
    · exact ⟨_, h3, fun v z => nomatch z⟩
    obtain ⟨p, hp, rfl⟩ := List.mem_map.mp hc
    obtain ⟨o, e, _, d⟩ := h4 p hp
    exact ⟨o, e, fun v z => by rw [d] at z; cases z⟩
  keep := fun i h h' st k => by
    obtain ⟨h1, h2, ⟨vs, h3, h5⟩, h4⟩ := st
    refine ⟨k z List.mem_cons_self _ h1, k TI (List.mem_cons_of_mem _ List.mem_cons_self) _ h2, ⟨vs, k TO (List.mem_cons_of_mem _ (List.mem_cons_of_mem _ List.mem_cons_self)) _ h3, h5⟩, fun p hp => (h4 p hp).at fun o e => k p.1 ?_ o e⟩
    exact List.mem_cons_of_mem _ (List.mem_cons_of_mem _ (List.mem_cons_of_mem _ (List.mem_map_of_mem hp)))
  item := by
    intro X hP hw hK hc i pins s σ H E I hf st hg
    subst hP hw hK
    obtain ⟨h1, h2, ⟨vs0, h3, h5⟩, h4⟩ := st
    obtain ⟨vs, hvl, hv⟩ := hg
    have hll : (L.map (·.2)).length = L.length := List.length_map ..
    obtain ⟨us, ru, hu⟩ := vals_of I _ vs hvl hv
    have hul := ru.length
    refine zpy_item D hne hsm h1 h2 h3 h5 h4 (us := us) (by omega) (fun j p u e1 e2 => hu j p.2 u (by rw [List.getElem?_map, e1]; rfl) e2) fun h' a1 a2 a3 a4 a5 => ?_
    refine ⟨_, rfl, wpAny_letOwnedTupleGo_zip a1 fun h'' b1 bs => ?_⟩
    have hnz : s.heap.objs.size ≠ z := Nat.ne_of_gt (Heap.lt_size h1)
    have hT : Tup h'' s.heap.objs.size us.toArray := (bs.2 _ hnz).trans a4
    have sub : ∀ c ∈ z :: TO :: L.map (·.1), c ∈ z :: TI :: TO :: L.map (·.1) := fun c hc => by
      rcases List.mem_cons.mp hc with rfl | hc
      · exact List.mem_cons_self
      · exact List.mem_cons_of_mem _ (List.mem_cons_of_mem _ hc)
    have kk : ∀ c o, c ∉ z :: TO :: L.map (·.1) → s.heap.get? c = some o → h''.get? c = some o := fun c o hc e => (bs.2 c fun q => hc (by rw [q]; exact List.mem_cons_self)).trans (a5 c o hc e)
    have hfr : H s.heap.objs.size = none := I.hok.fresh (Nat.le_refl _)
    have nt : ∀ c v, H c = some v → c ∉ z :: TO :: L.map (·.1) ∧ c ≠ s.heap.objs.size := fun c v e => by
      refine ⟨fun hc => ?_, ne_of_none e hfr⟩
      rw [(hf c (sub c hc)).1] at e
      cases e
    have lt : ∀ c o, s.heap.get? c = some o → c ≠ s.heap.objs.size := fun c o e => Nat.ne_of_lt (Heap.lt_size e)
    have I2 : Inv X pins σ (upd H s.heap.objs.size (.tup vs)) { s with heap := h'' } := by
      refine I.step (g' := s.gens) (d' := s.drawn) (t' := s.toks) (ch := z :: TO :: L.map (·.1)) (fun c hc => ?_) (fun c o _ _ hc e _ => kk c o hc e) (fun c o _ _ hc e _ => ⟨o.slots, kk c o hc e⟩) (fun c o _ e n => by rw [upd_ne (lt c o e)]; exact n)
        (fun c o hc e => ⟨o, kk c o hc e⟩) (fun c zs e => by rw [upd_ne (nt c _ e).2]; exact e) (fun c o v e => by rw [upd_ne (nt c _ e).2]; exact e) (fun c ps e => ⟨#[], by rw [upd_ne (nt c _ e).2, e]; simp⟩) (fun m hm => ?_) (fun c v e => ?_) I.bare
      · have f := hf c (sub c hc)
        exact ⟨f.2.2.2.1, f.2.1, f.2.2.2.2.1, f.2.2.2.2.2⟩
      · obtain ⟨o, es, ep, ho, r⟩ := hm
        exact ⟨o, es, ep, kk _ o (fun c => (hf _ (sub _ c)).2.1 rfl) ho, r⟩
      · by_cases hc : c = s.heap.objs.size
        · subst hc
          rw [upd_same] at e
          cases e
          exact ⟨Nat.le_trans (by omega : vs.length ≤ 100) (by decide), us, ru, _, hT, rfl, 0, rfl⟩
        · rw [upd_ne hc] at e
          refine (I.hok c v e).stay (fun c' v' hc' q => kk c' v' ?_ q) (fun c' q => by rw [upd_ne (nt c' _ q).2]; exact q) fun c' zs q => by rw [upd_ne (nt c' _ q).2]; exact q
          rcases hc' with rfl | hc'
          · exact (nt _ _ e).1
          · exact (nt _ _ hc').1
    have TIn : TI ∉ z :: TO :: L.map (·.1) := fun c => by
      rcases List.mem_cons.mp c with e | c
      · exact D.TIz e
      rcases List.mem_cons.mp c with e | c
      · exact D.TITO e
      obtain ⟨p, hp, e⟩ := List.mem_map.mp c
      exact D.iTI hp e
    refine ⟨.ref s.heap.objs.size, _, I2, rfl, ⟨_, vs, rfl, hfr, rfl, hvl, fun j a v e1 e2 xs hq => ?_⟩, ⟨b1, kk _ _ TIn h2, ⟨_, (bs.2 _ D.TOz).trans a2, by simp; omega⟩, fun p hp => (a3 p hp).at fun o e => (bs.2 _ (D.iz hp)).trans e⟩, fun c hc => ?_⟩
    · obtain ⟨ys, hq2, hy⟩ := hv j a v e1 e2
      rw [I.list_inj hq hq2]
      exact hy
    · obtain ⟨o, e⟩ : ∃ o, s.heap.get? c = some o := by
        rcases List.mem_cons.mp hc with rfl | hc
        · exact ⟨_, h1⟩
        rcases List.mem_cons.mp hc with rfl | hc
        · exact ⟨_, h2⟩
        rcases List.mem_cons.mp hc with rfl | hc
        · exact ⟨_, h3⟩
        obtain ⟨p, hp, rfl⟩ := List.mem_map.mp hc
        obtain ⟨o, e, _⟩ := h4 p hp
        exact ⟨o, e⟩
      rw [upd_ne (lt c o e)]
      exact (hf c hc).1
  done := by
    intro X hP hw hK hc i pins s σ H E I hf st hg
    subst hP hw hK
    obtain ⟨h1, h2, ⟨vs0, h3, h5⟩, h4⟩ := st
    obtain ⟨a, as', xs, e, hq, hend⟩ := hg
    cases L with
    | nil => cases e
    | cons p L =>
      injection e with e1 e2
      subst e1
      obtain ⟨its, rv, pl, hz⟩ := I.list hq
      have l1 := rv.length
      refine zpy_end (I.ok.hd hc) D h1 h2 h3 (h4 p List.mem_cons_self) pl.isList (by simp; omega) fun h' hk => ⟨rfl, ?_⟩
      refine zip_inv (ch := z :: TO :: (p :: L).map (·.1)) I hf (fun c hc => ?_) hk
      rcases List.mem_cons.mp hc with rfl | hc
      · exact List.mem_cons_self
      · exact List.mem_cons_of_mem _ (List.mem_cons_of_mem _ hc)
  self := fun _ _ _ _ _ st h => wpAny_pyIter_zip st.1 h

/-! ### four lists -/
theorem tyc_zip4 (a b c d : Value) : checkTypeCall "zip" ⟨[a, b, c, d], []⟩ = pure () := by kernel_rfl
theorem nwc_zip4 (a b c d : Value) : checkBuiltinCall "zip.__new__" ⟨[.type "zip", a, b, c, d], []⟩ = pure () := by kernel_rfl
theorem arg_init5 (a b c d e : Value) : argsOk "object.__init__" ⟨[a, b, c, d, e], []⟩ := by
  unfold argsOk; rw [signature?_of (id := "object.__init__") (n := "__tini__".toList) (o := "tcejbo".toList) (by kernel_rfl) F.owner_object]; kernel_rfl
abbrev itO (l : Addr) : Obj := { cls := .type "list_iterator", data := .fields #[.ref l, .int 0 0] }
abbrev z4a (h : Heap) (l1 l2 l3 l4 : Addr) : Heap := (((h.push (itO l1)).push (itO l2)).push (itO l3)).push (itO l4)
abbrev z4b (h : Heap) (l1 l2 l3 l4 : Addr) : Heap := (z4a h l1 l2 l3 l4).push { cls := .type "tuple", data := .seq #[.ref h.objs.size, .ref (h.push (itO l1)).objs.size, .ref ((h.push (itO l1)).push (itO l2)).objs.size, .ref (((h.push (itO l1)).push (itO l2)).push (itO l3)).objs.size] }
abbrev z4c (h : Heap) (l1 l2 l3 l4 : Addr) : Heap := (z4b h l1 l2 l3 l4).push { cls := .type "tuple", data := .seq #[.none, .none, .none, .none] }
abbrev z4d (h : Heap) (l1 l2 l3 l4 : Addr) : Heap := (z4c h l1 l2 l3 l4).push { cls := .type "zip", data := .fields #[.none, .bool false, .bool false, .ref (z4a h l1 l2 l3 l4).objs.size, .ref (z4b h l1 l2 l3 l4).objs.size] }
theorem meets_zip4 (l1 l2 l3 l4 : Addr) (x1 x2 x3 x4 : Array Value) :
    Meets (Builtin.«zip.__new__» ⟨[.type "zip", .ref l1, .ref l2, .ref l3, .ref l4], []⟩) (fun _ R s => s.heap.IsList l1 x1 ∧ s.heap.IsList l2 x2 ∧ s.heap.IsList l3 x3 ∧ s.heap.IsList l4 x4 ∧
      R (.ok (.ret (.ref (z4c s.heap l1 l2 l3 l4).objs.size))) { s with heap := z4d s.heap l1 l2 l3 l4 }) :=
  .of_wp fun prog w A R s h => by
    obtain ⟨hp, g, d, tk, os⟩ := s
    obtain ⟨k1, k2, k3, k4, h⟩ := h
    have hsub := sub_zip
    have i1 : Heap.IsList (Shared.heap ⟨hp, g, d, tk, os⟩) l1 x1 := k1
    have i2 : Heap.IsList (Shared.heap ⟨hp.push (itO l1), g, d, tk, os⟩) l2 x2 := Heap.IsList.push k2 _
    have i3 : Heap.IsList (Shared.heap ⟨(hp.push (itO l1)).push (itO l2), g, d, tk, os⟩) l3 x3 := Heap.IsList.push (Heap.IsList.push k3 _) _
    have i4 : Heap.IsList (Shared.heap ⟨((hp.push (itO l1)).push (itO l2)).push (itO l3), g, d, tk, os⟩) l4 x4 := Heap.IsList.push (Heap.IsList.push (Heap.IsList.push k4 _) _) _
    wp_walk using wpAny_pyIter_list i1, wpAny_pyIter_list i2, wpAny_pyIter_list i3, wpAny_pyIter_list i4
    exact ⟨_, rfl, h⟩
end L2

set_option Elab.async false
set_option linter.all false
set_option maxRecDepth 100000
set_option maxHeartbeats 4000000
namespace L2
open PySem PySem.Spec PyProof.Rows
section
variable {prog : Program} {w : World} {A : Around} {E : Value → Shared → Prop} {s : Shared}
abbrev zL (n l1 l2 l3 l4 : Addr) : List (Addr × Addr) := [(n, l1), (n + 1, l2), (n + 2, l3), (n + 3, l4)]
theorem call_zip4 {l1 l2 l3 l4 : Addr} {x1 x2 x3 x4 : Array Value} {Q : Value → Shared → Prop} (k1 : s.heap.IsList l1 x1) (k2 : s.heap.IsList l2 x2) (k3 : s.heap.IsList l3 x3) (k4 : s.heap.IsList l4 x4)
    (h : ∀ h', znTn (zL s.heap.objs.size l1 l2 l3 l4) (s.heap.objs.size + 6) (s.heap.objs.size + 4) (s.heap.objs.size + 5) 0 h' → (∀ c o, s.heap.get? c = some o → h'.get? c = some o) → Q (.ref (s.heap.objs.size + 6)) { s with heap := h' }) :
    wpAny (model prog w) A (call (.type "zip") [.ref l1, .ref l2, .ref l3, .ref l4]) Q E s := by
  refine callType_new F.called_zip (by decide) (tyc_zip4 _ _ _ _) (nwc_zip4 _ _ _ _) (fun obj => arg_init5 obj _ _ _ _) F.entry_zip_new (meets_zip4 l1 l2 l3 l4 x1 x2 x3 x4) ⟨k1, k2, k3, k4, ?_⟩
  have y1 : (s.heap.push (itO l1)).objs.size = s.heap.objs.size + 1 := Heap.size_push ..
  have y2 : ((s.heap.push (itO l1)).push (itO l2)).objs.size = s.heap.objs.size + 2 := by rw [Heap.size_push, y1]
  have y3 : (((s.heap.push (itO l1)).push (itO l2)).push (itO l3)).objs.size = s.heap.objs.size + 3 := by rw [Heap.size_push, y2]
  have y4 : (z4a s.heap l1 l2 l3 l4).objs.size = s.heap.objs.size + 4 := by rw [Heap.size_push, y3]
  have y5 : (z4b s.heap l1 l2 l3 l4).objs.size = s.heap.objs.size + 5 := by rw [Heap.size_push, y4]
  have y6 : (z4c s.heap l1 l2 l3 l4).objs.size = s.heap.objs.size + 6 := by rw [Heap.size_push, y5]
  have old : ∀ c o, (z4a s.heap l1 l2 l3 l4).get? c = some o → (z4d s.heap l1 l2 l3 l4).get? c = some o := fun c o x => Heap.get?_push_of_some _ (Heap.get?_push_of_some _ (Heap.get?_push_of_some _ x))
  have g7 : (z4d s.heap l1 l2 l3 l4).get? (z4c s.heap l1 l2 l3 l4).objs.size = some _ := Heap.get?_push_size _ rfl
  have g6 : (z4d s.heap l1 l2 l3 l4).get? (z4b s.heap l1 l2 l3 l4).objs.size = some _ := Heap.get?_push_of_some _ (Heap.get?_push_size _ rfl)
  have g5 : (z4d s.heap l1 l2 l3 l4).get? (z4a s.heap l1 l2 l3 l4).objs.size = some _ := Heap.get?_push_of_some _ (Heap.get?_push_of_some _ (Heap.get?_push_size _ rfl))
  have g4 : (z4d s.heap l1 l2 l3 l4).get? (((s.heap.push (itO l1)).push (itO l2)).push (itO l3)).objs.size = some _ := old _ _ (Heap.get?_push_size _ rfl)
  have g3 : (z4d s.heap l1 l2 l3 l4).get? ((s.heap.push (itO l1)).push (itO l2)).objs.size = some _ := old _ _ (Heap.get?_push_of_some _ (Heap.get?_push_size _ rfl))
  have g2 : (z4d s.heap l1 l2 l3 l4).get? (s.heap.push (itO l1)).objs.size = some _ := old _ _ (Heap.get?_push_of_some _ (Heap.get?_push_of_some _ (Heap.get?_push_size _ rfl)))
  have g1 : (z4d s.heap l1 l2 l3 l4).get? s.heap.objs.size = some _ := old _ _ (Heap.get?_push_of_some _ (Heap.get?_push_of_some _ (Heap.get?_push_of_some _ (Heap.get?_push_size _ rfl))))
  show _ ∧ _
  rw [y4, y5, y6] at g7
  rw [y1, y2, y3, y4] at g5
  rw [y5] at g6
  rw [y3] at g4
  rw [y2] at g3
  rw [y1] at g2
  rw [y6]
  refine ⟨⟨_, g7, rfl⟩, h _ ⟨g7, g5, ⟨_, g6, rfl⟩, fun p hp => ?_⟩ fun c o x => old c o (Heap.get?_push_of_some _ (Heap.get?_push_of_some _ (Heap.get?_push_of_some _ (Heap.get?_push_of_some _ x))))⟩
  simp only [List.mem_cons, List.not_mem_nil, or_false] at hp
  rcases hp with rfl | rfl | rfl | rfl
  · exact ⟨_, g1, rfl, rfl⟩
  · exact ⟨_, g2, rfl, rfl⟩
  · exact ⟨_, g3, rfl, rfl⟩
  · exact ⟨_, g4, rfl, rfl⟩
theorem zapart4 {n l1 l2 l3 l4 : Addr} (h1 : l1 < n) (h2 : l2 < n) (h3 : l3 < n) (h4 : l4 < n) : ZApart (n + 6) (n + 4) (n + 5) (zL n l1 l2 l3 l4) := by
  have ad : ∀ a : Nat, (a : Nat) = a := fun _ => rfl
  refine ⟨?_, fun p hp => ?_⟩
  · simp only [zL, List.map_cons, List.map_nil, List.nodup_cons, List.mem_cons, List.not_mem_nil, or_false, not_or, List.nodup_nil, and_true, not_false_eq_true]
    unfold Addr at *
    omega
  · simp only [zL, List.map_cons, List.map_nil, List.mem_cons, List.not_mem_nil, or_false, not_or] at hp ⊢
    unfold Addr at *
    rcases hp with rfl | rfl | rfl | rfl <;> (dsimp only; omega)
end
def iZip4 (K : PySem.W.Frag) (ta : TA) : TI := fun σ H R => ta σ H fun vs H1 => ∃ a b c d, vs = [.ref a, .ref b, .ref c, .ref d] ∧ (∃ xs, SqL K H1 a xs) ∧ (∃ xs, SqL K H1 b xs) ∧ (∃ xs, SqL K H1 c xs) ∧ (∃ xs, SqL K H1 d xs) ∧ R (Itn K [a, b, c, d]) H1
theorem pi_zip4 {X : Cx} {elts : List Expr} {kk : Nat} {tp : Pos} {e1 e2 e3 e4 : Expr} {ta : TA} {p pos : Pos} (hg : Gl X "zip") (hm : X.mg "zip" = none) (ha : PA X [e1, e2, e3, e4] ta)
    (hs : starEach [e1, e2, e3, e4] X.env = (false, eval e1 X.env) :: starEach [e2, e3, e4] X.env := by rfl) (hs2 : (backTo pos (starEach [e2, e3, e4] X.env)).any (·.1) = false := by rfl) :
    PI X (.Tuple elts kk tp) (.Call (.Name "zip" p) [e1, e2, e3, e4] [] pos) (iZip4 X.K ta) := by
  intro pins s σ H R I h
  refine Call_ (ld_blt I hg hm boot_zipT (PyProof.Rows.callWith_type1 (thn (ha pos pins s σ H _ I h) fun us s1 ⟨vs, H1, I1, r1, q1⟩ => ?_) hs hs2))
  obtain ⟨a, b, c, d, e, ⟨w1, q1⟩, ⟨w2, q2⟩, ⟨w3, q3⟩, ⟨w4, q4⟩, q⟩ := q1
  subst e
  cases r1 with
  | cons r1 rr => cases rr with
    | cons r2 rr => cases rr with
      | cons r3 rr => cases rr with
        | cons r4 rr =>
          cases rr
          cases r1
          cases r2
          cases r3
          cases r4
          obtain ⟨_, _, p1, _⟩ := I1.list q1
          obtain ⟨_, _, p2, _⟩ := I1.list q2
          obtain ⟨_, _, p3, _⟩ := I1.list q3
          obtain ⟨_, _, p4, _⟩ := I1.list q4
          have lt : ∀ {a xs}, s1.heap.IsList a xs → a < s1.heap.objs.size := fun p => by obtain ⟨_, e, _⟩ := p; exact Heap.lt_size e
          refine call_zip4 p1.isList p2.isList p3.isList p4.isList fun h' t0 k => wpAny_pyIter_zip t0.1 ?_
          refine ⟨_, _, _, _, H1, rfl, I1.kept (t' := s1.toks) k, turn_zipn (zapart4 (lt p1.isList) (lt p2.isList) (lt p3.isList) (lt p4.isList)) (by show 0 < 4; decide) (by show 4 ≤ 100; decide), t0, fun c hc => ?_, q⟩
          have le : s1.heap.objs.size ≤ c := by
            simp only [zL, List.map_cons, List.map_nil, List.mem_cons, List.not_mem_nil, or_false] at hc
            unfold Addr at *
            omega
          exact I1.fpOk le (I1.hok.fresh le)
end L2

set_option Elab.async false
set_option linter.all false
set_option maxRecDepth 100000
set_option maxHeartbeats 4000000
namespace L2
open PySem PySem.Spec PyProof.Rows
/-- a loop over any iterator, by the turn's number -/
theorem for_it {J : It} {g : TG} {tb : TS} {D : Ends} {σ : St} {H : Hp} (n : Nat) (Pv : Nat → St → Hp → Prop) (h0 : Pv 0 σ H)
    (hs : ∀ i σ H, i < n → Pv i σ H → J.go i H ∧ ∀ x H', J.yld i H x H' → g x σ H' fun σ2 H2 => tb { D with nx := Pv (i + 1), ct := Pv (i + 1), bk := D.nx } σ2 H2) (hd : ∀ σ H, Pv n σ H → J.stop n H ∧ D.nx σ H) :
    ∃ W : Nat → Nat → St → Hp → Prop, (∃ m, W 0 m σ H) ∧ ∀ i m σ H, W i m σ H →
      (J.stop i H ∧ D.nx σ H) ∨ (J.go i H ∧ ∃ N : St → Hp → Prop, (∀ σ' H', N σ' H' → ∃ m', m' < m ∧ W (i + 1) m' σ' H') ∧ ∀ x H', J.yld i H x H' → g x σ H' fun σ2 H2 => tb { D with nx := N, ct := N, bk := D.nx } σ2 H2) := by
  refine ⟨fun i m σ H => m = n - i ∧ i ≤ n ∧ Pv i σ H, ⟨n, rfl, Nat.zero_le _, h0⟩, ?_⟩
  rintro i m σ H ⟨rfl, hi, p⟩
  by_cases hlt : i < n
  · obtain ⟨go, st⟩ := hs i σ H hlt p
    exact .inr ⟨go, Pv (i + 1), fun σ' H' q => ⟨n - (i + 1), by omega, rfl, hlt, q⟩, st⟩
  · have e : i = n := by omega
    subst e
    exact .inl (hd σ H p)
/-- no exception comes -/
theorem passes_no {P : Program} {w : World} {X : Cx} : PassesX (CXo P w) X (fun _ _ _ _ => False) := fun _ _ _ _ _ _ _ ⟨_, _, _, _, _, _, _, _, _, z⟩ => z.elim
theorem same_refl {H : Hp} : Same H H := fun _ _ z => z
theorem same_new {H : Hp} {l : Addr} {o : HO} (h : H l = none) : Same H (upd H l o) := fun b u z => by rw [upd_ne (ne_of_none z h)]; exact z
/-- all but what stands at one place -/
theorem py_min (i j : Int) : (if j < i then j else i) = min i j := by
  by_cases h : j < i
  · rw [if_pos h]; omega
  · rw [if_neg h]; omega
end L2

set_option Elab.async false
set_option linter.all false
set_option maxRecDepth 100000
set_option maxHeartbeats 4000000
namespace L2
open PySem PySem.Spec PyProof.Rows
section
variable {X : Cx}
/-- sum of a list of ints -/
theorem call_sum (hc : X.calm = true) : CallR X (.builtin "sum") (fun xs H Q => ∃ (p : Addr) (ns : List Int), xs = [.ref p] ∧ SqL X.K H p (ns.map V.int) ∧ Q (.int ns.sum) H) := by
  intro pins s σ H xs us Q I r h
  obtain ⟨p, ns, rfl, hq, q⟩ := h
  obtain ⟨u, rfl, rx⟩ := vals1 r
  cases rx
  obtain ⟨its, r', pl, hz⟩ := I.list hq
  have hi : IntsAre its ns := intsAre_of r'
  obtain ⟨xs, hx⟩ := hi.allInts.items
  have hl' : s.heap.IsList p (intItems xs) := hx ▸ pl.isList
  refine sum_intListG (show X.A.handled = none from I.ok.hd hc) hl' fun h' tk t' hk => ?_
  have e1 : ns = xs.toList.map (·.1) := by
    rw [← nums_intItems, ← hx]
    exact (show numsOf its.toArray.toList = ns from hi.numsOf).symm
  have e2 : preSum (numAt xs) xs.size = ns.sum := by
    rw [preSum_eq, List.take_of_length_le (by simp), e1]
  rw [e2]
  exact ⟨.int ns.sum, H, I.kept (t' := tk) hk, ⟨t', rfl⟩, q⟩
theorem boot_sum : bootBuiltins "sum" = some (.builtin "sum") := by decide +kernel
theorem op_isnotB : OpR X (compareOp .IsNot) (fun x y H Q => ∃ c d, x = .bl c ∧ y = .bl d ∧ Q (.bl (c != d)) H) := by
  intro pins s σ H x y v u Q I rx ry h
  obtain ⟨c, d, rfl, rfl, q⟩ := h
  cases rx
  cases ry
  exact isnot_bool (fin_bl I q rfl)
end
/-! ### enumerate of a list -/
def Ite (K : PySem.W.Frag) (a : Addr) : It :=
  ⟨fun i H => ∃ xs x, SqL K H a xs ∧ xs[i]? = some x,
   fun i H v H' => ∃ T x, v = .ref T ∧ H T = none ∧ H' = upd H T (.tup [.int (i : Int), x]) ∧ ∀ xs, SqL K H a xs → xs[i]? = some x,
   fun i H => ∃ xs, SqL K H a xs ∧ xs.length ≤ i⟩
def enumTn (a e it : Addr) (i : Nat) (h : Heap) : Prop := (∃ old, IsEnum h e it (i : Int) old) ∧ h.IsListIter it a i
theorem turn_enum {P : Program} {w : World} {K : PySem.W.Frag} {elts : List Expr} {kk : Nat} {tp : Pos} (a e it : Addr) (hei : e ≠ it) :
    Turn P w K (.Tuple elts kk tp) (Ite K a) [e, it] e (enumTn a e it) where
  mem := by simp
  obj := fun i h st c hc => by
    obtain ⟨⟨old, h1⟩, ⟨o2, e2, _, d2⟩⟩ := st
    simp only [List.mem_cons, List.not_mem_nil, or_false] at hc
    rcases hc with rfl | rfl
    · exact ⟨_, h1, fun v z => nomatch z⟩
    · exact ⟨o2, e2, fun v z => by rw [d2] at z; cases z⟩
  keep := fun i h h' st k => by
    obtain ⟨⟨old, h1⟩, h2⟩ := st
    exact ⟨⟨old, k e (by simp) _ h1⟩, h2.at fun o e' => k it (by simp) o e'⟩
  item := by
    intro X hP hw hK hc i pins s σ H E I hf st hg
    subst hP hw hK
    obtain ⟨⟨old, h1⟩, h2⟩ := st
    obtain ⟨xs, x, hq, hx⟩ := hg
    obtain ⟨its, rv, p, hz⟩ := I.list hq
    obtain ⟨u, hu, ru⟩ := rv.get hx
    refine wpAny_pyNext_enum_item h1 h2 p.isList (x := u) (by simpa using hu) hei fun h' a1 a2 a3 a4 a5 => ?_
    refine ⟨_, rfl, wpAny_letOwnedTupleGo_enum a1 fun h'' b1 bs => ?_⟩
    have hnz : s.heap.objs.size ≠ e := Nat.ne_of_gt (Heap.lt_size h1)
    have hT : h''.get? s.heap.objs.size = some { cls := .type "tuple", data := .seq #[.int i s.toks, u] } := (bs.2 _ hnz).trans a3
    have kk : ∀ c o, c ∉ [e, it] → s.heap.get? c = some o → h''.get? c = some o := fun c o hc e' => by
      simp only [List.mem_cons, List.not_mem_nil, or_false, not_or] at hc
      exact (bs.2 c hc.1).trans (a5 c o hc.1 hc.2 e')
    have hfr : H s.heap.objs.size = none := I.hok.fresh (Nat.le_refl _)
    have nt : ∀ c v, H c = some v → c ∉ [e, it] ∧ c ≠ s.heap.objs.size := fun c v e' => by
      refine ⟨fun hc => ?_, ne_of_none e' hfr⟩
      rw [(hf c hc).1] at e'
      cases e'
    have lt : ∀ c o, s.heap.get? c = some o → c ≠ s.heap.objs.size := fun c o e' => Nat.ne_of_lt (Heap.lt_size e')
    have I2 : Inv X pins σ (upd H s.heap.objs.size (.tup [.int (i : Int), x])) { s with heap := h'', toks := s.toks + 1 } := by
      refine I.step (g' := s.gens) (d' := s.drawn) (t' := s.toks + 1) (ch := [e, it]) (fun c hc => ?_) (fun c o _ _ hc e' _ => kk c o hc e') (fun c o _ _ hc e' _ => ⟨o.slots, kk c o hc e'⟩) (fun c o _ e' n => by rw [upd_ne (lt c o e')]; exact n)
        (fun c o hc e' => ⟨o, kk c o hc e'⟩) (fun c zs e' => by rw [upd_ne (nt c _ e').2]; exact e') (fun c o v e' => by rw [upd_ne (nt c _ e').2]; exact e') (fun c ps e' => ⟨#[], by rw [upd_ne (nt c _ e').2, e']; simp⟩) (fun m hm => ?_) (fun c v e' => ?_) I.bare
      · have f := hf c hc
        exact ⟨f.2.2.2.1, f.2.1, f.2.2.2.2.1, f.2.2.2.2.2⟩
      · obtain ⟨o, es, ep, ho, r⟩ := hm
        exact ⟨o, es, ep, kk _ o (fun c => (hf _ c).2.1 rfl) ho, r⟩
      · by_cases hc : c = s.heap.objs.size
        · subst hc
          rw [upd_same] at e'
          cases e'
          exact ⟨by show 2 ≤ sizeLine; decide, [.int i s.toks, u], .cons ⟨s.toks, rfl⟩ (.cons ru .nil), _, hT, rfl, 0, rfl⟩
        · rw [upd_ne hc] at e'
          refine (I.hok c v e').stay (fun c' v' hc' q => kk c' v' ?_ q) (fun c' q => by rw [upd_ne (nt c' _ q).2]; exact q) fun c' zs q => by rw [upd_ne (nt c' _ q).2]; exact q
          rcases hc' with rfl | hc'
          · exact (nt _ _ e').1
          · exact (nt _ _ hc').1
    refine ⟨.ref s.heap.objs.size, _, I2, rfl, ⟨_, x, rfl, hfr, rfl, fun zs hq' => ?_⟩, ⟨⟨_, b1⟩, a2.at fun o e' => (bs.2 _ hei.symm).trans e'⟩, fun c hc => ?_⟩
    · rw [I.list_inj hq' hq]
      exact hx
    · obtain ⟨o, e'⟩ : ∃ o, s.heap.get? c = some o := by
        simp only [List.mem_cons, List.not_mem_nil, or_false] at hc
        obtain ⟨o5, e5, _⟩ := h2
        rcases hc with rfl | rfl
        · exact ⟨_, h1⟩
        · exact ⟨_, e5⟩
      rw [upd_ne (lt c o e')]
      exact (hf c hc).1
  done := by
    intro X hP hw hK hc i pins s σ H E I hf st hg
    subst hP hw hK
    obtain ⟨⟨old, h1⟩, h2⟩ := st
    obtain ⟨xs, hq, hx⟩ := hg
    obtain ⟨its, rv, p, hz⟩ := I.list hq
    have hl := rv.length
    refine wpAny_pyNext_enum_end (I.ok.hd hc) h1 h2 p.isList (by simp; omega) fun h' hk => ⟨rfl, ?_⟩
    refine zip_inv (ch := [it]) I hf (fun c hc => by simp at hc; simp [hc]) fun c o hc e' => ?_
    exact hk c o (by simpa using hc) e'
  self := fun _ _ _ _ _ st h => by
    obtain ⟨⟨old, h1⟩, _⟩ := st
    exact wpAny_pyIter_enum h1 h
def iEnum (K : PySem.W.Frag) (ta : TA) : TI := fun σ H R => ta σ H fun vs H1 => ∃ a, vs = [.ref a] ∧ (∃ xs, SqL K H1 a xs) ∧ R (Ite K a) H1
theorem boot_enumT : bootBuiltins "enumerate" = some (.type "enumerate") := by decide +kernel
theorem pi_enum {X : Cx} {elts : List Expr} {kk : Nat} {tp : Pos} {e1 : Expr} {ta : TA} {p pos : Pos} (hg : Gl X "enumerate") (hm : X.mg "enumerate" = none) (ha : PA X [e1] ta) (hs : starEach [e1] X.env = [(false, eval e1 X.env)] := by rfl) :
    PI X (.Tuple elts kk tp) (.Call (.Name "enumerate" p) [e1] [] pos) (iEnum X.K ta) := by
  intro pins s σ H R I h
  refine Call_ (ld_blt I hg hm boot_enumT (PyProof.Rows.callWith_type1 (thn (ha pos pins s σ H _ I h) fun us s1 ⟨vs, H1, I1, r1, q1⟩ => ?_) hs rfl))
  obtain ⟨a, e, ⟨xs, hq⟩, q⟩ := q1
  subst e
  obtain ⟨u, rfl, ru⟩ := vals1 r1
  cases ru
  obtain ⟨its, rv, p1, hz1⟩ := I1.list hq
  refine call_enumerate_list p1.isList fun h' g1 g2 g3 g4 => wpAny_pyIter_enum g1 ?_
  have I2 : Inv X pins σ H1 { s1 with heap := h' } := I1.kept (t' := s1.toks) g4
  refine ⟨s1.heap.objs.size + 1, [s1.heap.objs.size + 1, s1.heap.objs.size], _, _, H1, rfl, I2, turn_enum a (s1.heap.objs.size + 1) s1.heap.objs.size (Nat.succ_ne_self _), ⟨⟨_, g1⟩, g2⟩, fun c hc => ?_, q⟩
  have le : s1.heap.objs.size ≤ c := by
    simp only [List.mem_cons, List.not_mem_nil, or_false] at hc
    rcases hc with rfl | rfl
    · exact Nat.le_add_right _ _
    · exact Nat.le_refl _
  exact I1.fpOk le (I1.hok.fresh le)
end L2
namespace L2
theorem ne_t {a b : Int} (h : (!decide (V.int a = V.int b)) = true) : a ≠ b := by
  intro z
  rw [z] at h
  simp at h
theorem ne_f {a b : Int} (h : ¬ (!decide (V.int a = V.int b)) = true) : a = b := by
  by_cases z : a = b
  · exact z
  · exact absurd (by have : V.int a ≠ V.int b := fun q => z (by injection q)
                     simp [this]) h
theorem eq_t {a b : Int} (h : decide (V.int a = V.int b) = true) : a = b := by
  have := of_decide_eq_true h
  injection this
theorem not_t {b : Bool} (h : (!b) = true) : b = false := by simpa using h
theorem not_f {b : Bool} (h : ¬ (!b) = true) : b = true := by simpa using h
end L2
namespace L2
end L2
namespace L2
open PySem
def rLen (K : PySem.W.Frag) : List V → Hp → VK → Prop := fun xs H Q => ∃ p ys, xs = [.ref p] ∧ (SqL K H p ys ∨ SqT K H p ys) ∧ Q (.int ys.length) H
def rSum (K : PySem.W.Frag) : List V → Hp → VK → Prop := fun xs H Q => ∃ (p : Addr) (ns : List Int), xs = [.ref p] ∧ SqL K H p (ns.map V.int) ∧ Q (.int ns.sum) H
def rListOf (K : PySem.W.Frag) : List V → Hp → VK → Prop := fun xs H Q => ∃ p ys, xs = [.ref p] ∧ (SqL K H p ys ∨ SqT K H p ys) ∧ ∀ l, H l = none → Q (.ref l) (upd H l (.lst ys))
end L2
namespace L2
open PySem
def rIsi (K : PySem.W.Frag) : List V → Hp → VK → Prop := fun xs H Q => ∃ x c t b, xs = [x, c] ∧ TyOf K H x t ∧ clsV c ≠ Value.none ∧ PySem.W.kitOne K t (clsV c) = some b ∧ Q (.bl b) H
end L2

set_option Elab.async false
set_option linter.all false
set_option maxRecDepth 100000
set_option maxHeartbeats 4000000
namespace L2
open PySem PySem.Spec PyProof.Rows
/-! ### min, max of a list of ints with a default -/
section
variable {prog : Program} {w : World} {A : Around} {R : Result → Shared → Prop} {it : Addr} {fp wr : List Addr} {n : Nat} {Pv : Nat → Value → Prop} {Sv : Nat → Heap → Prop} {dv : Value}
abbrev best2 (v : Value) (c : Nat) : Obj := { cls := .type "list", dict := none, data := .seq #[v, v] c, slots := #[] }
abbrev best0 (c : Nat) : Obj := { cls := .type "list", dict := none, data := .seq #[] c, slots := #[] }
abbrev kwD (dv : Value) : List (Str × Value) := [("default", dv)]
end
section
variable {prog : Program} {w : World} {A : Around} {E : Value → Shared → Prop} {s : Shared}
/-- a call that goes on in turns, keywords too -/
theorem call_turns {id : String} {b : Builtin} {args : List Value} {kw : List (Str × Value)} {Q : Value → Shared → Prop} (hk : builtinKind id = none) (hp : plainId id = true) (hb : entryFor table id = some b) (ha : argsOk id ⟨args, kw⟩)
    (hc : wpAny (model prog w) A.in1 (b ⟨args, kw⟩) (fun fin s' => match fin with
      | .done f => (match (Except.ok f : Result) with | .ok (.ret v) => Q v s' | .ok _ => False | .error e => E e s')
      | .again c' => c'.quiet = true ∧ codeAny (model prog w) A c' (fun r s' => match r with | .ok (.ret v) => Q v s' | .ok _ => False | .error e => E e s') s') E s) :
    wpAny (model prog w) A (call (.builtin id) args kw) Q E s := by
  refine wpAny_call (codeAny_call_builtin hp hb ?_)
  simp only [checkBuiltinCall, hk]
  cases es : Manifest.signature? id with
  | none => exact wpAny_pure hc
  | some sig =>
    simp only [argsOk, es] at ha
    have h2 : Bind.checkArgs id sig ⟨args, kw⟩ = pure () := ha
    show wpAny _ A.in1 (Bind.checkArgs id sig ⟨args, kw⟩) _ _ s
    rw [h2]
    exact wpAny_pure hc
end
section
variable {X : Cx}
/-- the word: the least (greatest) of the list, the default where it is empty -/
def rMinD (K : PySem.W.Frag) : List V → List V → Hp → VK → Prop := fun xs ks H Q => ∃ (p : Addr) (ns : List Int) (d : Int), xs = [.ref p] ∧ ks = [.int d] ∧ SqL K H p (ns.map V.int) ∧ ∀ m : Int, (ns = [] → m = d) → (ns ≠ [] → m ∈ ns ∧ ∀ v ∈ ns, m ≤ v) → Q (.int m) H
def rMaxD (K : PySem.W.Frag) : List V → List V → Hp → VK → Prop := fun xs ks H Q => ∃ (p : Addr) (ns : List Int) (d : Int), xs = [.ref p] ∧ ks = [.int d] ∧ SqL K H p (ns.map V.int) ∧ ∀ m : Int, (ns = [] → m = d) → (ns ≠ [] → m ∈ ns ∧ ∀ v ∈ ns, v ≤ m) → Q (.int m) H
def CallKD (X : Cx) (id : String) (r : List V → List V → Hp → VK → Prop) : Prop :=
  ∀ (pins : List (Addr × Obj)) (s : Shared) (σ : St) (H : Hp) (xs ks : List V) (us ws : List Value) (Q : VK), Inv X pins σ H s → Vals xs us → Vals ks ws → r xs ks H Q → ∃ d, ws = [d] ∧ wpAny (model X.prog X.w) X.A (call (.builtin id) us (kwD d)) (EP X pins σ Q) X.xe s
def tKD (r : List V → List V → Hp → VK → Prop) (t tk : TA) : TE := fun σ H Q => t σ H fun vs H1 => tk σ H1 fun zs H2 => r vs zs H2 Q
end
end L2
namespace L2
open PySem PySem.Spec PyProof.Rows
/-- != of two lists of unlike length -/
def rNeLen (K : PySem.W.Frag) (A : Around) : R2 := fun x y H Q => ∃ a b xs ys, x = .ref a ∧ y = .ref b ∧ SqL K H a xs ∧ SqL K H b ys ∧ xs.length ≠ ys.length ∧ A.units < cLine ∧ Q (.bl true) H
end L2

set_option Elab.async false
set_option linter.all false
set_option maxRecDepth 100000
set_option maxHeartbeats 4000000
namespace L2
open PySem PySem.Spec PyProof.Rows
/-! ### < of lists of ints, of pairs of an int and such a list -/
section
open PySem.SeqAt
open PySem.AutoSeq1 (wpAny_loadPart')
open PySem.MeetsSeq PySem.MeetsSeq2 PySem.MeetsSeq3
theorem lexLt_self : ∀ ns : List Int, HT.lexLt ns ns = false
  | [] => rfl
  | n :: ns => by rw [HT.lexLt_cons, if_pos rfl]; exact lexLt_self ns
abbrev lsO (xs : List Value) (n : Nat) (d : Option Addr) (sl : Array (Option Value)) : Obj := { cls := .type "list", dict := d, data := .seq xs.toArray n, slots := sl }
abbrev tpO (xs : Array Value) (n : Nat) (d : Option Addr) (sl : Array (Option Value)) : Obj := { cls := .type "tuple", dict := d, data := .seq xs n, slots := sl }
theorem lt_loop (p q : Addr) (xs ys : List Value) (n m : Nat) (d1 d2 : Option Addr) (s1 s2 : Array (Option Value)) (ns ms : List Int) (hx : Vals (ns.map V.int) xs) (hy : Vals (ms.map V.int) ys) (hl : ns.length = ms.length) (todo : Nat) :
    ∀ i : Nat, ns.length - i = todo → i ≤ ns.length → Meets (Builtin.«list.__eq__.loop» ⟨[.ref p, .ref q, rawInt i, rawInt 0], []⟩)
      (fun _ R s => s.heap.get? p = some (lsO xs n d1 s1) ∧ s.heap.get? q = some (lsO ys m d2 s2) ∧ R (.ok (.ret (.bool (HT.lexLt (ns.drop i) (ms.drop i))))) s) := by
  have z1 : xs.length = ns.length := by rw [← hx.length, List.length_map]
  have z2 : ys.length = ms.length := by rw [← hy.length, List.length_map]
  induction todo with
  | zero =>
    intro i e1 e2 prog w A R s h
    obtain ⟨hp, g, d, tk, os⟩ := s
    obtain ⟨o1, o2, h⟩ := h
    wp_walk using wpAny_loadPart' o1, wpAny_loadPart' o2
    have g1 : xs.toArray[((i : Nat) : Int).toNat]? = none := by simp; omega
    have g2 : ys.toArray[((i : Nat) : Int).toNat]? = none := by simp; omega
    have c1 : ns.drop i = [] := List.drop_of_length_le (by omega)
    have c2 : ms.drop i = [] := List.drop_of_length_le (by omega)
    rw [c1, c2] at h
    rw [g1, g2]
    wp_walk using wpAny_loadPart' o1, wpAny_loadPart' o2
    show R (.ok (.ret (.bool (decide (xs.toArray.size < ys.toArray.size))))) _
    have c3 : decide (xs.toArray.size < ys.toArray.size) = false := decide_eq_false (by simp; omega)
    rw [c3]
    exact h
  | succ todo more =>
    intro i e1 e2 prog w A R s h
    obtain ⟨hp, g, d, tk, os⟩ := s
    obtain ⟨o1, o2, h⟩ := h
    wp_walk using wpAny_loadPart' o1, wpAny_loadPart' o2
    have l1 : i < ns.length := by omega
    have l2 : i < ms.length := by omega
    have v1 : (ns.map V.int)[i]? = some (.int ns[i]) := by simp [l1]
    have v2 : (ms.map V.int)[i]? = some (.int ms[i]) := by simp [l2]
    obtain ⟨u1, w1, t1, rfl⟩ := hx.get v1
    obtain ⟨u2, w2, t2, rfl⟩ := hy.get v2
    have g1 : xs.toArray[((i : Nat) : Int).toNat]? = some (.int ns[i] t1) := by simpa using w1
    have g2 : ys.toArray[((i : Nat) : Int).toNat]? = some (.int ms[i] t2) := by simpa using w2
    have ec : ((i : Int) + 1) = ((i + 1 : Nat) : Int) := by push_cast; rfl
    rw [List.drop_eq_getElem_cons l1, List.drop_eq_getElem_cons l2, HT.lexLt_cons] at h
    rw [g1, g2]
    obtain ⟨e, he, hiff⟩ := HT.eqAt_int A.in1 ⟨hp, g, d, tk, os⟩ ns[i] t1 ms[i] t2
    refine wpAny_bind (he prog w _ _ ?_)
    cases e with
    | true =>
      rw [if_pos (hiff.mp rfl)] at h
      wp_walk
      rw [ec]
      exact ⟨plainId_quiet plain_eq_loop _, codeAny_builtin entry_eq_loop (by
        rw [Around.under_plainId plain_eq_loop _]
        exact more (i + 1) (by omega) (by omega) prog w A R _ ⟨o1, o2, h⟩)⟩
    | false =>
      rw [if_neg (fun z => absurd (hiff.mpr z) Bool.false_ne_true)] at h
      have hri := HT.rcLt_int A.in1 ⟨hp, g, d, tk, os⟩ ns[i] t1 ms[i] t2 prog w
      wp_walk using wpAny_loadPart' o1, wpAny_loadPart' o2
      rw [g1, g2]
      wp_walk using hri
      exact h
theorem list_lt_ints (p q : Addr) (xs ys : List Value) (n m : Nat) (d1 d2 : Option Addr) (s1 s2 : Array (Option Value)) (ns ms : List Int) (hx : Vals (ns.map V.int) xs) (hy : Vals (ms.map V.int) ys) (hl : ns.length = ms.length) :
    Meets (Builtin.«list.__lt__» ⟨[.ref p, .ref q], []⟩) (fun _ R s => s.heap.get? p = some (lsO xs n d1 s1) ∧ s.heap.get? q = some (lsO ys m d2 s2) ∧ R (.ok (.ret (.bool (HT.lexLt ns ms)))) s) := by
  intro prog w A R s h
  obtain ⟨hp, g, d, tk, os⟩ := s
  obtain ⟨o1, o2, h⟩ := h
  have f3 := AutoSeq1.sub_list_list
  wp_walk using wpAny_loadPart' o1, wpAny_loadPart' o2
  exact ⟨plainId_quiet plain_eq_loop _, codeAny_builtin entry_eq_loop (by
    rw [Around.under_plainId plain_eq_loop _]
    exact lt_loop p q xs ys n m d1 d2 s1 s2 ns ms hx hy hl _ 0 rfl (Nat.zero_le _) prog w A R _ ⟨o1, o2, h⟩)⟩
end
section
variable {prog : Program} {w : World} {A : Around} {E : Value → Shared → Prop} {s : Shared}
theorem rc_lt_list {p q : Addr} {xs ys : List Value} {ns ms : List Int} {Q : Value → Shared → Prop} (h1 : s.heap.IsList p xs.toArray) (h2 : s.heap.IsList q ys.toArray) (hx : Vals (ns.map V.int) xs) (hy : Vals (ms.map V.int) ys) (hl : ns.length = ms.length) (hu : A.units < cLine)
    (k : Q (.bool (HT.lexLt ns ms)) s) : wpAny (model prog w) A (richCompare .Lt (.ref p) (.ref q)) Q E s := by
  obtain ⟨⟨c1, d1, a1, s1⟩, o1, e1, n1, f1⟩ := id h1
  obtain ⟨⟨c2, d2, a2, s2⟩, o2, e2, n2, f2⟩ := id h2
  simp only at e1 f1 e2 f2
  subst e1 f1 e2 f2
  exact richCompare_meets_room (op := .Lt) ⟨_, o1, rfl⟩ ⟨_, o2, rfl⟩ PySem.F.slot_list_lt PySem.F.entry_list_lt (PySem.F.args_list_lt_2 _ _) (list_lt_ints p q xs ys n1 n2 d1 d2 s1 s2 ns ms hx hy hl)
    ⟨o1, o2, show Value.bool (HT.lexLt ns ms) ≠ Value.notImplemented ∧ Q (.bool (HT.lexLt ns ms)) s from ⟨(fun z => nomatch z), k⟩⟩ hu
theorem mapInt_inj : ∀ {ns ms : List Int}, ns.map V.int = ms.map V.int → ns = ms
  | [], [], _ => rfl
  | n :: ns, m :: ms, h => by
    rw [List.map_cons, List.map_cons] at h
    injection h with h1 h2
    injection h1 with h1
    rw [h1, mapInt_inj h2]
  | [], _ :: _, h => by cases h
  | _ :: _, [], h => by cases h
theorem eq_ints_at {A : Around} {s : Shared} {p q : Addr} {xs ys : List Value} {ns ms : List Int} (h1 : s.heap.IsList p xs.toArray) (h2 : s.heap.IsList q ys.toArray) (hx : Vals (ns.map V.int) xs) (hy : Vals (ms.map V.int) ys) (hl : ns.length = ms.length) (hu : A.units < cLine) :
    ∃ e, SeqAt.EqAt A s (.ref p) (.ref q) e ∧ (e = true → ns = ms) := by
  have z1 : xs.length = ns.length := by rw [← hx.length, List.length_map]
  have z2 : ys.length = ms.length := by rw [← hy.length, List.length_map]
  by_cases hpq : p = q
  · subst hpq
    refine ⟨true, SeqAt.EqAt.same _, fun _ => ?_⟩
    obtain ⟨o1, e1, _, n1, f1⟩ := h1
    obtain ⟨o2, e2, _, n2, f2⟩ := h2
    rw [e1] at e2
    cases e2
    rw [f1] at f2
    injection f2 with f2
    have hxy : xs = ys := by simpa using f2
    subst hxy
    exact mapInt_inj (Vals.inj hx hy)
  · refine ⟨_, SeqAt.EqAt.of_refs hpq (SeqAt.RcAt.lists (A := A) (e := fun j => (ns.getD j 0 == ms.getD j 0)) h1 h2 (by simp; omega) hu fun j g1 g2 => ?_), fun z => ?_⟩
    · have l1 : j < ns.length := by simp at g1; omega
      have l2 : j < ms.length := by omega
      obtain ⟨u1, w1, t1, rfl⟩ := hx.get (show (ns.map V.int)[j]? = some (.int ns[j]) by simp [l1])
      obtain ⟨u2, w2, t2, rfl⟩ := hy.get (show (ms.map V.int)[j]? = some (.int ms[j]) by simp [l2])
      have y1 : xs.toArray[j] = .int ns[j] t1 := by
        have := (List.getElem?_eq_some_iff.mp w1).2
        simpa using this
      have y2 : ys.toArray[j] = .int ms[j] t2 := by
        have := (List.getElem?_eq_some_iff.mp w2).2
        simpa using this
      rw [y1, y2, List.getD_eq_getElem?_getD, List.getD_eq_getElem?_getD, List.getElem?_eq_getElem l1, List.getElem?_eq_getElem l2]
      exact SeqAt.EqAt.int_int _ _ _ _
    · rw [List.all_eq_true] at z
      refine List.ext_getElem hl fun j l1 l2 => ?_
      have := z j (List.mem_range.mpr (by simp; omega))
      rw [List.getD_eq_getElem?_getD, List.getD_eq_getElem?_getD, List.getElem?_eq_getElem l1, List.getElem?_eq_getElem l2] at this
      simpa using this
/-- the word for two such pairs -/
def pairLt (e1 e2 : Int) (ns ms : List Int) : Bool := if e1 = e2 then HT.lexLt ns ms else decide (e1 < e2)
theorem pairLt_le {e1 e2 : Int} {ns ms : List Int} (h : pairLt e1 e2 ns ms = true) : e1 ≤ e2 := by
  unfold pairLt at h
  by_cases z : e1 = e2
  · omega
  · rw [if_neg z] at h
    have := of_decide_eq_true h
    omega
theorem pairLt_ge {e1 e2 : Int} {ns ms : List Int} (h : pairLt e1 e2 ns ms = false) : e2 ≤ e1 := by
  unfold pairLt at h
  by_cases z : e1 = e2
  · omega
  · rw [if_neg z] at h
    have := of_decide_eq_false h
    omega
open PySem.AutoSeq1 (wpAny_loadPart') in
theorem pair_meets (a b p q : Addr) (e1 e2 : Int) (t1 t2 : Tok) (n m : Nat) (d1 d2 : Option Addr) (s1 s2 : Array (Option Value)) (xs ys : List Value) (ns ms : List Int) (hx : Vals (ns.map V.int) xs) (hy : Vals (ms.map V.int) ys) (hl : ns.length = ms.length) :
    Meets (Builtin.«tuple.__lt__» ⟨[.ref a, .ref b], []⟩) (fun A R s => s.heap.get? a = some (tpO #[.int e1 t1, .ref p] n d1 s1) ∧ s.heap.get? b = some (tpO #[.int e2 t2, .ref q] m d2 s2) ∧ s.heap.IsList p xs.toArray ∧ s.heap.IsList q ys.toArray ∧ A.in1.units < cLine ∧
      R (.ok (.ret (.bool (pairLt e1 e2 ns ms)))) s) :=
  .of_wp fun prog w A R s h => by
    obtain ⟨hp, g, d, tk, os⟩ := s
    obtain ⟨o1, o2, h1, h2, hu, h⟩ := h
    have f2 := AutoSeq1.sub_tuple_tuple
    wp_walk using wpAny_loadPart' o1, wpAny_loadPart' o2, wpAny_forIn_list _ (fun rest b s' => b.1 = none ∧ s' = ⟨hp, g, d, tk, os⟩ ∧ (rest = [(.int e1 t1, .int e2 t2), (.ref p, .ref q)] ∨ (rest = [(.ref p, .ref q)] ∧ e1 = e2) ∨ (rest = [] ∧ e1 = e2 ∧ ns = ms))) _
    case turn =>
      rintro ⟨y, x⟩ rest b s' ⟨hb', rfl, hr | ⟨hr, he⟩ | ⟨hr, _⟩⟩
      · injection hr with hyx hrest
        injection hyx with hy' hx'
        subst hy' hx'
        obtain ⟨e, hea, hiff⟩ := HT.eqAt_int A.in1 ⟨hp, g, d, tk, os⟩ e1 t1 e2 t2
        refine wpAny_bind (hea prog w _ _ ?_)
        cases e with
        | true =>
          wp_walk
          exact ⟨rfl, rfl, .inr (.inl ⟨hrest, hiff.mp rfl⟩)⟩
        | false =>
          have hri := HT.rcLt_int A.in1 ⟨hp, g, d, tk, os⟩ e1 t1 e2 t2 prog w
          wp_walk using hri
          refine ⟨_, rfl, ?_⟩
          have : pairLt e1 e2 ns ms = decide (e1 < e2) := by
            unfold pairLt
            rw [if_neg (fun z => absurd (hiff.mpr z) Bool.false_ne_true)]
          rw [this] at h
          simpa using h
      · injection hr with hyx hrest
        injection hyx with hy' hx'
        subst hy' hx'
        obtain ⟨e, hea, himp⟩ := eq_ints_at (A := A.in1) (s := ⟨hp, g, d, tk, os⟩) h1 h2 hx hy hl hu
        refine wpAny_bind (hea prog w _ _ ?_)
        cases e with
        | true =>
          wp_walk
          exact ⟨rfl, rfl, .inr (.inr ⟨hrest, he, himp rfl⟩)⟩
        | false =>
          have hri := fun (E' : Value → Shared → Prop) (Q' : Value → Shared → Prop) (k : Q' (.bool (HT.lexLt ns ms)) ⟨hp, g, d, tk, os⟩) => rc_lt_list (prog := prog) (w := w) (A := A.in1) (E := E') (s := ⟨hp, g, d, tk, os⟩) h1 h2 hx hy hl hu k
          wp_walk using hri
          refine ⟨_, rfl, ?_⟩
          have : pairLt e1 e2 ns ms = HT.lexLt ns ms := by
            unfold pairLt
            rw [if_pos he]
          rw [this] at h
          simpa using h
      · cases hr
    case fin =>
      rintro ⟨b1, b2⟩ s' ⟨hb', rfl, hr | ⟨hr, he⟩ | ⟨hr, he, hnm⟩⟩
      · cases hr
      · cases hr
      · simp only at hb'
        subst hb'
        have : pairLt e1 e2 ns ms = false := by
          unfold pairLt
          rw [if_pos he, hnm, lexLt_self]
        rw [this] at h
        wp_walk
        exact ⟨_, rfl, by simpa [Builtin.Tuple.tupleCompareSizes] using h⟩
    case h =>
      exact ⟨rfl, rfl, .inl rfl⟩
theorem rc_pair {a b p q : Addr} {e1 e2 : Int} {t1 t2 : Tok} {xs ys : List Value} {ns ms : List Int} {Q : Value → Shared → Prop} (ha : IsTup s.heap a #[.int e1 t1, .ref p]) (hb : IsTup s.heap b #[.int e2 t2, .ref q]) (h1 : s.heap.IsList p xs.toArray) (h2 : s.heap.IsList q ys.toArray)
    (hx : Vals (ns.map V.int) xs) (hy : Vals (ms.map V.int) ys) (hl : ns.length = ms.length) (hu : A.units + 1 < cLine) (k : Q (.bool (pairLt e1 e2 ns ms)) s) : wpAny (model prog w) A (richCompare .Lt (.ref a) (.ref b)) Q E s := by
  obtain ⟨⟨c1, d1, a1, s1⟩, o1, f1, n1, g1⟩ := id ha
  obtain ⟨⟨c2, d2, a2, s2⟩, o2, f2, n2, g2⟩ := id hb
  simp only at f1 g1 f2 g2
  subst f1 g1 f2 g2
  exact richCompare_meets_room (op := .Lt) ⟨_, o1, rfl⟩ ⟨_, o2, rfl⟩ PySem.F.slot_tuple_lt PySem.F.entry_tuple_lt (PySem.F.args_tuple_lt_2 _ _) (pair_meets a b p q e1 e2 t1 t2 n1 n2 d1 d2 s1 s2 xs ys ns ms hx hy hl)
    ⟨o1, o2, h1, h2, hu, show Value.bool (pairLt e1 e2 ns ms) ≠ Value.notImplemented ∧ Q (.bool (pairLt e1 e2 ns ms)) s from ⟨(fun z => nomatch z), k⟩⟩ (by omega)
end
end L2

set_option Elab.async false
set_option linter.all false
set_option maxRecDepth 100000
set_option maxHeartbeats 4000000
namespace L2
open PySem PySem.Spec PyProof.Rows
/-! ### min of a list of pairs of an int and a list of ints -/
section
variable {prog : Program} {w : World} {A : Around} {R : Result → Shared → Prop} {it : Addr} {fp wr : List Addr} {n : Nat} {Pv : Nat → Value → Prop} {Sv : Nat → Heap → Prop} {h0 : Heap}
/-- all that stood in h0 stands in h -/
abbrev Kp (h0 h : Heap) : Prop := ∀ b o, h0.get? b = some o → h.get? b = some o
def CmpH (prog : Program) (w : World) (A : Around) (h0 : Heap) (n : Nat) (Pv : Nat → Value → Prop) (bt : Nat → Nat → Bool) : Prop :=
  ∀ (i j : Nat) (u v : Value) (sh : Shared) (Q E : Value → Shared → Prop), Pv i u → Pv j v → Kp h0 sh.heap → Q (.bool (bt i j)) sh → wpAny (model prog w) A (richCompare .Lt u v) Q E sh
theorem minH_turns (Wk : Walks prog w A.in1 it fp wr n Pv Sv) (bt : Nat → Nat → Bool) (cmp : CmpH prog w A.in1 h0 n Pv bt) (bo : Addr) (nbo : bo ∉ fp) (fw : ∀ b ∈ wr, h0.get? b = none) (fb : h0.get? bo = none) :
    ∀ (todo at' : Nat) (sh : Shared) (bv : Value) (cc : Nat), n - (at' + 1) = todo → at' + 1 ≤ n → Sv (at' + 1) sh.heap → Pv (argBest bt at') bv → sh.heap.get? bo = some (best2 bv cc) → Kp h0 sh.heap →
    (∀ rv hz tz, Pv (argBest bt (n - 1)) rv → Kp h0 hz → R (.ok (.ret rv)) { sh with heap := hz, toks := tz }) →
    codeAny (model prog w) A (.builtin "min.loop" ⟨[.ref it, .none, .ref bo], []⟩) R sh := by
  have nbw : bo ∉ wr := fun z => nbo (Wk.sub _ z)
  have nm : (toString "min" ++ toString ".loop" : String) = "min.loop" := by decide
  have kw : ∀ {h1 h2 : Heap}, Kp h0 h1 → (∀ b o, b ∉ wr → h1.get? b = some o → h2.get? b = some o) → Kp h0 h2 := fun k e b o z => e b o (fun m => by rw [fw b m] at z; cases z) (k b o z)
  intro todo
  induction todo with
  | zero =>
    intro at' sh bv cc e1 e2 sv pb ob kp fin
    have en : at' + 1 = n := by omega
    refine codeAny_builtin PySem.F.entry_min_loop ?_
    rw [Around.under_plainId PySem.F.plain_min_loop _]
    show wpAny _ A.in1 (seqItems? (.ref bo) >>= _) _ _ sh
    refine wpAny_bind (wpAny_seqItems ob rfl ?_)
    show wpAny _ A.in1 (tryCatch (pyNext (.ref it)) _ >>= _) _ _ sh
    refine wpAny_bind (wpAny_tryCatch (Wk.done sh _ _ (en ▸ sv) fun hz tz kz => ?_))
    have ob2 := kz bo _ nbw ob
    show wpAny _ A.in1 (updateSeq bo (fun _ => #[]) >>= _) _ _ _
    refine wpAny_bind ?_
    refine wpAny_updateSeq ob2 rfl (wpAny_bind (wpAny_letGo (wpAny_pure ?_)))
    refine fin bv _ tz (by rw [← en]; exact pb) fun b o z => ?_
    have nb : b ≠ bo := fun q => by rw [q, fb] at z; cases z
    exact (Heap.get?_update_other _ _ (Ne.symm nb)).trans (kw kp kz b o z)
  | succ todo more =>
    intro at' sh bv cc e1 e2 sv pb ob kp fin
    have lt : at' + 1 < n := by omega
    refine codeAny_builtin PySem.F.entry_min_loop ?_
    rw [Around.under_plainId PySem.F.plain_min_loop _]
    show wpAny _ A.in1 (seqItems? (.ref bo) >>= _) _ _ sh
    refine wpAny_bind (wpAny_seqItems ob rfl ?_)
    show wpAny _ A.in1 (tryCatch (pyNext (.ref it)) _ >>= _) _ _ sh
    refine wpAny_bind (wpAny_tryCatch (Wk.item (at' + 1) sh _ _ lt sv fun v hz tz pv' sv' kz => ?_))
    have ob2 := kz bo _ nbw ob
    have kp2 : Kp h0 hz := kw kp kz
    show wpAny _ A.in1 (tryCatch (holding [v, v] (richCompare .Lt v bv >>= _)) _ >>= _) _ _ _
    refine wpAny_bind (wpAny_tryCatch (wpAny_holding (wpAny_bind (cmp (at' + 1) (argBest bt at') v bv _ _ _ pv' pb kp2 ?_))))
    refine wpAny_bind (wpAny_holding (wpAny_truthy_bool ?_))
    refine wpAny_bind (wpAny_letGo (wpAny_pure ?_))
    cases eb : bt (at' + 1) (argBest bt at') with
    | true =>
      simp only [if_true]
      refine wpAny_bind ?_
      refine wpAny_updateSeq ob2 rfl (wpAny_bind (wpAny_letGo ?_))
      rw [nm]
      refine wpAny_pure ⟨plainId_quiet PySem.F.plain_min_loop _, more (at' + 1) _ v _ (by omega) lt (Wk.frame _ _ _ sv' fun b hb o e => ?_) (by simp only [argBest, eb, if_true]; exact pv') (Heap.get?_update_self _ ob2 rfl) (fun b o z => ?_) fun rv hy ty p3 k3 => fin rv hy ty p3 k3⟩
      · exact (Heap.get?_update_other _ _ (fun z : bo = b => nbo (by rw [z]; exact hb))).trans e
      · have nb : b ≠ bo := fun q => by rw [q, fb] at z; cases z
        exact (Heap.get?_update_other _ _ (Ne.symm nb)).trans (kp2 b o z)
    | false =>
      simp only [Bool.false_eq_true, if_false]
      refine wpAny_bind (wpAny_letGo ?_)
      rw [nm]
      exact wpAny_pure ⟨plainId_quiet PySem.F.plain_min_loop _, more (at' + 1) _ bv cc (by omega) lt sv' (by simp only [argBest, eb, Bool.false_eq_true, if_false]; exact pb) ob2 kp2 fun rv hy ty p3 k3 => fin rv hy ty p3 k3⟩
theorem minH_start (Wk : Walks prog w A.in1 it fp wr n Pv Sv) (bt : Nat → Nat → Bool) (cmp : CmpH prog w A.in1 h0 n Pv bt) (bo : Addr) (nbo : bo ∉ fp) (fw : ∀ b ∈ wr, h0.get? b = none) (fb : h0.get? bo = none) (hn : 0 < n) {sh : Shared} {cc : Nat} (sv : Sv 0 sh.heap) (ob : sh.heap.get? bo = some (best0 cc)) (kp : Kp h0 sh.heap)
    (fin : ∀ rv hz tz, Pv (argBest bt (n - 1)) rv → Kp h0 hz → R (.ok (.ret rv)) { sh with heap := hz, toks := tz }) :
    codeAny (model prog w) A (.builtin "min.loop" ⟨[.ref it, .none, .ref bo], []⟩) R sh := by
  have nbw : bo ∉ wr := fun z => nbo (Wk.sub _ z)
  have nm : (toString "min" ++ toString ".loop" : String) = "min.loop" := by decide
  refine codeAny_builtin PySem.F.entry_min_loop ?_
  rw [Around.under_plainId PySem.F.plain_min_loop _]
  show wpAny _ A.in1 (seqItems? (.ref bo) >>= _) _ _ sh
  refine wpAny_bind (wpAny_seqItems ob rfl ?_)
  show wpAny _ A.in1 (tryCatch (pyNext (.ref it)) _ >>= _) _ _ sh
  refine wpAny_bind (wpAny_tryCatch (Wk.item 0 sh _ _ hn sv fun v hz tz pv' sv' kz => ?_))
  have ob2 := kz bo _ nbw ob
  show wpAny _ A.in1 (updateSeq bo (fun _ => #[v, v]) >>= _) _ _ _
  refine wpAny_bind ?_
  refine wpAny_updateSeq ob2 rfl ?_
  rw [nm]
  refine wpAny_pure ⟨plainId_quiet PySem.F.plain_min_loop _, minH_turns Wk bt cmp bo nbo fw fb _ 0 _ v _ rfl hn (Wk.frame _ _ _ sv' fun b hb o e => ?_) pv' (Heap.get?_update_self _ ob2 rfl) (fun b o z => ?_) fun rv hy ty p3 k3 => fin rv hy ty p3 k3⟩
  · exact (Heap.get?_update_other _ _ (fun z : bo = b => nbo (by rw [z]; exact hb))).trans e
  · have nb : b ≠ bo := fun q => by rw [q, fb] at z; cases z
    exact (Heap.get?_update_other _ _ (Ne.symm nb)).trans (kz b o (fun m => by rw [fw b m] at z; cases z) (kp b o z))
end
section
variable {prog : Program} {w : World} {A : Around} {E : Value → Shared → Prop} {s : Shared}
theorem args_minN (a : Value) : argsOk "min" ⟨[a], []⟩ := PySem.F.args_min1 a
theorem call_minH {x : Value} {Q : Value → Shared → Prop}
    (h : wpAny (model prog w) A.in1 (pyIter x) (fun itv s2 => ∃ it fp wr n Pv Sv bt, itv = .ref it ∧ Walks prog w A.in1 it fp wr n Pv Sv ∧ Sv 0 s2.heap ∧ (∀ b ∈ fp, b < s2.heap.objs.size) ∧ (∀ b ∈ wr, s.heap.get? b = none) ∧ Kp s.heap s2.heap ∧ s.heap.objs.size ≤ s2.heap.objs.size ∧ 0 < n ∧ CmpH prog w A.in1 s.heap n Pv bt ∧
      ∀ v hz tz, Pv (argBest bt (n - 1)) v → Kp s.heap hz → Q v { s2 with heap := hz, toks := tz }) E s) :
    wpAny (model prog w) A (call (.builtin "min") [x]) Q E s := by
  have nm : (toString "min" ++ toString ".loop" : String) = "min.loop" := by decide
  refine call_turns PySem.F.kind_min PySem.F.plain_min PySem.F.entry_min (args_minN _) ?_
  show wpAny _ A.in1 (Builtin.Builtins.bindParams "min" ["key", "default"] 0 ⟨[], ([] : List (Str × Value))⟩ >>= _) _ _ s
  refine wpAny_bind (wpAny_of_eq (show Builtin.Builtins.bindParams "min" ["key", "default"] 0 ⟨[], ([] : List (Str × Value))⟩ = pure [none, none] from rfl) ?_)
  refine wpAny_bind (wpAny_pure ?_)
  refine wpAny_bind (wpAny_mono h (fun itv s2 h2 => ?_) fun _ _ e => e)
  obtain ⟨it, fp, wr, n, Pv, Sv, bt, rfl, Wk, sv, ff, fw, kp, sz, hn, cmp, fin⟩ := h2
  refine wpAny_bind (wpAny_newObj_type ?_)
  have nbo : s2.heap.objs.size ∉ fp := fun z => Nat.lt_irrefl _ (ff _ z)
  have fb : s.heap.get? s2.heap.objs.size = none := by
    cases e : s.heap.get? s2.heap.objs.size with
    | none => rfl
    | some o => exact absurd (Heap.lt_size e) (Nat.not_lt.mpr sz)
  rw [nm]
  exact wpAny_pure ⟨plainId_quiet PySem.F.plain_min_loop _, minH_start Wk bt cmp s2.heap.objs.size nbo fw fb hn (Wk.frame _ _ _ sv fun b _ o e => Heap.get?_push_of_some _ e) (Heap.get?_push_size _ rfl) (fun b o z => Heap.get?_push_of_some _ (kp b o z)) fun v hz tz p1 k => fin v hz tz p1 k⟩
end
/-- an entry: its place, its number, its list's place, its list -/
abbrev Ent := Addr × Int × Addr × List Int
theorem argBest_pair (ts : List Ent) (bt : Nat → Nat → Bool) (hb : ∀ i j (a b : Ent), ts[i]? = some a → ts[j]? = some b → bt i j = pairLt a.2.1 b.2.1 a.2.2.2 b.2.2.2) : ∀ k, k < ts.length → argBest bt k ≤ k ∧ ∀ i, i ≤ k → ∀ a b : Ent, ts[argBest bt k]? = some a → ts[i]? = some b → a.2.1 ≤ b.2.1
  | 0, h => ⟨Nat.le_refl _, fun i hi a b h1 h2 => by
      have : i = 0 := by omega
      subst this
      rw [show argBest bt 0 = 0 from rfl] at h1
      rw [h1] at h2
      cases h2
      exact Int.le_refl _⟩
  | k + 1, h => by
    obtain ⟨i1, i2⟩ := argBest_pair ts bt hb k (by omega)
    have hk : ts[k + 1]? = some ts[k + 1] := List.getElem?_eq_getElem h
    have hl : argBest bt k < ts.length := by omega
    have hm : ts[argBest bt k]? = some ts[argBest bt k] := List.getElem?_eq_getElem hl
    have e := hb _ _ _ _ hk hm
    cases eb : bt (k + 1) (argBest bt k) with
    | true =>
      have ea : argBest bt (k + 1) = k + 1 := by simp only [argBest, eb, if_true]
      rw [eb] at e
      have le := pairLt_le e.symm
      refine ⟨by omega, fun i hi a b h1 h2 => ?_⟩
      rw [ea, hk] at h1
      cases h1
      by_cases hik : i = k + 1
      · subst hik
        rw [hk] at h2
        cases h2
        exact Int.le_refl _
      · have := i2 i (by omega) _ b hm h2
        omega
    | false =>
      have ea : argBest bt (k + 1) = argBest bt k := by simp only [argBest, eb, Bool.false_eq_true, if_false]
      rw [eb] at e
      have ge := pairLt_ge e.symm
      refine ⟨by omega, fun i hi a b h1 h2 => ?_⟩
      rw [ea] at h1
      by_cases hik : i = k + 1
      · subst hik
        rw [hk] at h2
        cases h2
        rw [hm] at h1
        cases h1
        exact ge
      · exact i2 i (by omega) a b h1 h2
section
variable {X : Cx}
def rMinP (K : PySem.W.Frag) : List V → Hp → VK → Prop := fun xs H Q => ∃ (p : Addr) (ts : List Ent) (len : Nat), xs = [.ref p] ∧ SqL K H p (ts.map fun t => V.ref t.1) ∧ ts ≠ [] ∧ (∀ t ∈ ts, H t.1 = some (.tup [.int t.2.1, .ref t.2.2.1]) ∧ H t.2.2.1 = some (.lst (t.2.2.2.map V.int)) ∧ t.2.2.2.length = len) ∧
  ∀ t ∈ ts, (∀ u ∈ ts, t.2.1 ≤ u.2.1) → Q (.ref t.1) H
theorem call_minP (hc : X.calm = true) (hu : X.A.units + 64 < cLine) : CallR X (.builtin "min") (rMinP X.K) := by
  intro pins s σ H xs us Q I r h
  obtain ⟨p, ts, len, rfl, hq, hne, hts, q⟩ := h
  obtain ⟨u, rfl, ru⟩ := vals1 r
  cases ru
  obtain ⟨its, r', pl, hz⟩ := I.list hq
  obtain ⟨ol, hol, hol'⟩ := pl.isList
  have hlt : p < s.heap.objs.size := Heap.lt_size hol
  have hlen : its.length = ts.length := by rw [← r'.length, List.length_map]
  have hpos : 0 < ts.length := List.length_pos_iff.mpr hne
  -- what stands at an entry
  have ent : ∀ i (t : Ent), ts[i]? = some t → its[i]? = some (Value.ref t.1) := fun i t e => by
    obtain ⟨v, e1, e2⟩ := r'.get (show (ts.map fun t => V.ref t.1)[i]? = some (.ref t.1) by rw [List.getElem?_map, e]; rfl)
    cases e2
    exact e1
  let bt : Nat → Nat → Bool := fun i j => match ts[i]?, ts[j]? with
    | some a, some b => pairLt a.2.1 b.2.1 a.2.2.2 b.2.2.2
    | _, _ => false
  have hbt : ∀ i j (a b : Ent), ts[i]? = some a → ts[j]? = some b → bt i j = pairLt a.2.1 b.2.1 a.2.2.2 b.2.2.2 := fun i j a b e1 e2 => by
    show (match ts[i]?, ts[j]? with
      | some a, some b => pairLt a.2.1 b.2.1 a.2.2.2 b.2.2.2
      | _, _ => false) = _
    rw [e1, e2]
  have at' : ∀ (i : Nat) (v : Value), its.toArray[i]? = some v → ∃ t : Ent, ts[i]? = some t ∧ v = Value.ref t.1 := fun i v e => by
    have e' : its[i]? = some v := by simpa using e
    have hi : i < ts.length := by
      have := (List.getElem?_eq_some_iff.mp e').1
      omega
    have et : ts[i]? = some ts[i] := List.getElem?_eq_getElem hi
    refine ⟨ts[i], et, ?_⟩
    rw [ent i _ et] at e'
    exact (Option.some.inj e').symm
  refine call_minH (wpAny_pyIter_list pl.isList ⟨s.heap.objs.size, _, _, _, _, _, bt, rfl, Walks.list (A := X.A.in1) (show X.A.in1.handled = none from I.ok.hd hc) s.heap.objs.size p (Nat.ne_of_lt hlt) its.toArray, ⟨⟨_, Heap.get?_push_size _ rfl, rfl, rfl⟩, ⟨ol, Heap.get?_push_of_some _ hol, hol'⟩⟩, ?_, ?_, fun b o e => Heap.get?_push_of_some _ e, by rw [Heap.size_push]; exact Nat.le_succ _, by simp; omega, ?_, fun v hz' tz hP k => ?_⟩)
  · intro b hb
    simp only [List.mem_cons, List.not_mem_nil, or_false] at hb
    rw [Heap.size_push]
    rcases hb with rfl | rfl
    · exact Nat.lt_succ_self _
    · exact Nat.lt_succ_of_lt hlt
  · intro b hb
    simp only [List.mem_cons, List.not_mem_nil, or_false] at hb
    subst hb
    cases e : s.heap.get? s.heap.objs.size with
    | none => rfl
    | some o => exact absurd (Heap.lt_size e) (Nat.lt_irrefl _)
  · intro i j vi vj sh Q' E' h1 h2 kp hQ
    obtain ⟨a, ea, rfl⟩ := at' i vi h1
    obtain ⟨b, eb, rfl⟩ := at' j vj h2
    have ha := hts a (List.mem_of_getElem? ea)
    have hb := hts b (List.mem_of_getElem? eb)
    obtain ⟨i1, v1, t1, _⟩ := I.tuple (SqT.of ha.1)
    obtain ⟨i2, v2, t2, _⟩ := I.tuple (SqT.of hb.1)
    obtain ⟨x1, y1, rfl, g1, g2⟩ := vals2 v1
    obtain ⟨x2, y2, rfl, g3, g4⟩ := vals2 v2
    obtain ⟨k1, rfl⟩ := g1
    obtain ⟨k2, rfl⟩ := g3
    cases g2
    cases g4
    obtain ⟨l1, w1, m1, _⟩ := I.list (SqL.of ha.2.1)
    obtain ⟨l2, w2, m2, _⟩ := I.list (SqL.of hb.2.1)
    rw [hbt i j a b ea eb] at hQ
    have kt : ∀ {x : Addr} {ys : Array Value}, IsTup s.heap x ys → IsTup sh.heap x ys := fun {x ys} z => by
      obtain ⟨o, e1, e2⟩ := z
      exact ⟨o, kp _ _ e1, e2⟩
    have kl : ∀ {x : Addr} {ys : Array Value}, s.heap.IsList x ys → sh.heap.IsList x ys := fun {x ys} z => by
      obtain ⟨o, e1, e2⟩ := z
      exact ⟨o, kp _ _ e1, e2⟩
    exact rc_pair (A := X.A.in1) (kt t1) (kt t2) (kl m1.isList) (kl m2.isList) w1 w2 (by rw [ha.2.2, hb.2.2]) (by show X.A.units + 1 + 1 < cLine; omega) hQ
  · have esz : its.toArray.size = ts.length := by rw [List.size_toArray, hlen]
    rw [esz] at hP
    obtain ⟨t, et, rfl⟩ := at' _ v hP
    have hb := argBest_pair ts bt hbt (ts.length - 1) (by omega)
    refine ⟨.ref t.1, H, I.kept (t' := tz) k, rfl, q t (List.mem_of_getElem? et) fun u hu' => ?_⟩
    obtain ⟨i, hi, e⟩ := List.mem_iff_getElem.mp hu'
    exact hb.2 i (by omega) t u et (by rw [← e]; exact List.getElem?_eq_getElem hi)
end
end L2

set_option Elab.async false
set_option linter.all false
set_option maxRecDepth 100000
namespace L2
open PySem
/-- two pairs of ints -/
def rEqP (K : PySem.W.Frag) (A : Around) : R2 := fun x y H Q => ∃ (a b : Addr) (i j k l : Int), x = .ref a ∧ y = .ref b ∧ SqT K H a [.int i, .int j] ∧ SqT K H b [.int k, .int l] ∧ A.units + 1 < cLine ∧ Q (.bl (i == k && j == l)) H
end L2

set_option Elab.async false
set_option linter.all false
set_option maxRecDepth 100000
set_option maxHeartbeats 4000000
namespace L2
open PySem PySem.Spec PyProof.Rows
/-! ### a block that makes cells of its own (a name that a block within it reads) -/
theorem cf_app : ∀ (names : List (Str × NameKind)) (n : Nat) (acc : List (Str × Addr)), cellsFrom n names acc = cellsFrom n names [] ++ acc
  | [], _, _ => rfl
  | (name, kind) :: r, n, acc => by
    unfold cellsFrom
    split
    · rw [cf_app r (n + 1) ((name, n) :: acc), cf_app r (n + 1) [(name, n)], List.append_assoc]
      rfl
    · exact cf_app r n acc
theorem cf_mem : ∀ (names : List (Str × NameKind)) (n : Nat) {x : Str} {c : Addr}, (x, c) ∈ cellsFrom n names [] → (x, NameKind.cell) ∈ names
  | [], _, _, _, h => by cases h
  | (name, kind) :: r, n, x, c, h => by
    unfold cellsFrom at h
    split at h
    · rename_i hk
      rw [cf_app] at h
      rcases List.mem_append.mp h with z | z
      · exact List.mem_cons_of_mem _ (cf_mem r (n + 1) z)
      · have e := List.mem_singleton.mp z
        injection e with e1 e2
        subst e1
        have hk : kind = .cell := by simpa using hk
        subst hk
        exact List.mem_cons_self
    · exact List.mem_cons_of_mem _ (cf_mem r n h)
theorem cf_has : ∀ (names : List (Str × NameKind)) (n : Nat) {x : Str}, (x, NameKind.cell) ∈ names → ∃ c, (x, c) ∈ cellsFrom n names []
  | [], _, _, h => by cases h
  | (name, kind) :: r, n, x, h => by
    unfold cellsFrom
    rcases List.mem_cons.mp h with e | e
    · injection e with e1 e2
      subst e1 e2
      rw [if_pos (by decide), cf_app]
      exact ⟨n, List.mem_append_right _ List.mem_cons_self⟩
    · split
      · obtain ⟨c, hc⟩ := cf_has r (n + 1) e
        rw [cf_app]
        exact ⟨c, List.mem_append_left _ hc⟩
      · exact cf_has r n e
theorem lookup_some_of_mem {x : Str} {c : Addr} : ∀ {l : List (Str × Addr)}, (x, c) ∈ l → ∃ d, l.lookup x = some d
  | [], h => by cases h
  | (n, d) :: r, h => by
    rw [List.lookup_cons]
    cases e : x == n with
    | true => exact ⟨d, rfl⟩
    | false =>
      rcases List.mem_cons.mp h with q | q
      · injection q with q1 q2
        subst q1
        simp at e
      · exact lookup_some_of_mem q
theorem newEnv_cells {M : Model} {A : Around} {E : Value → Shared → Prop} {s : Shared} {scope : Scope} {globals : Addr} {closure : List (Str × Addr)} {qual : Str} {func : Option Addr} {code : Value} {outer : Env} {builtins : Addr} {Q : Env → Shared → Prop}
    (hQ : Q (newEnv scope s.heap.objs.size globals (cellsFrom (s.heap.objs.size + 1) scope.names closure) qual func code (some outer) builtins) { s with heap := pushCells (s.heap.push { cls := .type "dict", data := .dict #[] }) scope.names }) :
    wpAny M A (newFunctionEnv scope globals closure [] qual func code (some outer) builtins) Q E s := by
  simp only [newFunctionEnv, Option.isSome_some, if_true]
  refine wpAny_bind (wpAny_alloc ?_)
  refine wpAny_bind (wpAny_layCells _ (fun name kind cells => by cases hkc : kind == NameKind.cell <;> simp [hkc]) _ _ _ _ ?_)
  rw [show ({ s with heap := s.heap.push { cls := .type "dict", data := .dict #[] } } : Shared).heap.objs.size = s.heap.objs.size + 1 from Heap.size_push ..]
  rw [List.forIn_nil]
  exact wpAny_bind (wpAny_pure (wpAny_pure hQ))
def Cx.blockC (X : Cx) (N : List Str) (scope : Scope) (C : Addr) (s : Shared) (H : Hp) (ex : List Addr) : Cx :=
  { X with N := N, s₀ := s, H₀ := H, env := compEnvC scope (cellsFrom (C + 1) scope.names (closF X.env.cells scope.names [])) C X.env, outer := X.stack, ex := ex, fn := fun y => decide (scope.names.lookup y = some .cell), pn := [], xe := fun _ _ => False }
structure BlockOkC (NO : List Str) (scO : Scope) (N : List Str) (sc : Scope) (cap : List (Option Nat)) : Prop where
  kind : sc.kind = .function
  one : ∀ y ∈ sc.names, sc.names.lookup y.1 = some y.2
  free : ∀ y ∈ sc.names, y.2 = .free → scO.names.lookup y.1 = some .cell ∨ scO.names.lookup y.1 = some .free
  len : cap.length = N.length
  cap : (cap.zip N).all (fun p => match p.1 with | Option.none => true | some i => decide (NO[i]? = some p.2) && decide (sc.names.lookup p.2 = some .free)) = true
def blockOkC (NO : List Str) (scO : Scope) (N : List Str) (sc : Scope) (cap : List (Option Nat)) : Bool :=
  decide (sc.kind = .function) && sc.names.all (fun y => decide (sc.names.lookup y.1 = some y.2)) &&
  sc.names.all (fun y => !decide (y.2 = .free) || (decide (scO.names.lookup y.1 = some .cell) || decide (scO.names.lookup y.1 = some .free))) && decide (cap.length = N.length) &&
  (cap.zip N).all (fun p => match p.1 with | Option.none => true | some i => decide (NO[i]? = some p.2) && decide (sc.names.lookup p.2 = some .free))
theorem BlockOkC.of {NO : List Str} {scO : Scope} {N : List Str} {sc : Scope} {cap : List (Option Nat)} (h : blockOkC NO scO N sc cap = true) : BlockOkC NO scO N sc cap := by
  unfold blockOkC at h
  simp only [Bool.and_eq_true] at h
  obtain ⟨⟨⟨⟨h1, h3⟩, h4⟩, h5⟩, h6⟩ := h
  refine ⟨of_decide_eq_true h1, fun y hy => of_decide_eq_true (List.all_eq_true.mp h3 y hy), fun y hy hk => ?_, of_decide_eq_true h5, h6⟩
  have := List.all_eq_true.mp h4 y hy
  rw [decide_eq_true hk] at this
  simpa using this
section
variable {X : Cx} {pins : List (Addr × Obj)} {σ : St} {H : Hp} {s : Shared} {N : List Str} {sc : Scope} {cap : List (Option Nat)}
theorem BlockOkC.loc (B : BlockOkC X.N X.env.scope N sc cap) : ∀ y ∈ sc.names, y.2 = .local → sc.names.lookup y.1 = some .local := fun y hy e => e ▸ B.one y hy
theorem BlockOkC.cells (B : BlockOkC X.N X.env.scope N sc cap) (ok : X.Ok) : ∀ x ∈ sc.names, x.2 = .free → ∃ c, X.env.cells.lookup x.1 = some c := fun x hx hk => ok.has x.1 (B.free x hx hk)
theorem BlockOkC.back (B : BlockOkC X.N X.env.scope N sc cap) (ok : X.Ok) {n : Nat} {x : Str} {c : Addr} (h : (cellsFrom n sc.names (closF X.env.cells sc.names [])).lookup x = some c) : (x, c) ∈ cellsFrom n sc.names [] ∨ X.env.cells.lookup x = some c := by
  rw [cf_app] at h
  rcases List.mem_append.mp (PySem.mem_of_lookup h) with z | z
  · exact .inl z
  · exact .inr ((closF_mem (B.cells ok) z).elim (fun z => by cases z) id)
theorem BlockOkC.on (B : BlockOkC X.N X.env.scope N sc cap) (ok : X.Ok) {n : Nat} {x : Str} {c : Addr} (hx : (x, NameKind.free) ∈ sc.names) (h : X.env.cells.lookup x = some c) : (cellsFrom n sc.names (closF X.env.cells sc.names [])).lookup x = some c := by
  refine lookup_of_mem (by rw [cf_app]; exact List.mem_append_right _ (closF_has h hx)) fun d hd => ?_
  rw [cf_app] at hd
  rcases List.mem_append.mp hd with z | z
  · have e1 := B.one _ (cf_mem _ _ z)
    have e2 := B.one _ hx
    rw [e1] at e2
    cases e2
  · have := (closF_mem (B.cells ok) z).elim (fun z => by cases z) id
    rw [h] at this
    exact (Option.some.inj this).symm
theorem BlockOkC.own (B : BlockOkC X.N X.env.scope N sc cap) (ok : X.Ok) {n : Nat} {x : Str} {c : Addr} (hx : sc.names.lookup x = some .cell) (h : (cellsFrom n sc.names (closF X.env.cells sc.names [])).lookup x = some c) : (x, c) ∈ cellsFrom n sc.names [] := by
  obtain ⟨d, hd⟩ := cf_has sc.names n (PySem.mem_of_lookup hx)
  obtain ⟨d', hd'⟩ := lookup_some_of_mem hd
  rw [cf_app, List.lookup_append, hd'] at h
  have e : d' = c := Option.some.inj h
  rw [← e]
  exact PySem.mem_of_lookup hd'
theorem block_startC {fp : List Addr} {h₁ : Heap} {t' : Nat} {D C : Addr} (I : Inv X pins σ H s) (B : BlockOkC X.N X.env.scope N sc cap) (hf : ∀ b ∈ fp, FpOk X pins H b ∧ b < s.heap.objs.size)
    (hD : D = s.heap.objs.size) (hC : C = s.heap.objs.size + 1) (k : ∀ b o, s.heap.get? b = some o → h₁.get? b = some o)
    (hl : h₁.get? D = some { cls := .type "list", data := .seq ([] : List Value).toArray }) (hn : ∃ m, h₁.Ns C m) (new : CellsOk h₁ (C + 1) (cellsFrom (C + 1) sc.names [])) :
    Inv (X.blockC N sc C s H fp) [] (capSt cap σ) (upd H D (.lst [])) { s with heap := h₁, toks := t' } := by
  subst hD
  have hfr : H s.heap.objs.size = none := I.hok.fresh (Nat.le_refl _)
  have hfC : H C = none := I.hok.fresh (by rw [hC]; exact Nat.le_succ _)
  have neD : ∀ b o, s.heap.get? b = some o → b ≠ s.heap.objs.size := fun b o e => Nat.ne_of_lt (Heap.lt_size e)
  have cellA : ∀ x c, (cellsFrom (C + 1) sc.names (closF X.env.cells sc.names [])).lookup x = some c → (x, c) ∈ cellsFrom (C + 1) sc.names [] ∨ X.env.cells.lookup x = some c := fun x c e => B.back I.ok e
  have hi : ∀ x c, (x, c) ∈ cellsFrom (C + 1) sc.names [] → s.heap.objs.size + 2 ≤ c := fun x c e => by
    have := (new.empty x c e).2
    have hC' : @Eq Nat C (s.heap.objs.size + 1) := hC
    omega
  have lo : ∀ x c, X.env.cells.lookup x = some c → c < s.heap.objs.size := fun x c e => by
    obtain ⟨v, o, ho, _⟩ := I.cell x c e
    exact Heap.lt_size ho
  refine ⟨⟨I.ok.mod, B.kind, I.ok.glob, I.ok.blt, ?_, ?_, ?_, ?_, I.ok.hd, I.ok.frames, .inl rfl, ?_, I.bs, Nat.le_trans I.ok.bsz I.sz, ?_, ?_, I.stack, I.stkFree⟩, rfl, I.bare, Un.laid k (Nat.le_refl _) hfr, ?_, ?_, ?_, ?_, ?_, ?_, ?_⟩
  · show s.heap.objs.size ≤ C
    rw [hC]; exact Nat.le_succ _
  · intro x y c h1 h2
    rcases cellA x c h1 with z1 | z1 <;> rcases cellA y c h2 with z2 | z2
    · exact name_of_addr new.apart z1 z2
    · exact absurd (Nat.lt_of_le_of_lt (hi x c z1) (lo y c z2)) (Nat.not_lt.mpr (Nat.le_add_right _ _))
    · exact absurd (Nat.lt_of_le_of_lt (hi y c z2) (lo x c z1)) (Nat.not_lt.mpr (Nat.le_add_right _ _))
    · exact I.ok.inj x y c z1 z2
  · intro x hx
    have hx' : (relabel sc X.env).names.lookup x = some .cell ∨ (relabel sc X.env).names.lookup x = some .free := hx
    have hm : (x, NameKind.free) ∈ sc.names ∨ (x, NameKind.cell) ∈ sc.names := by
      rcases hx' with q | q
      · obtain ⟨k, hk, e | ⟨e, _⟩⟩ := mem_relabel q
        · subst e; exact .inr hk
        · subst e; exact .inl hk
      · obtain ⟨k, hk, e | ⟨e, _⟩⟩ := mem_relabel q
        · subst e; exact .inl hk
        · subst e; exact .inl hk
    rcases hm with hm | hm
    · obtain ⟨c, hc⟩ := B.cells I.ok _ hm rfl
      exact ⟨c, B.on I.ok hm hc⟩
    · obtain ⟨d, hd⟩ := cf_has sc.names (C + 1) hm
      exact lookup_some_of_mem (c := d) (show (x, d) ∈ cellsFrom (C + 1) sc.names (closF X.env.cells sc.names []) by rw [cf_app]; exact List.mem_append_left _ hd)
  · intro x c h e
    have h' : sc.names.lookup x = some .cell := of_decide_eq_true h
    have := hi x c (B.own I.ok h' e)
    show s.heap.objs.size ≤ c
    omega
  · intro b hb
    have f := hf b hb
    refine ⟨?_, fun x c e => ?_⟩
    · show b ≠ C
      rw [hC]; exact Nat.ne_of_lt (Nat.lt_succ_of_lt f.2)
    · rcases cellA x c e with z | z
      · exact Nat.ne_of_gt (Nat.lt_of_lt_of_le f.2 (Nat.le_trans (Nat.le_add_right _ 2) (hi x c z)))
      · exact f.1.2.2.2.2.1 x c z
  · intro b o e hb
    have f := (hf b hb).1
    rcases f.2.2.2.1 with z | z
    · exact I.ok.noex b o e z
    · exact absurd (Nat.lt_of_lt_of_le (Heap.lt_size e) (Nat.le_trans I.ok.bsz z)) (Nat.lt_irrefl _)
  · intro b hb z
    have f := (hf b hb).1
    rcases List.mem_cons.mp (I.stkSub b z) with e | e
    · exact f.2.1 e
    · exact f.2.2.1 e
  · obtain ⟨m, hm⟩ := hn
    refine ⟨m, hm, fun j x v e1 e2 e3 => ?_⟩
    have e1 : N[j]? = some x := e1
    have e3 : Vis (relabel sc X.env) x := e3
    unfold capSt at e2
    rw [List.getElem?_map] at e2
    cases hc : cap[j]? with
    | none => rw [hc] at e2; cases e2
    | some o =>
      rw [hc] at e2
      cases o with
      | none => cases e2
      | some i =>
        have e2 : (σ[i]?).bind id = some v := Option.some.inj e2
        have hv : σ[i]? = some (some v) := by
          cases q : σ[i]? with
          | none => rw [q] at e2; cases e2
          | some w' => rw [q] at e2; exact congrArg some e2
        have hz : (some i, x) ∈ cap.zip N := by
          refine List.mem_of_getElem? (i := j) ?_
          rw [List.getElem?_zip_eq_some]
          exact ⟨hc, e1⟩
        have hcap := List.all_eq_true.mp B.cap _ hz
        simp only [Bool.and_eq_true, decide_eq_true_eq] at hcap
        obtain ⟨hN, hlk⟩ := hcap
        have hmem := PySem.mem_of_lookup hlk
        have hkO := B.free _ hmem rfl
        obtain ⟨m0, hn0, hl0⟩ := I.loc
        obtain ⟨u, ru, lk⟩ := hl0 i x v hN hv (.inr hkO)
        refine ⟨u, ru, .inr ⟨?_, ?_⟩⟩
        · show (relabel sc X.env).names.lookup x = some .cell ∨ (relabel sc X.env).names.lookup x = some .free
          rcases e3 with q | q
          · obtain ⟨k', hk', e | ⟨_, e⟩⟩ := mem_relabel q
            · subst e
              have := B.loc _ hk' rfl
              rw [hlk] at this
              cases this
            · cases e
          · exact q
        · rcases lk with ⟨q, _⟩ | ⟨_, c, hcc, ⟨oc, hoc, hod⟩⟩
          · have q' : X.env.scope.names.lookup x = some .local := q
            rcases hkO with z | z <;> (rw [q'] at z; cases z)
          · exact ⟨c, B.on I.ok hmem hcc, oc, k _ _ hoc, hod⟩
  · intro x c e
    rcases cellA x c e with z | z
    · exact ⟨none, (new.empty x c z).1⟩
    · obtain ⟨v, o, ho, hd⟩ := I.cell x c z
      exact ⟨v, o, k _ _ ho, hd⟩
  · show upd H s.heap.objs.size (.lst []) C = none
    rw [upd_ne (by rw [hC]; exact Nat.succ_ne_self _)]
    exact hfC
  · intro x c e
    rcases cellA x c e with z | z
    · have h2 := hi x c z
      rw [upd_ne (Nat.ne_of_gt (Nat.lt_of_lt_of_le (Nat.lt_add_of_pos_right (by decide)) h2))]
      exact I.hok.fresh (Nat.le_trans (Nat.le_add_right _ 2) h2)
    · obtain ⟨v, o, ho, hd⟩ := I.cell x c z
      rw [upd_ne (neD c o ho)]
      exact I.freeC x c z
  · intro p hp
    exact absurd (show p ∈ ([] : List (Addr × Obj)) ++ [] from hp) (by simp)
  · exact I.hok.laid k (Nat.le_refl _) ⟨Nat.zero_le _, [], 0, .nil, hl⟩
  · show (capSt cap σ).length = N.length
    unfold capSt
    rw [List.length_map]
    exact B.len
end
section
variable {X : Cx} {pins : List (Addr × Obj)} {σ : St} {s : Shared} {N : List Str} {sc : Scope} {cap : List (Option Nat)} {elt tg iter : Expr} {ifs : List Expr} {pos : Pos} {wi : TI} {g : TG} {tc : TT} {te : TE}
theorem comp_blockC {J : It} {H : Hp} {it : Addr} {fp : List Addr} {tn : Nat → Heap → Prop} {Q : VK} {RR : Value → Addr → Result → Shared → Prop} (hc : X.calm = true) (B : BlockOkC X.N X.env.scope N sc cap)
    (hg : ∀ C s H ex, PG (X.blockC N sc C s H ex) tg g) (ht : ∀ C s H ex, PTs (X.blockC N sc C s H ex) ifs tc) (he : ∀ C s H ex, PE (X.blockC N sc C s H ex) elt te)
    (I : Inv X pins σ H s) (T : Turn X.prog X.w X.K tg J fp it tn) (h0 : tn 0 s.heap) (hf : ∀ b ∈ fp, FpOk X pins H b)
    (h : ∀ D, H D = none → CompW J g tc te (capSt cap σ) H Q D)
    (hRR : ∀ D C s', CompEnd X pins σ Q D C s' → RR (.ref D) C (.ok .next) s') :
    wpAny (model X.prog X.w) X.A (newList []) (fun acc s₃ => wpAny (model X.prog X.w) X.A (newFunctionEnv sc X.env.globals (closF X.env.cells sc.names []) [] X.env.qual none .none (some X.env)) (fun cenv s₄ =>
      codeAny (model X.prog X.w) X.A (.compStart (.ListComp elt [⟨tg, iter, ifs, 0⟩] sc pos) 0 (.ref it) acc { cenv with scope := relabel sc X.env }) (RR acc cenv.locals) s₄) X.xe s₃) X.xe s := by
  refine wpAny_newObj_type (newEnv_cells ?_)
  dsimp only
  generalize hH2 : s.heap.push { cls := .type "list", dict := none, data := .seq ([] : List Value).toArray } = H2
  have hC : H2.objs.size = s.heap.objs.size + 1 := by rw [← hH2, Heap.size_push]
  have hDC : s.heap.objs.size ≠ H2.objs.size := by rw [hC]; exact Nat.ne_of_lt (Nat.lt_succ_self _)
  have nsn : ∃ m, (pushCells (H2.push { cls := .type "dict", data := .dict #[] }) sc.names).Ns H2.objs.size m := ⟨_, (Heap.Ns.new H2 (.type "dict")).keeps (pushCells_keeps _ _)⟩
  have new := cellsFrom_ok sc.names (H2.push { cls := .type "dict", data := .dict #[] }) (H2.objs.size + 1) [] ⟨fun _ _ hm => (nomatch hm), List.Pairwise.nil⟩ (by rw [Heap.size_push]; exact Nat.le_refl _)
  rw [Heap.size_push] at new
  have lo2 : ∀ b o, H2.get? b = some o → (pushCells (H2.push { cls := .type "dict", data := .dict #[] }) sc.names).get? b = some o := fun b o e => pushCells_keeps _ _ b o (Heap.get?_push_of_some _ e)
  generalize pushCells (H2.push { cls := .type "dict", data := .dict #[] }) sc.names = h₁ at nsn new lo2 ⊢
  have lo : ∀ b o, s.heap.get? b = some o → h₁.get? b = some o := fun b o e => lo2 b o (hH2 ▸ Heap.get?_push_of_some _ e)
  have hacc : h₁.get? s.heap.objs.size = some { cls := .type "list", data := .seq ([] : List Value).toArray } := lo2 _ _ (hH2 ▸ Heap.get?_push_size _ rfl)
  have hfs : ∀ b ∈ fp, FpOk X pins H b ∧ b < s.heap.objs.size := fun b hb => by
    obtain ⟨o, e, _⟩ := T.obj 0 _ h0 b hb
    exact ⟨hf b hb, Heap.lt_size e⟩
  obtain ⟨W, ⟨m0, w0⟩, turn⟩ := h s.heap.objs.size (I.hok.fresh (Nat.le_refl _))
  generalize hCg : H2.objs.size = C at nsn new hC hDC ⊢
  have I0 := block_startC (t' := s.toks) I B hfs rfl hC lo hacc nsn new
  have h01 : tn 0 h₁ := T.keep 0 _ _ h0 fun b _ o e => lo b o e
  have cne : ∀ b ∈ fp, ∀ x c, (cellsFrom (C + 1) sc.names (closF X.env.cells sc.names [])).lookup x = some c → c ≠ b := fun b hb x c e => (I0.ok.exf b hb).2 x c e
  -- the iterator's objects within the block
  have stat : ∀ {H' : Hp}, (∀ b ∈ fp, H' b = none) → ∀ b ∈ fp, FpOk (X.blockC N sc C s H fp) [] H' b := fun {H'} hn b hb => by
    obtain ⟨f, lt⟩ := hfs b hb
    refine ⟨hn b hb, ?_, fun z => ?_, .inl hb, fun x c e => cne b hb x c e, fun p hp => absurd (show p ∈ ([] : List (Addr × Obj)) ++ [] from hp) (by simp)⟩
    · show b ≠ C
      rw [hC]; exact Nat.ne_of_lt (Nat.lt_succ_of_lt lt)
    · rcases List.mem_cons.mp (I.stkSub b z) with e | e
      · exact f.2.1 e
      · exact f.2.2.1 e
  have fin : ∀ {τ : St} {H' : Hp} {s' : Shared}, Inv (X.blockC N sc C s H fp) [] τ H' s' → Q (.ref s.heap.objs.size) H' → CompEnd X pins σ Q s.heap.objs.size C s' := fun {τ H' s'} J' q => by
    have hch : ∀ b ∈ fp, (b ∈ X.ex ∨ X.s₀.heap.objs.size ≤ b) ∧ b ≠ X.env.locals ∧ (∀ x c, X.env.cells.lookup x = some c → c ≠ b) ∧ ∀ p ∈ X.pn ++ pins, p.1 ≠ b := fun b hb =>
      let f := hf b hb; ⟨f.2.2.2.1, f.2.1, f.2.2.2.2.1, f.2.2.2.2.2⟩
    refine ⟨H', I.call' (ch := fp) J'.os J'.base J'.hok J'.bare hch, I.fpOk (by rw [hC]; exact Nat.le_succ _) J'.free, ?_, q⟩
    obtain ⟨m, hn, _⟩ := J'.loc
    exact ⟨m, hn⟩
  have loop : ∀ s₃ : Shared, s₃ = { s with heap := h₁, toks := s.toks } →
      codeAny (model X.prog X.w) X.A (.compLoop (.ListComp elt [⟨tg, iter, ifs, 0⟩] sc pos) 0 (.ref it) (.ref s.heap.objs.size) (X.blockC N sc C s H fp).env) (RR (.ref s.heap.objs.size) C) s₃ := by
    rintro s₃ rfl
    refine compLoop_any (fun n s' => ∃ i ys τ H', Inv (X.blockC N sc C s H fp) [] τ H' s' ∧ tn i s'.heap ∧ (∀ b ∈ fp, H' b = none) ∧ W i n ys τ H') ?_ m0 ⟨0, [], _, _, I0, h01, fun b hb => ?_, w0⟩
    · rintro n s3 ⟨i, ys, τ, H3, I3, st3, fr3, w3⟩
      obtain ⟨hD3, stop | ⟨go, hlt, M, hM, step⟩⟩ := turn i n ys τ H3 w3
      · refine thn (T.done (X.blockC N sc C s H fp) rfl rfl rfl hc i [] s3 τ H3 _ I3 (stat fr3) st3 stop.1) fun r s4 ⟨hr, I4⟩ => ?_
        subst hr
        exact hRR _ _ _ (fin I4 stop.2)
      · refine thn (T.item (X.blockC N sc C s H fp) rfl rfl rfl hc i [] s3 τ H3 _ I3 (stat fr3) st3 go) fun r s4 ⟨u, hr, h4⟩ => ?_
        subst hr
        refine thn h4 fun _ s5 ⟨x, H5, I5, r5, y5, st5, fr5⟩ => ?_
        have I5' := I5.pinned (stat fr5) (T.obj _ _ st5)
        refine wpAny_mono (hg C s H fp _ s5 τ H5 x u _ I5' r5 (step x H5 y5)) (fun _ s6 ⟨τ6, H6, I6, q6⟩ => ?_) (fun _ _ z => False.elim z)
        refine wpAny_mono (ht C s H fp _ s6 τ6 H6 _ I6 q6) (fun ok s7 ⟨H7, I7, q7⟩ => ?_) (fun _ _ z => False.elim z)
        have again : ∀ {τ8 : St} {H8 : Hp} {s8 : Shared} {zs : List V}, Inv (X.blockC N sc C s H fp) ([] ++ pinsAt fp s5.heap) τ8 H8 s8 → M zs τ8 H8 →
            ∃ m, m < n ∧ ∃ i ys τ H', Inv (X.blockC N sc C s H fp) [] τ H' s8 ∧ tn i s8.heap ∧ (∀ b ∈ fp, H' b = none) ∧ W i m ys τ H' := fun {τ8 H8 s8 zs} I8 w8' => by
          obtain ⟨m', hm, w8⟩ := hM zs τ8 H8 w8'
          refine ⟨m', hm, i + 1, zs, τ8, H8, I8.unpinned, T.keep _ _ _ st5 fun b hb o e => (I8.pin (b, o) (List.mem_append_right _ (List.mem_append_right _ (mem_pinsAt hb e)))).1, fun b hb => ?_, w8⟩
          obtain ⟨o, e, d⟩ := T.obj _ _ st5 b hb
          exact (I8.pin (b, o) (List.mem_append_right _ (List.mem_append_right _ (mem_pinsAt hb e)))).2.1
        cases ok with
        | false => exact again I7 q7
        | true =>
          refine wpAny_mono (he C s H fp _ s7 τ6 H7 _ I7 q7) (fun v s8 ⟨y, H8, I8, r8, hD8, q8⟩ => ?_) (fun _ _ z => False.elim z)
          refine wpAny_mono (mt_append (X := X.blockC N sc C s H fp) _ s8 τ6 H8 (.ref s.heap.objs.size) [y] (.ref s.heap.objs.size) [v] (fun _ H9 => M (ys ++ [y]) τ6 H9) I8 rfl (.cons r8 .nil) ⟨_, ys, y, rfl, rfl, hD8, hlt, q8⟩) (fun _ s9 ⟨_, H9, I9, _, q9⟩ => again I9 q9) (fun _ _ z => False.elim z)
    · have hne : b ≠ s.heap.objs.size := Nat.ne_of_lt (hfs b hb).2
      rw [upd_ne hne]
      exact (hf b hb).1
  exact codeAny_compStart_list (loop _ rfl) (T.self X.A 0 _ _ _ h01 (loop _ rfl))

/-- name = comprehension, where the store comes ahead of the block's leaving -/
theorem ps_setCC {i : Nat} {y : Str} {py spos : Pos} (hN : X.N.Nodup) (hiN : X.N[i]? = some y) (hx : Loc X.env.scope y) (hc : X.calm = true) (B : BlockOkC X.N X.env.scope N sc cap) (hi : PI X tg iter wi)
    (hg : ∀ C s H ex, PG (X.blockC N sc C s H ex) tg g) (ht : ∀ C s H ex, PTs (X.blockC N sc C s H ex) ifs tc) (he : ∀ C s H ex, PE (X.blockC N sc C s H ex) elt te)
    (hsw : swapsWith (.ListComp elt [⟨tg, iter, ifs, 0⟩] sc pos) (some (.Name y py)) spos.line X.env = pure true := by rfl)
    (hs : ∀ x, foldedSetIterable iter X.env x = pure x := by intro _; rfl) (hfn : X.fn y = true ∨ X.env.scope.names.lookup y = some .local := by first | exact .inl rfl | exact .inr rfl | assumption) :
    PS X (.Assign [.Name y py] (.ListComp elt [⟨tg, iter, ifs, 0⟩] sc pos) spos) (tAsg (tComp wi g tc te (capSt cap)) (gName i)) := by
  intro pins s σ H Dn I h
  rw [exec_Assign_Name_used _ _ _ _ hsw]
  refine wpAny_bind (wpAny_standAt (wpAny_bind ?_))
  show wpAny _ X.A (do let _ ← comprehension (.ListComp elt [⟨tg, iter, ifs, 0⟩] sc pos) sc X.env _ (newList []) false (eval iter X.env) (some (assign (.Name y py) X.env))) _ _ s
  refine wpAny_bind (wpAny_mono (wpAny_comprehension_free (use := some (assign (.Name y py) X.env)) (Q := fun _ s' => SP X pins Dn .next s') rfl hs (closureFor_eq (B.cells I.ok)) B.kind B.loc
    (thn (hi pins s σ H _ I h) fun xv s₁ h₁ => thn h₁ fun itv s₂ h₂ => ?_)) (fun _ s' hq => wpAny_pure (wpAny_pure hq)) fun _ _ e => e)
  obtain ⟨it, fp, tn, J, H2, e, I2, T, st2, f2, h2⟩ := h₂
  subst e
  refine comp_blockC (Q := fun x H1 => gName i x σ H1 Dn.nx) (RR := fun acc C => compPost (model X.prog X.w) X.A X.xe (some (assign (.Name y py) X.env)) (fun _ s' => SP X pins Dn .next s') acc C) hc B hg ht he I2 T st2 f2 h2 fun D C s' q => ?_
  obtain ⟨H', I', fC, ⟨m, hn⟩, q⟩ := q.ex
  show wpAny _ X.A (assign (.Name y py) X.env (.ref D)) _ _ _
  refine wpAny_assign_Name (store_ok2 I' hN hiN hx (v := .ref D) rfl (fun s'' I'' ⟨a, sb, ha⟩ => ?_) hfn)
  have hCa : C ≠ a := by
    rcases ha with ha | ha
    · rw [ha]; exact fC.2.1
    · exact fun z => fC.2.2.2.2.1 y a ha z.symm
  refine ⟨m, hn.sameBut sb hCa, fun h' sb' => ⟨_, H', ?_, q⟩⟩
  exact I''.turned (t' := s''.toks) (fun b o hb e => (sb'.2 b hb).trans e) fC.1 fC.2.1 fC.2.2.2.1 fC.2.2.2.2.1 fC.2.2.2.2.2
end
end L2

set_option Elab.async false
set_option linter.all false
set_option maxRecDepth 100000
set_option maxHeartbeats 4000000
namespace Z
open PySem L2
def top (i : Nat) : Stmt := PySem.Challenge.pw_cisternyard_k07_whole_no_plan_beats_a_li.main.body.getD i (.Pass ⟨0, 0, 0, 0⟩)
abbrev sIsWhole : Stmt := top 8
abbrev sAreWhole : Stmt := top 9
abbrev sCheckDay : Stmt := top 10
abbrev sCheckDays : Stmt := top 11
abbrev sCheckLine : Stmt := top 13
abbrev sCheckDL : Stmt := top 14
abbrev sWater : Stmt := top 15
abbrev sWishes : Stmt := top 16
abbrev sLeastEnd : Stmt := top 18
abbrev sTightest : Stmt := top 19
abbrev sHasForm : Stmt := top 21
abbrev sDayHolds : Stmt := top 22
abbrev sHolds : Stmt := top 23
abbrev sDrawnBy : Stmt := top 24
abbrev sMost : Stmt := top 25
abbrev sCheck : Stmt := top 29
abbrev sInit : Stmt := inClass (top 30) 0
abbrev sRooms : Stmt := inClass (top 30) 1
abbrev sWaters : Stmt := inClass (top 30) 2
abbrev sDay : Stmt := inClass (top 30) 3
abbrev sDrawn : Stmt := top 32
abbrev sYardBy : Stmt := top 33
abbrev sDaysBy : Stmt := top 34
abbrev sRun : Stmt := top 36
abbrev sLived : Stmt := top 37
abbrev sPlanBy : Stmt := top 38
abbrev sLaw : Stmt := top 39
theorem boot_min : bootBuiltins "min" = some (.builtin "min") := by decide +kernel
theorem boot_tup : bootBuiltins "tuple" = some (.type "tuple") := by decide +kernel
theorem boot_isi : bootBuiltins "isinstance" = some (.builtin "isinstance") := by decide +kernel
theorem boot_int : bootBuiltins "int" = some (.type "int") := by decide +kernel
theorem boot_bool : bootBuiltins "bool" = some (.type "bool") := by decide +kernel
theorem boot_lst : bootBuiltins "list" = some (.type "list") := by decide +kernel
theorem boot_alls : bootBuiltins "all" = some (.builtin "all") := by decide +kernel
theorem boot_anys : bootBuiltins "any" = some (.builtin "any") := by decide +kernel

/-! ### the data -/
abbrev iL (ns : List Int) : List V := ns.map V.int
structure Good (rs ws : List Int) : Prop where
  n1 : 1 ≤ rs.length
  n4 : rs.length ≤ 4
  eq : ws.length = rs.length
  all : ∀ (i : Nat) (r w : Int), rs[i]? = some r → ws[i]? = some w → 0 ≤ r ∧ r ≤ 50 ∧ 0 ≤ w ∧ w ≤ r
theorem sl : ¬ (("sizes" : Str) = "levels") := by decide +kernel
def fl (sz lv : Addr) : List (Str × V) := putF "levels" (.ref lv) (putF "sizes" (.ref sz) [])
theorem fl_sizes (sz lv : Addr) : (fl sz lv).lookup ("sizes" : Str) = some (.ref sz) := by
  unfold fl
  rw [lookup_putF, if_neg sl, lookup_putF, if_pos rfl]
theorem fl_levels (sz lv : Addr) : (fl sz lv).lookup ("levels" : Str) = some (.ref lv) := by
  unfold fl
  rw [lookup_putF, if_pos rfl]
theorem fl_no (sz lv : Addr) {m : Str} (h1 : ¬ m = "levels") (h2 : ¬ m = "sizes") : (fl sz lv).lookup m = none := by
  unfold fl
  rw [lookup_putF, if_neg h1, lookup_putF, if_neg h2]
  all_goals rfl
/-- a Yard stands at y, its lists at sz and lv -/
structure YardAt (C : Addr) (H : Hp) (y sz lv : Addr) (rs ws : List Int) : Prop where
  ob : ∃ dx, H y = some (.ins C dx (fl sz lv))
  sz : H sz = some (.lst (iL rs))
  lv : H lv = some (.lst (iL ws))
/-! ### the promises -/
def spIW : Sp := fun vs H Q _ => ∃ v m : Int, vs = [.int v, .int m] ∧ Q (.bl (decide (0 ≤ v ∧ v ≤ m))) H
def spAW : Sp := fun vs H Q _ => ∃ (p : Addr) (ns : List Int) (m : Int), vs = [.ref p, .int m] ∧ H p = some (.lst (iL ns)) ∧ ns.length ≤ 100 ∧ ∀ H', Same H H' → Q (.bl (ns.all fun v => decide (0 ≤ v ∧ v ≤ m))) H'
def spCheck (cB : Addr) : Sp := fun vs H Q E => ∃ (p q : Addr) (rs ws : List Int), vs = [.ref p, .ref q] ∧ H p = some (.lst (iL rs)) ∧ H q = some (.lst (iL ws)) ∧ rs.length ≤ 100 ∧ ws.length ≤ 100 ∧
  (Good rs ws → ∀ H', Same H H' → Q .non H') ∧ (¬ Good rs ws → ∀ H', Same H H' → E (.ref cB) none H')
def spInit (C cB : Addr) : Sp := fun vs H Q E => ∃ (x dx p q : Addr) (rs ws : List Int), vs = [.ref x, .ref p, .ref q] ∧ H x = some (.ins C dx []) ∧ H p = some (.lst (iL rs)) ∧ H q = some (.lst (iL ws)) ∧ rs.length ≤ 100 ∧ ws.length ≤ 100 ∧
  (Good rs ws → ∀ (sz lv : Addr) (H' : Hp), H sz = none → H lv = none → sz ≠ lv → YardAt C H' x sz lv rs ws → (∀ b o, H b = some o → b ≠ x → H' b = some o) → Q .non H') ∧ (¬ Good rs ws → ∀ H', Same H H' → E (.ref cB) none H')
def spRooms (C : Addr) : Sp := fun vs H Q _ => ∃ (y sz lv : Addr) (rs ws : List Int), vs = [.ref y] ∧ YardAt C H y sz lv rs ws ∧ ∀ l, H l = none → Q (.ref l) (upd H l (.lst (iL rs)))
def spWaters (C : Addr) : Sp := fun vs H Q _ => ∃ (y sz lv : Addr) (rs ws : List Int), vs = [.ref y] ∧ YardAt C H y sz lv rs ws ∧ ∀ l, H l = none → Q (.ref l) (upd H l (.lst (iL ws)))
structure Txt (K : PySem.W.Frag) (mg : Str → Option Value) (C cY cB cD cL cT : Addr) : Prop where
  cl : Cls K C
  nS : NoAttr K C "sizes"
  nL : NoAttr K C "levels"
  mgC : mg "Yard" = some (.ref C)
  mgY : mg "YardError" = some (.ref cY)
  exB : ExcC K mg "BadYard" cB
  exD : ExcC K mg "BadDays" cD
  exL : ExcC K mg "BadLine" cL
  len : mg "len" = none
  range : mg "range" = none
  isi : mg "isinstance" = none
  list : mg "list" = none
  all : mg "all" = none
  any : mg "any" = none
  zip : mg "zip" = none
  int : mg "int" = none
  bool : mg "bool" = none
  ve : mg "ValueError" = none
  min : mg "min" = none
  tup : mg "tuple" = none
  max : mg "max" = none
  sum : mg "sum" = none
  enu : mg "enumerate" = none
  str : mg "str" = none
  m50 : ∃ t, mg "MOST_ROOM" = some (.int 50 t)
  m4 : ∃ t, mg "MOST_TANKS" = some (.int 4 t)
  m30 : ∃ t, mg "MOST_IN_A_DAY" = some (.int 30 t)
  m8 : ∃ t, mg "MOST_DAYS" = some (.int 8 t)
  ki : PySem.W.kitOne K (.type "int") (.type "int") = some true
  kib : PySem.W.kitOne K (.type "int") (.type "bool") = some false
  kll : PySem.W.kitOne K (.type "list") (.type "list") = some true
  ktt : PySem.W.kitOne K (.type "tuple") (.type "tuple") = some true
  kbb : PySem.W.kitOne K (.type "bool") (.type "bool") = some true
  kss : PySem.W.kitOne K (.type "str") (.type "str") = some true
/-- the body of the loop that stands at place i of a list of statements -/
def fB9 (l : List Stmt) (i : Nat) : List Stmt := match l.getD i (.Pass ⟨0, 0, 0, 0⟩) with
  | .For _ _ b _ _ => b
  | _ => []
def SB9 (X : Cx) (b : List Stmt) (i : Nat) := {t : TS // PSs X (b.drop i) t}
@[elab_as_elim] theorem len_1 {α : Type} {P : List α → Prop} : ∀ us : List α, us.length = 1 → (∀ a, P [a]) → P us
  | [a], _, h => h a
@[elab_as_elim] theorem len_2 {α : Type} {P : List α → Prop} : ∀ us : List α, us.length = 2 → (∀ a b, P [a, b]) → P us
  | [a, b], _, h => h a b
@[elab_as_elim] theorem len_3 {α : Type} {P : List α → Prop} : ∀ us : List α, us.length = 3 → (∀ a b c, P [a, b, c]) → P us
  | [a, b, c], _, h => h a b c
@[elab_as_elim] theorem len_4 {α : Type} {P : List α → Prop} : ∀ us : List α, us.length = 4 → (∀ a b c d, P [a, b, c, d]) → P us
  | [a, b, c, d], _, h => h a b c d
@[elab_as_elim] theorem len_5 {α : Type} {P : List α → Prop} : ∀ us : List α, us.length = 5 → (∀ a b c d e, P [a, b, c, d, e]) → P us
  | [a, b, c, d, e], _, h => h a b c d e
section
variable {P : Program} {w : World} {K : PySem.W.Frag} {mg : Str → Option Value} {base : Heap} {C cY cB cD cL cT : Addr}
theorem scIW : FnScope ["value", "most"] ["value", "most"] (defScope sIsWhole) := ⟨rfl, rfl, rfl, by decide +kernel, rfl, by decide +kernel, by decide +kernel⟩
theorem ok_iw {f : Addr} {fd : FuncData} (F : Fun K "is_whole" "is_whole" sIsWhole f fd) (T : Txt K mg C cY cB cD cL cT) : FnOk P w K mg base CX0 1 f fd ["value", "most"] spIW := by
  refine F.ok scIW (fun vs H Q E h => ?_) (fun cdv A outer s H vs Q E hr h => ?_)
  · obtain ⟨v, m, rfl, _⟩ := h
    rfl
  · obtain ⟨v, m, rfl, k⟩ := h
    refine ⟨_, pss_cons (ps_if (pw_or (pt_not (pt_val (pe_callB call_isi (by rfl) T.isi boot_isi (pa_cons (pv 0) (pa_cons (pe_bltn (v := .ty "int") (by rfl) T.int boot_int rfl) pa_nil)))))
        (pw_or1 (pt_val (pe_callB call_isi (by rfl) T.isi boot_isi (pa_cons (pv 0) (pa_cons (pe_bltn (v := .ty "bool") (by rfl) T.bool boot_bool rfl) pa_nil)))))).pt (pss_one (ps_ret pe_bl)) pss_nil)
      (pss_one (ps_ret (pe_chain op_le op_le pe_int (pv 0) (pv 1)))), ?_⟩
    refine ⟨_, rfl, _, _, _, _, rfl, .int v, (by nofun), T.ki, _, rfl, ?_⟩
    refine iteF ?_
    refine ⟨_, rfl, _, _, _, _, rfl, .int v, (by nofun), T.kib, _, rfl, ?_⟩
    refine iteF ?_
    refine ⟨_, rfl, _, _, rfl, rfl, _, rfl, ?_⟩
    refine ite2 (fun h0 => ?_) (fun h0 => ?_)
    · refine ⟨_, rfl, _, _, rfl, rfl, ?_⟩
      have h0' : (0 : Int) ≤ v := of_decide_eq_true h0
      have e : decide (v ≤ m) = decide (0 ≤ v ∧ v ≤ m) := by
        rw [decide_eq_decide]
        exact ⟨fun z => ⟨h0', z⟩, fun z => z.2⟩
      show Q (V.bl (decide (v ≤ m))) H
      rw [e]
      exact k
    · have e : false = decide (0 ≤ v ∧ v ≤ m) := by
        symm
        exact decide_eq_false fun z => h0 (decide_eq_true z.1)
      show Q (V.bl false) H
      rw [e]
      exact k
end
end Z

set_option Elab.async false
set_option linter.all false
set_option maxRecDepth 100000
set_option maxHeartbeats 4000000
namespace Z
open PySem L2
section
variable {P : Program} {w : World} {K : PySem.W.Frag} {mg : Str → Option Value} {base : Heap} {C cY cB cD cL cT : Addr}
theorem sz100 {n : Nat} (h : n ≤ 100) : n ≤ sizeLine := Nat.le_trans h (by decide)
theorem iL_get {ns : List Int} {i : Nat} {x : V} (h : (iL ns)[i]? = some x) : ∃ v, ns[i]? = some v ∧ x = .int v := by
  rw [List.getElem?_map] at h
  cases e : ns[i]? with
  | none => rw [e] at h; cases h
  | some v => rw [e] at h; exact ⟨v, rfl, (Option.some.inj h).symm⟩
theorem take_snoc {α : Type} {l : List α} {i : Nat} {v : α} (h : l[i]? = some v) : l.take (i + 1) = l.take i ++ [v] := by
  rw [List.take_add_one, h]
  rfl
theorem scAW : FnScope ["values", "most"] ["values", "most"] (defScope sAreWhole) := ⟨rfl, rfl, rfl, by decide +kernel, rfl, by decide +kernel, by decide +kernel⟩
theorem ndAW : (["value", "most"] : List Str).Nodup := by decide +kernel
theorem ok_aw {f fI : Addr} {fd fdI : FuncData} (F : Fun K "are_whole" "are_whole" sAreWhole f fd) (T : Txt K mg C cY cB cD cL cT) (FI : Fun K "is_whole" "is_whole" sIsWhole fI fdI) (bI : Binds K fdI ["value", "most"] []) (mI : mg "is_whole" = some (.ref fI)) :
    FnOk P w K mg base CX0 2 f fd ["values", "most"] spAW := by
  have GI : FnOk P w K mg base CX0 1 fI fdI ["value", "most"] spIW := ok_iw FI T
  refine F.ok scAW (fun vs H Q E h => ?_) (fun cdv A outer s H vs Q E hr h => ?_)
  · obtain ⟨p, ns, m, rfl, _⟩ := h
    rfl
  · obtain ⟨p, ns, m, rfl, hp, hl, k⟩ := h
    refine ⟨_, pss_one (ps_ret (pe_and (pe_callB call_isi (by rfl) T.isi boot_isi (pa_cons (pv 0) (pa_cons (pe_bltn (v := .ty "list") (by rfl) T.list boot_lst rfl) pa_nil)))
      (pe_one (pe_callB (call_all rfl) (by rfl) T.all boot_alls (pa_cons (pe_comp (N := ["value", "most"]) (cap := [none, some 1]) rfl (.of (by rfl)) (pi_list (pv 0)) (fun _ _ _ _ => pg_name (i := 0) ndAW rfl (Or.inl rfl)) (fun _ _ _ _ => pts_nil)
        (fun _ _ _ _ => pe_call GI hr (by rfl) mI FI.kp bI .nil pass0 (pa_cons (pv 0) (pa_cons (pv 1) pa_nil)))) pa_nil))))), ?_⟩
    refine ⟨_, rfl, _, _, _, _, rfl, .lst hp, (by nofun), T.kll, _, rfl, ?_⟩
    refine iteT ?_
    refine ⟨_, rfl, p, rfl, ⟨_, SqL.of hp⟩, fun D hD => ?_⟩
    have npD : p ≠ D := ne_of_none hp hD
    refine comp_by ns.length (sz100 hl) (fun i ys τ H' => i ≤ ns.length ∧ ys = (ns.take i).map (fun v => V.bl (decide (0 ≤ v ∧ v ≤ m))) ∧ H' = upd H D (.lst ys) ∧ ∃ o, τ = [o, some (.int m)]) ?_ ?_ ?_ ?_
    · exact ⟨Nat.zero_le _, rfl, rfl, none, rfl⟩
    · rintro i ys τ H' ⟨hi, rfl, rfl, _⟩
      exact ⟨upd_same, by rw [List.length_map, List.length_take]; exact Nat.min_le_left _ _⟩
    · rintro i ys τ H' hi ⟨_, rfl, rfl, o, rfl⟩
      have hp' : (upd H D (.lst ((ns.take i).map (fun v => V.bl (decide (0 ≤ v ∧ v ≤ m)))))) p = some (.lst (iL ns)) := by rw [upd_ne npD]; exact hp
      refine ⟨⟨iL ns, .int ns[i], SqL.of hp', by simp [hi]⟩, ?_⟩
      rintro x H3 ⟨rfl, hx⟩
      obtain ⟨v, hv, rfl⟩ := iL_get (hx _ (SqL.of hp'))
      refine name_yes_if ?_
      refine ⟨_, rfl, _, rfl, v, m, rfl, upd_same, hi, ?_, ?_, some (.int v), rfl⟩
      · rw [take_snoc hv, List.map_append]
        rfl
      · rw [upd_upd]
    · rintro ys τ H' ⟨_, rfl, rfl, o, rfl⟩
      have hp' : (upd H D (.lst ((ns.take ns.length).map (fun v => V.bl (decide (0 ≤ v ∧ v ≤ m)))))) p = some (.lst (iL ns)) := by rw [upd_ne npD]; exact hp
      refine ⟨⟨iL ns, SqL.of hp', by simp⟩, D, ns.map (fun v => decide (0 ≤ v ∧ v ≤ m)), rfl, SqL.of ?_, ?_⟩
      · rw [upd_same, List.take_length, List.map_map]
        rfl
      · have e : (ns.map (fun v => decide (0 ≤ v ∧ v ≤ m))).all id = ns.all fun v => decide (0 ≤ v ∧ v ≤ m) := by
          rw [List.all_map]
          rfl
        rw [e]
        exact k _ fun b o z => by rw [upd_ne (ne_of_none z hD)]; exact z

theorem scCk : FnScope ["rooms", "waters"] ["rooms", "waters"] (defScope sCheck) := ⟨rfl, rfl, rfl, by decide +kernel, rfl, by decide +kernel, by decide +kernel⟩
theorem ndCk : (["room", "water"] : List Str).Nodup := by decide +kernel
theorem all_iff {ns : List Int} {m : Int} : (ns.all fun v => decide (0 ≤ v ∧ v ≤ m)) = true ↔ ∀ v ∈ ns, 0 ≤ v ∧ v ≤ m := by
  rw [List.all_eq_true]
  exact ⟨fun h v hv => of_decide_eq_true (h v hv), fun h v hv => decide_eq_true (h v hv)⟩
theorem Good.rs {rs ws : List Int} (g : Good rs ws) : ∀ v ∈ rs, 0 ≤ v ∧ v ≤ 50 := fun v hv => by
  obtain ⟨i, hi, e⟩ := List.mem_iff_getElem.mp hv
  have hw : i < ws.length := by rw [g.eq]; exact hi
  have := g.all i v ws[i] (by rw [← e]; exact List.getElem?_eq_getElem hi) (List.getElem?_eq_getElem hw)
  exact ⟨this.1, this.2.1⟩
theorem Good.ws {rs ws : List Int} (g : Good rs ws) : ∀ v ∈ ws, 0 ≤ v ∧ v ≤ 50 := fun v hv => by
  obtain ⟨i, hi, e⟩ := List.mem_iff_getElem.mp hv
  have hr : i < rs.length := by rw [← g.eq]; exact hi
  have := g.all i rs[i] v (List.getElem?_eq_getElem hr) (by rw [← e]; exact List.getElem?_eq_getElem hi)
  omega
theorem ok_ck {f fA fI : Addr} {fd fdA fdI : FuncData} (F : Fun K "check_yard" "check_yard" sCheck f fd) (T : Txt K mg C cY cB cD cL cT) (FA : Fun K "are_whole" "are_whole" sAreWhole fA fdA) (bA : Binds K fdA ["values", "most"] []) (mA : mg "are_whole" = some (.ref fA))
    (FI : Fun K "is_whole" "is_whole" sIsWhole fI fdI) (bI : Binds K fdI ["value", "most"] []) (mI : mg "is_whole" = some (.ref fI)) :
    FnOk P w K mg base (CXo P w) 3 f fd ["rooms", "waters"] (spCheck cB) := by
  have GA : FnOk P w K mg base CX0 2 fA fdA ["values", "most"] spAW := ok_aw FA T FI bI mI
  obtain ⟨t50, h50⟩ := T.m50
  obtain ⟨t4, h4⟩ := T.m4
  refine F.okX scCk (fun vs H Q E h => ?_) (fun cdv A outer s H vs Q E hr h => ?_)
  · obtain ⟨p, q, rs, ws, rfl, _⟩ := h
    rfl
  · obtain ⟨p, q, rs, ws, rfl, hp, hq, hl1, hl2, kG, kB⟩ := h
    show let X9 := _; let E9 := _; ∃ t, PSs X9 (defBody sCheck) t ∧ t E9 _ _
    intro X9 E9
    let x1_3 : SB9 X9 (defBody sCheck) 3 := ⟨_, pss_one (ps_if (pt_val (pe_callB (call_any rfl) (by rfl) T.any boot_anys (pa_cons (pe_comp (g := gTup K 2 (gCons (gName 0) (gCons (gName 1) gNil))) (N := ["room", "water"]) (cap := [none, none]) rfl (.of (by rfl)) (pi_zip (by rfl) T.zip (pa_cons (pv 0) (pa_cons (pv 1) pa_nil)))
        (fun _ _ _ _ => pg_tup (by rfl) (pgs_cons (pg_name (i := 0) ndCk (by rfl) (Or.inl (by rfl)) (Or.inr (by rfl))) (pgs_cons (pg_name (i := 1) ndCk (by rfl) (Or.inl (by rfl)) (Or.inr (by rfl))) pgs_nil))) (fun _ _ _ _ => pts_nil) (fun _ _ _ _ => pe_cmpR op_gt (pv 1) (pv 0) (nomark _))) pa_nil))) (pss_one (ps_raise rfl T.exB leaves_cx (by rfl) (pa_cons pe_str pa_nil))) pss_nil)⟩
    let tx1_3 : TS := x1_3.1
    have px1_3 : PSs X9 (List.drop 3 (defBody sCheck)) tx1_3 := x1_3.2
    let x1_2 : SB9 X9 (defBody sCheck) 2 := ⟨_, pss_cons (ps_if (pt_cmpR op_ne (pe_callB call_len_seq (by rfl) T.len PySem.boot_len (pa_cons (pv 1) pa_nil)) (pe_callB call_len_seq (by rfl) T.len PySem.boot_len (pa_cons (pv 0) pa_nil)) (nomark _)) (pss_one (ps_raise rfl T.exB leaves_cx (by rfl) (pa_cons pe_str pa_nil))) pss_nil) px1_3⟩
    let tx1_2 : TS := x1_2.1
    have px1_2 : PSs X9 (List.drop 2 (defBody sCheck)) tx1_2 := x1_2.2
    let x1_1 : SB9 X9 (defBody sCheck) 1 := ⟨_, pss_cons (ps_if (pt_not (pt_chain op_le op_le pe_int (pe_callB call_len_seq (by rfl) T.len PySem.boot_len (pa_cons (pv 0) pa_nil)) (pe_glob (v := .int 4) (by rfl) h4 ⟨_, rfl⟩))) (pss_one (ps_raise rfl T.exB leaves_cx (by rfl) (pa_cons pe_str pa_nil))) pss_nil) px1_2⟩
    let tx1_1 : TS := x1_1.1
    have px1_1 : PSs X9 (List.drop 1 (defBody sCheck)) tx1_1 := x1_1.2
    let x1_0 : SB9 X9 (defBody sCheck) 0 := ⟨_, pss_cons (ps_if (pw_or (pt_not (pt_val (pe_call GA hr (by rfl) mA FA.kp bA .nil pass0 (pa_cons (pv 0) (pa_cons (pe_glob (v := .int 50) (by rfl) h50 ⟨_, rfl⟩) pa_nil)))))
        (pw_or1 (pt_not (pt_val (pe_call GA hr (by rfl) mA FA.kp bA .nil pass0 (pa_cons (pv 1) (pa_cons (pe_glob (v := .int 50) (by rfl) h50 ⟨_, rfl⟩) pa_nil))))))).pt (pss_one (ps_raise rfl T.exB leaves_cx (by rfl) (pa_cons pe_str pa_nil))) pss_nil) px1_1⟩
    let tx1_0 : TS := x1_0.1
    have px1_0 : PSs X9 (List.drop 0 (defBody sCheck)) tx1_0 := x1_0.2
    refine ⟨tx1_0, px1_0, ?_⟩
    -- rooms and waters are whole
    refine ⟨_, rfl, p, rs, 50, rfl, hp, hl1, fun H1 s1 => ⟨_, rfl, ?_⟩⟩
    refine ite2 (fun h1 => ?_) (fun h1 => ?_)
    · refine iteT ⟨by decide, kB (fun g => ?_) H1 s1⟩
      rw [(all_iff (m := 50)).mpr g.rs] at h1
      cases h1
    have a1 : ∀ v ∈ rs, 0 ≤ v ∧ v ≤ 50 := all_iff.mp (by simpa using h1)
    refine ⟨_, rfl, q, ws, 50, rfl, s1 _ _ hq, hl2, fun H2 s2 => ⟨_, rfl, ?_⟩⟩
    have s12 := s1.trans s2
    refine ite2 (fun h2 => ?_) (fun h2 => ?_)
    · refine ⟨by decide, kB (fun g => ?_) H2 s12⟩
      rw [(all_iff (m := 50)).mpr g.ws] at h2
      cases h2
    have a2 : ∀ v ∈ ws, 0 ≤ v ∧ v ≤ 50 := all_iff.mp (by simpa using h2)
    -- 1 to 4 tanks
    refine ⟨_, rfl, p, _, rfl, .inl (SqL.of (s12 _ _ hp)), _, _, rfl, rfl, _, rfl, ?_⟩
    have el : ((iL rs).length : Int) = (rs.length : Int) := by rw [List.length_map]
    have el2 : ((iL ws).length : Int) = (ws.length : Int) := by rw [List.length_map]
    refine ite2 (fun h3 => ?_) (fun h3 => ?_)
    rotate_left
    · refine ⟨_, rfl, ?_⟩
      refine iteT ⟨by decide, kB (fun g => h3 (decide_eq_true (by rw [el]; have := g.n1; omega))) H2 s12⟩
    have h3' : 1 ≤ rs.length := by have := of_decide_eq_true h3; rw [el] at this; omega
    refine ⟨_, _, rfl, rfl, _, rfl, ?_⟩
    refine ite2 (fun h4 => ?_) (fun h4 => ?_)
    · refine ⟨by decide, kB (fun g => ?_) H2 s12⟩
      have : decide (((iL rs).length : Int) ≤ 4) = true := decide_eq_true (by rw [el]; have := g.n4; omega)
      rw [this] at h4
      cases h4
    have h4' : rs.length ≤ 4 := by
      by_cases z : ((iL rs).length : Int) ≤ 4
      · rw [el] at z; omega
      · exact absurd (by rw [decide_eq_false z]; rfl) h4
    -- as many waters
    refine ⟨_, rfl, q, _, rfl, .inl (SqL.of (s12 _ _ hq)), _, rfl, p, _, rfl, .inl (SqL.of (s12 _ _ hp)), rfl, _, rfl, ?_⟩
    refine ite2 (fun h5 => ?_) (fun h5 => ?_)
    · refine ⟨by decide, kB (fun g => ?_) H2 s12⟩
      have : decide (V.int ((iL ws).length : Int) = V.int ((iL rs).length : Int)) = true := decide_eq_true (by rw [el, el2, g.eq])
      rw [this] at h5
      cases h5
    have h5' : ws.length = rs.length := by
      by_cases z : V.int ((iL ws).length : Int) = V.int ((iL rs).length : Int)
      · rw [el, el2] at z
        injection z with z
        omega
      · exact absurd (by rw [decide_eq_false z]; rfl) h5
    -- no tank above its room
    refine ⟨_, rfl, _, rfl, p, q, rfl, ⟨_, SqL.of (s12 _ _ hp)⟩, ⟨_, SqL.of (s12 _ _ hq)⟩, fun D hD => ?_⟩
    refine comp_by rs.length (sz100 hl1) (fun i ys τ H' => i ≤ rs.length ∧ ys = ((rs.zip ws).take i).map (fun v => V.bl (decide (v.1 < v.2))) ∧ Same H2 H' ∧ H' D = some (.lst ys) ∧ τ.length = 2) ?_ ?_ ?_ ?_
    · refine ⟨Nat.zero_le _, rfl, fun b o z => ?_, upd_same, rfl⟩
      rw [upd_ne (ne_of_none z hD)]
      exact z
    · rintro i ys τ H' ⟨hi, rfl, _, hd, _⟩
      exact ⟨hd, by rw [List.length_map, List.length_take]; exact Nat.min_le_left _ _⟩
    · rintro i ys τ H' hi ⟨_, rfl, s3, hd, ht⟩
      have hp3 := s3 _ _ (s12 _ _ hp)
      have hq3 := s3 _ _ (s12 _ _ hq)
      have hiw : i < ws.length := by omega
      refine ⟨⟨iL rs, iL ws, .int rs[i], .int ws[i], SqL.of hp3, SqL.of hq3, by simp [hi], by simp [hiw]⟩, ?_⟩
      rintro x H3 ⟨t, x1, x2, rfl, hnt, rfl, g1, g2⟩
      obtain ⟨v1, hv1, rfl⟩ := iL_get (g1 _ (SqL.of hp3))
      obtain ⟨v2, hv2, rfl⟩ := iL_get (g2 _ (SqL.of hq3))
      have ntD : D ≠ t := ne_of_none hd hnt
      obtain ⟨τ0, τ1, rfl⟩ : ∃ a b, τ = [a, b] := by
        match τ, ht with
        | [a, b], _ => exact ⟨a, b, rfl⟩
      refine ⟨t, _, rfl, SqT.of upd_same, rfl, _, _, rfl, _, _, rfl, rfl, ?_⟩
      refine yes_if ?_
      refine ⟨_, rfl, _, rfl, _, _, rfl, rfl, ?_, hi, ?_, fun b o z => ?_, upd_same, rfl⟩
      · rw [upd_ne ntD]
        exact hd
      · have hz : (rs.zip ws)[i]? = some (v1, v2) := by rw [List.getElem?_zip_eq_some]; exact ⟨hv1, hv2⟩
        rw [take_snoc hz, List.map_append]
        rfl
      · rw [upd_ne (ne_of_none z hD), upd_ne (ne_of_none (s3 _ _ z) hnt)]
        exact s3 _ _ z
    · rintro ys τ H' ⟨_, rfl, s3, hd, _⟩
      have hp3 := s3 _ _ (s12 _ _ hp)
      have hq3 := s3 _ _ (s12 _ _ hq)
      refine ⟨⟨iL rs, iL ws, SqL.of hp3, SqL.of hq3, .inl (by simp)⟩, D, (rs.zip ws).map (fun v => decide (v.1 < v.2)), rfl, SqL.of ?_, _, rfl, ?_⟩
      · rw [hd, List.map_map]
        have e : (rs.zip ws).take rs.length = rs.zip ws := List.take_of_length_le (by rw [List.length_zip]; exact Nat.min_le_left _ _)
        rw [e]
        rfl
      · have s4 := s12.trans s3
        refine ite2 (fun h6 => ?_) (fun h6 => ?_)
        · refine ⟨by decide, kB (fun g => ?_) H' s4⟩
          obtain ⟨b, hb, e⟩ := List.any_eq_true.mp h6
          obtain ⟨⟨v1, v2⟩, hm, e2⟩ := List.mem_map.mp hb
          subst e2
          have lt : v1 < v2 := of_decide_eq_true e
          obtain ⟨i, hi, e3⟩ := List.mem_iff_getElem.mp hm
          have hz : (rs.zip ws)[i]? = some (v1, v2) := by rw [← e3]; exact List.getElem?_eq_getElem hi
          rw [List.getElem?_zip_eq_some] at hz
          have := g.all i v1 v2 hz.1 hz.2
          omega
        · refine kG ⟨h3', h4', h5', fun i r w' e1 e2 => ?_⟩ H' s4
          have b1 := a1 r (List.mem_of_getElem? e1)
          have b2 := a2 w' (List.mem_of_getElem? e2)
          refine ⟨b1.1, b1.2, b2.1, ?_⟩
          have hz : (rs.zip ws)[i]? = some (r, w') := by rw [List.getElem?_zip_eq_some]; exact ⟨e1, e2⟩
          have hb : decide (r < w') ∈ (rs.zip ws).map (fun v => decide (v.1 < v.2)) := List.mem_map.mpr ⟨(r, w'), List.mem_of_getElem? hz, rfl⟩
          have : ¬ r < w' := fun lt => h6 (List.any_eq_true.mpr ⟨_, hb, decide_eq_true lt⟩)
          omega
end
end Z

set_option Elab.async false
set_option linter.all false
set_option maxRecDepth 100000
set_option maxHeartbeats 4000000
namespace Z
open PySem L2
section
variable {P : Program} {w : World} {K : PySem.W.Frag} {mg : Str → Option Value} {base : Heap} {C cY cB cD cL cT : Addr}
theorem scIn : FnScope ["self", "rooms", "waters"] ["self", "rooms", "waters"] (defScope sInit) := ⟨rfl, rfl, rfl, by decide +kernel, rfl, by decide +kernel, by decide +kernel⟩
theorem ok_in {f fC : Addr} {fd fdC : FuncData} (F : Fun K "__init__" "Yard.__init__" sInit f fd) (T : Txt K mg C cY cB cD cL cT) (FC : Fun K "check_yard" "check_yard" sCheck fC fdC) (bC : Binds K fdC ["rooms", "waters"] []) (mC : mg "check_yard" = some (.ref fC))
    (GC : FnOk P w K mg base (CXo P w) 3 fC fdC ["rooms", "waters"] (spCheck cB)) : FnOk P w K mg base (CXo P w) 4 f fd ["self", "rooms", "waters"] (spInit C cB) := by
  refine F.okX scIn (fun vs H Q E h => ?_) (fun cdv A outer s H vs Q E hr h => ?_)
  · obtain ⟨x, dx, p, q, rs, ws, rfl, _⟩ := h
    rfl
  · obtain ⟨x, dx, p, q, rs, ws, rfl, hx, hp, hq, hl1, hl2, kG, kB⟩ := h
    show let X9 := _; let E9 := _; ∃ t, PSs X9 (defBody sInit) t ∧ t E9 _ _
    intro X9 E9
    let x1_2 : SB9 X9 (defBody sInit) 2 := ⟨_, pss_one (ps_fld (pv 0) (pe_callTy call_list_of (by rfl) T.list boot_lst (pa_cons (pv 2) pa_nil)) rfl)⟩
    let tx1_2 : TS := x1_2.1
    have px1_2 : PSs X9 (List.drop 2 (defBody sInit)) tx1_2 := x1_2.2
    let x1_1 : SB9 X9 (defBody sInit) 1 := ⟨_, pss_cons (ps_fld (pv 0) (pe_callTy call_list_of (by rfl) T.list boot_lst (pa_cons (pv 1) pa_nil)) rfl) px1_2⟩
    let tx1_1 : TS := x1_1.1
    have px1_1 : PSs X9 (List.drop 1 (defBody sInit)) tx1_1 := x1_1.2
    let x1_0 : SB9 X9 (defBody sInit) 0 := ⟨_, pss_cons (ps_expr (pe_callX GC hr (by rfl) mC FC.kp bC .nil passes_cx (pa_cons (pv 1) (pa_cons (pv 2) pa_nil)))) px1_1⟩
    let tx1_0 : TS := x1_0.1
    have px1_0 : PSs X9 (List.drop 0 (defBody sInit)) tx1_0 := x1_0.2
    refine ⟨tx1_0, px1_0, ?_⟩
    refine ⟨_, rfl, _, rfl, p, q, rs, ws, rfl, hp, hq, hl1, hl2, fun g H1 s1 => ?_, fun g H1 s1 => kB g H1 s1⟩
    refine ⟨_, rfl, p, _, rfl, .inl (SqL.of (s1 _ _ hp)), fun sz hsz => ?_⟩
    have nx : x ≠ sz := ne_of_none (s1 _ _ hx) hsz
    refine ⟨_, rfl, x, C, dx, [], rfl, (by rw [upd_ne nx]; exact s1 _ _ hx), T.cl, T.nS, (by show 0 < 1000; decide), ?_⟩
    have nq : q ≠ sz := ne_of_none (s1 _ _ hq) hsz
    have nqx : q ≠ x := ne_of hq hx (by intro z; cases z)
    refine ⟨_, rfl, q, _, rfl, .inl (SqL.of (by rw [upd_ne nqx, upd_ne nq]; exact s1 _ _ hq)), fun lv hlv => ?_⟩
    have nxl : x ≠ lv := fun z => by
      rw [← z, upd_same] at hlv
      cases hlv
    have nsl : sz ≠ lv := fun z => by
      rw [← z, upd_ne nx.symm, upd_same] at hlv
      cases hlv
    have hlv1 : H1 lv = none := by
      rw [upd_ne nxl.symm, upd_ne nsl.symm] at hlv
      exact hlv
    refine ⟨_, rfl, x, C, dx, _, rfl, (by rw [upd_ne nxl, upd_same]), T.cl, T.nL, (by show 1 < 1000; decide), ?_⟩
    refine kG g sz lv _ (s1.free hsz) (s1.free hlv1) nsl ⟨⟨dx, upd_same⟩, ?_, ?_⟩ fun b o z hb => ?_
    · rw [upd_ne nx.symm, upd_ne nsl, upd_ne nx.symm, upd_same]
    · rw [upd_ne nxl.symm, upd_same]
    · have z1 := s1 _ _ z
      rw [upd_ne hb, upd_ne (ne_of_none z1 hlv1), upd_ne hb, upd_ne (ne_of_none z1 hsz)]
      exact z1
theorem scRo : FnScope ["self"] ["self"] (defScope sRooms) := ⟨rfl, rfl, rfl, by decide +kernel, rfl, by decide +kernel, by decide +kernel⟩
theorem ok_ro {f : Addr} {fd : FuncData} (F : Fun K "rooms" "Yard.rooms" sRooms f fd) (T : Txt K mg C cY cB cD cL cT) : FnOk P w K mg base CX0 1 f fd ["self"] (spRooms C) := by
  refine F.ok scRo (fun vs H Q E h => ?_) (fun cdv A outer s H vs Q E hr h => ?_)
  · obtain ⟨y, sz, lv, rs, ws, rfl, _⟩ := h
    rfl
  · obtain ⟨y, sz, lv, rs, ws, rfl, ⟨⟨dx, hy⟩, hs, hv⟩, k⟩ := h
    refine ⟨_, pss_one (ps_ret (pe_callTy call_list_of (by rfl) T.list boot_lst (pa_cons (pe_fld (pv 0) rfl) pa_nil))), ?_⟩
    exact ⟨_, rfl, y, C, dx, _, _, rfl, hy, T.cl, T.nS, fl_sizes _ _, sz, _, rfl, .inl (SqL.of hs), fun l hl => k l hl⟩
theorem scWa : FnScope ["self"] ["self"] (defScope sWaters) := ⟨rfl, rfl, rfl, by decide +kernel, rfl, by decide +kernel, by decide +kernel⟩
theorem ok_wa {f : Addr} {fd : FuncData} (F : Fun K "waters" "Yard.waters" sWaters f fd) (T : Txt K mg C cY cB cD cL cT) : FnOk P w K mg base CX0 1 f fd ["self"] (spWaters C) := by
  refine F.ok scWa (fun vs H Q E h => ?_) (fun cdv A outer s H vs Q E hr h => ?_)
  · obtain ⟨y, sz, lv, rs, ws, rfl, _⟩ := h
    rfl
  · obtain ⟨y, sz, lv, rs, ws, rfl, ⟨⟨dx, hy⟩, hs, hv⟩, k⟩ := h
    refine ⟨_, pss_one (ps_ret (pe_callTy call_list_of (by rfl) T.list boot_lst (pa_cons (pe_fld (pv 0) rfl) pa_nil))), ?_⟩
    exact ⟨_, rfl, y, C, dx, _, _, rfl, hy, T.cl, T.nL, fl_levels _ _, lv, _, rfl, .inl (SqL.of hv), fun l hl => k l hl⟩

/-! ### the law's own helpers -/
def spDrawn (K : PySem.W.Frag) : Sp := fun vs H Q _ => ∃ (a : Addr) (ns : List Int) (k m : Int), vs = [.ref a, .int k, .int m] ∧ SqL K H a (iL ns) ∧ ns.length ≤ 63 ∧ 0 ≤ k ∧ k ≤ 1000000 ∧ 0 < m ∧ ∀ r, 0 ≤ r → r < m → Q (.int r) H
theorem scDr : FnScope ["script", "k", "many", "cell", "stir"] ["script", "k", "many"] (defScope sDrawn) := ⟨rfl, rfl, rfl, by decide +kernel, rfl, by decide +kernel, by decide +kernel⟩
theorem emod_lt64 (x : Int) : -(2 ^ 64) < x % 2147483647 ∧ x % 2147483647 < 2 ^ 64 := by
  have h1 := Int.emod_nonneg x (show (2147483647 : Int) ≠ 0 by decide)
  have h2 := Int.emod_lt_of_pos x (show (0 : Int) < 2147483647 by decide)
  omega
theorem ok_dr {f : Addr} {fd : FuncData} (F : Fun K "_law_drawn" "_law_drawn" sDrawn f fd) (T : Txt K mg C cY cB cD cL cT) : FnOk P w K mg base CX0 1 f fd ["script", "k", "many"] (spDrawn K) := by
  refine F.ok scDr (fun vs H Q E h => ?_) (fun cdv A outer s H vs Q E hr h => ?_)
  · obtain ⟨a, ns, k, m, rfl, _⟩ := h
    rfl
  · obtain ⟨a, ns, k, m, rfl, hs, hl, hk0, hk1, hm, q⟩ := h
    show let X9 := _; let E9 := _; ∃ t, PSs X9 (defBody sDrawn) t ∧ t E9 _ _
    intro X9 E9
    let x1_4 : SB9 X9 (defBody sDrawn) 4 := ⟨_, pss_one (ps_ret (pe_op op_mod (pe_op op_fdiv (pe_op op_mod (pe_op op_mul (pv 4) pe_int) pe_int) pe_int) (pv 2)))⟩
    let tx1_4 : TS := x1_4.1
    have px1_4 : PSs X9 (List.drop 4 (defBody sDrawn)) tx1_4 := x1_4.2
    let x1_3 : SB9 X9 (defBody sDrawn) 3 := ⟨_, pss_cons (ps_set (i := 4) scDr.nd rfl (Or.inl rfl) (pe_op op_mod (pe_op op_add (pe_op op_add (pe_op op_mul (pv 4) (pv 4)) (pe_op op_mul (pv 1) pe_int)) pe_int) pe_int)) px1_4⟩
    let tx1_3 : TS := x1_3.1
    have px1_3 : PSs X9 (List.drop 3 (defBody sDrawn)) tx1_3 := x1_3.2
    let x1_2 : SB9 X9 (defBody sDrawn) 2 := ⟨_, pss_cons (ps_set (i := 4) scDr.nd rfl (Or.inl rfl) (pe_op op_mod (pe_op op_add (pe_op op_add (pe_op op_mul (pv 3) pe_int) (pe_op op_mul (pe_op op_add (pv 1) pe_int) pe_int)) (pe_callB call_len_seq (by rfl) T.len PySem.boot_len (pa_cons (pv 0) pa_nil))) pe_int)) px1_3⟩
    let tx1_2 : TS := x1_2.1
    have px1_2 : PSs X9 (List.drop 2 (defBody sDrawn)) tx1_2 := x1_2.2
    let x1_1 : SB9 X9 (defBody sDrawn) 1 := ⟨_, pss_cons (ps_if (pt_cmpR op_gt (pe_callB call_len_seq (by rfl) T.len PySem.boot_len (pa_cons (pv 0) pa_nil)) pe_int (nomark _))
        (pss_one (ps_set (i := 3) scDr.nd rfl (Or.inl rfl) (pe_ix ix_list (pv 0) (pe_op op_mod (pv 1) (pe_callB call_len_seq (by rfl) T.len PySem.boot_len (pa_cons (pv 0) pa_nil))) (fun _ _ => rfl)))) pss_nil) px1_2⟩
    let tx1_1 : TS := x1_1.1
    have px1_1 : PSs X9 (List.drop 1 (defBody sDrawn)) tx1_1 := x1_1.2
    let x1_0 : SB9 X9 (defBody sDrawn) 0 := ⟨_, pss_cons (ps_set (i := 3) scDr.nd rfl (Or.inl rfl) pe_int) px1_1⟩
    let tx1_0 : TS := x1_0.1
    have px1_0 : PSs X9 (List.drop 0 (defBody sDrawn)) tx1_0 := x1_0.2
    refine ⟨tx1_0, px1_0, ?_⟩
    have el : ((iL ns).length : Int) = (ns.length : Int) := by rw [List.length_map]
    refine ⟨_, rfl, a, _, rfl, .inl hs, _, _, rfl, rfl, _, rfl, ?_⟩
    refine ite2 (fun h1 => ?_) (fun h1 => ?_)
    · have h1' : (0 : Int) < ((iL ns).length : Int) := of_decide_eq_true h1
      have b1 := Int.emod_nonneg k (show ((iL ns).length : Int) ≠ 0 by omega)
      have b2 := Int.emod_lt_of_pos k h1'
      obtain ⟨j, hj⟩ : ∃ j : Nat, (j : Int) = k % ((iL ns).length : Int) := ⟨(k % ((iL ns).length : Int)).toNat, by omega⟩
      have hjl : j < ns.length := by rw [el] at hj b2; omega
      refine ⟨_, rfl, _, rfl, _, rfl, a, _, rfl, .inl hs, _, _, rfl, rfl, h1', a, _, _, .int ns[j], rfl, rfl, hs, ?_, ?_⟩
      · rw [← hj]
        exact atI_nat (by simp [hjl])
      refine ⟨_, rfl, _, _, rfl, rfl, .inr ⟨by decide, by decide⟩, _, rfl, _, _, rfl, rfl, _, _, rfl, rfl, .inr ⟨by decide, by decide⟩, _, _, rfl, rfl, _, rfl, a, _, rfl, .inl hs, _, _, rfl, rfl, _, _, rfl, rfl, (by show (0 : Int) < 2147483647; decide), ?_⟩
      refine ⟨_, rfl, _, rfl, _, _, rfl, rfl, .inl (emod_lt64 _), _, rfl, _, _, rfl, rfl, .inr ⟨by decide, by decide⟩, _, _, rfl, rfl, _, _, rfl, rfl, _, _, rfl, rfl, (by show (0 : Int) < 2147483647; decide), ?_⟩
      refine ⟨_, rfl, _, _, rfl, rfl, .inr ⟨by decide, by decide⟩, _, _, rfl, rfl, (by show (0 : Int) < 2147483647; decide), _, _, rfl, rfl, ⟨by decide, by decide⟩, _, rfl, _, _, rfl, rfl, hm, ?_⟩
      exact q _ (Int.emod_nonneg _ (by omega)) (Int.emod_lt_of_pos _ hm)
    · refine ⟨_, rfl, _, _, rfl, rfl, .inr ⟨by decide, by decide⟩, _, rfl, _, _, rfl, rfl, _, _, rfl, rfl, .inr ⟨by decide, by decide⟩, _, _, rfl, rfl, _, rfl, a, _, rfl, .inl hs, _, _, rfl, rfl, _, _, rfl, rfl, (by show (0 : Int) < 2147483647; decide), ?_⟩
      refine ⟨_, rfl, _, rfl, _, _, rfl, rfl, .inl (emod_lt64 _), _, rfl, _, _, rfl, rfl, .inr ⟨by decide, by decide⟩, _, _, rfl, rfl, _, _, rfl, rfl, _, _, rfl, rfl, (by show (0 : Int) < 2147483647; decide), ?_⟩
      refine ⟨_, rfl, _, _, rfl, rfl, .inr ⟨by decide, by decide⟩, _, _, rfl, rfl, (by show (0 : Int) < 2147483647; decide), _, _, rfl, rfl, ⟨by decide, by decide⟩, _, rfl, _, _, rfl, rfl, hm, ?_⟩
      exact q _ (Int.emod_nonneg _ (by omega)) (Int.emod_lt_of_pos _ hm)
end
end Z

set_option Elab.async false
set_option linter.all false
set_option maxRecDepth 100000
set_option maxHeartbeats 8000000
namespace Z
open PySem L2
section
variable {P : Program} {w : World} {K : PySem.W.Frag} {mg : Str → Option Value} {base : Heap} {C cY cB cD cL cT : Addr}
/-- a list of a day: a number for each tank -/
def RowOk (n : Nat) (vs : List Int) : Prop := vs.length = n ∧ ∀ v ∈ vs, 0 ≤ v ∧ v ≤ 30
def DayOk (n : Nat) (ra wi : List Int) : Prop := RowOk n ra ∧ RowOk n wi
def spCkDay (cD : Addr) : Sp := fun vs H Q E => ∃ (n : Nat) (p q : Addr) (ra wi : List Int), vs = [.int n, .ref p, .ref q] ∧ H p = some (.lst (iL ra)) ∧ H q = some (.lst (iL wi)) ∧ ra.length ≤ 100 ∧ wi.length ≤ 100 ∧
  (DayOk n ra wi → ∀ H', Same H H' → Q .non H') ∧ (¬ DayOk n ra wi → ∀ H', Same H H' → E (.ref cD) none H')
theorem scCd : FnScope ["tanks", "rain", "wishes", "numbers"] ["tanks", "rain", "wishes"] (defScope sCheckDay) := ⟨rfl, rfl, rfl, by decide +kernel, rfl, by decide +kernel, by decide +kernel⟩
theorem ok_cd {f fA fI : Addr} {fd fdA fdI : FuncData} (F : Fun K "check_day" "check_day" sCheckDay f fd) (T : Txt K mg C cY cB cD cL cT) (FA : Fun K "are_whole" "are_whole" sAreWhole fA fdA) (bA : Binds K fdA ["values", "most"] []) (mA : mg "are_whole" = some (.ref fA))
    (FI : Fun K "is_whole" "is_whole" sIsWhole fI fdI) (bI : Binds K fdI ["value", "most"] []) (mI : mg "is_whole" = some (.ref fI)) :
    FnOk P w K mg base (CXo P w) 3 f fd ["tanks", "rain", "wishes"] (spCkDay cD) := by
  have GA : FnOk P w K mg base CX0 2 fA fdA ["values", "most"] spAW := ok_aw FA T FI bI mI
  obtain ⟨t30, h30⟩ := T.m30
  refine F.okX scCd (fun vs H Q E h => ?_) (fun cdv A outer s H vs Q E hr h => ?_)
  · obtain ⟨n, p, q, ra, wi, rfl, _⟩ := h
    rfl
  · obtain ⟨n, p, q, ra, wi, rfl, hp, hq, hl1, hl2, kG, kB⟩ := h
    refine ⟨_, pss_one (ps_for PassesOwn.leaving rfl (pi_tup (pe_tup (pa_cons (pv 1) (pa_cons (pv 2) pa_nil)))) (pg_name (i := 3) scCd.nd rfl (Or.inl rfl))
      (pss_cons (ps_if (pt_not (pt_val (pe_call GA hr (by rfl) mA FA.kp bA .nil pass0 (pa_cons (pv 3) (pa_cons (pe_glob (v := .int 30) (by rfl) h30 ⟨_, rfl⟩) pa_nil))))) (pss_one (ps_raise rfl T.exD leaves_cx (by rfl) (pa_cons pe_str pa_nil))) pss_nil)
      (pss_one (ps_if (pt_cmpR op_ne (pe_callB call_len_seq (by rfl) T.len PySem.boot_len (pa_cons (pv 3) pa_nil)) (pv 0) (nomark _)) (pss_one (ps_raise rfl T.exD leaves_cx (by rfl) (pa_cons pe_str pa_nil))) pss_nil)))), ?_⟩
    refine ⟨_, rfl, _, rfl, (by show 2 ≤ sizeLine; decide), fun t ht => ⟨t, rfl, ⟨_, SqT.of upd_same⟩, ?_⟩⟩
    refine for_tup (xs := [.ref p, .ref q]) (fun i σ H' => Same H H' ∧ H' t = some (.tup [.ref p, .ref q]) ∧ (∃ o, σ = [some (.int n), some (.ref p), some (.ref q), o]) ∧ (1 ≤ i → RowOk n ra) ∧ (2 ≤ i → RowOk n wi)) ?_ ?_ ?_ ?_
    · exact ⟨same_new ht, upd_same, ⟨none, rfl⟩, by omega, by omega⟩
    · rintro i σ H' _ ⟨_, h, _⟩
      exact SqT.of h
    · rintro i x σ H' hx ⟨s1, h1, ⟨o, rfl⟩, o1, o2⟩
      match i, hx with
      | 0, hx =>
        cases hx
        refine ⟨_, rfl, p, ra, 30, rfl, s1 _ _ hp, hl1, fun H2 s2 => ⟨_, rfl, ?_⟩⟩
        have s12 := s1.trans s2
        refine ite2 (fun h2 => ⟨by decide, kB (fun g => ?_) H2 s12⟩) (fun h2 => ?_)
        · rw [(all_iff (m := 30)).mpr g.1.2] at h2
          cases h2
        have a1 : ∀ v ∈ ra, 0 ≤ v ∧ v ≤ 30 := all_iff.mp (by simpa using h2)
        refine ⟨_, rfl, p, _, rfl, .inl (SqL.of (s12 _ _ hp)), _, rfl, rfl, _, rfl, ?_⟩
        refine ite2 (fun h3 => ⟨by decide, kB (fun g => ?_) H2 s12⟩) (fun h3 => ?_)
        · have : decide (V.int ((iL ra).length : Int) = V.int (n : Int)) = true := decide_eq_true (by rw [List.length_map, g.1.1])
          rw [this] at h3
          cases h3
        have h3' : ra.length = n := by
          by_cases z : V.int ((iL ra).length : Int) = V.int (n : Int)
          · injection z with z
            rw [List.length_map] at z
            omega
          · exact absurd (by rw [decide_eq_false z]; rfl) h3
        exact ⟨s12, s2 _ _ h1, ⟨_, rfl⟩, fun _ => ⟨h3', a1⟩, by omega⟩
      | 1, hx =>
        cases hx
        have g0 := o1 (by omega)
        refine ⟨_, rfl, q, wi, 30, rfl, s1 _ _ hq, hl2, fun H2 s2 => ⟨_, rfl, ?_⟩⟩
        have s12 := s1.trans s2
        refine ite2 (fun h2 => ⟨by decide, kB (fun g => ?_) H2 s12⟩) (fun h2 => ?_)
        · rw [(all_iff (m := 30)).mpr g.2.2] at h2
          cases h2
        have a1 : ∀ v ∈ wi, 0 ≤ v ∧ v ≤ 30 := all_iff.mp (by simpa using h2)
        refine ⟨_, rfl, q, _, rfl, .inl (SqL.of (s12 _ _ hq)), _, rfl, rfl, _, rfl, ?_⟩
        refine ite2 (fun h3 => ⟨by decide, kB (fun g => ?_) H2 s12⟩) (fun h3 => ?_)
        · have : decide (V.int ((iL wi).length : Int) = V.int (n : Int)) = true := decide_eq_true (by rw [List.length_map, g.2.1])
          rw [this] at h3
          cases h3
        have h3' : wi.length = n := by
          by_cases z : V.int ((iL wi).length : Int) = V.int (n : Int)
          · injection z with z
            rw [List.length_map] at z
            omega
          · exact absurd (by rw [decide_eq_false z]; rfl) h3
        exact ⟨s12, s2 _ _ h1, ⟨_, rfl⟩, fun _ => g0, fun _ => ⟨h3', a1⟩⟩
      | i + 2, hx => simp at hx
    · rintro σ H' ⟨s1, h1, ⟨o, rfl⟩, o1, o2⟩
      exact kG ⟨o1 (by show 1 ≤ 2; decide), o2 (by show 2 ≤ 2; decide)⟩ H' s1
end
end Z

set_option Elab.async false
set_option linter.all false
set_option maxRecDepth 100000
set_option maxHeartbeats 8000000
namespace Z
open PySem L2
/-! ### a day, tank by tank -/
def gI (l : List Int) (i : Nat) : Int := l.getD i 0
theorem gI_at {l : List Int} {i : Nat} {v : Int} (h : l[i]? = some v) : gI l i = v := by
  unfold gI
  rw [List.getD_eq_getElem?_getD, h]
  rfl
def fallAt (rs ws ra wi : List Int) : Nat → Int
  | 0 => 0
  | i + 1 => gI ws i + gI ra i + fallAt rs ws ra wi i - min (gI wi i) (gI ws i + gI ra i + fallAt rs ws ra wi i) - min (gI rs i) (gI ws i + gI ra i + fallAt rs ws ra wi i - min (gI wi i) (gI ws i + gI ra i + fallAt rs ws ra wi i))
def thAt (rs ws ra wi : List Int) (i : Nat) : Int := gI ws i + gI ra i + fallAt rs ws ra wi i
def drAt (rs ws ra wi : List Int) (i : Nat) : Int := min (gI wi i) (thAt rs ws ra wi i)
def kpAt (rs ws ra wi : List Int) (i : Nat) : Int := min (gI rs i) (thAt rs ws ra wi i - drAt rs ws ra wi i)
theorem fall_succ (rs ws ra wi : List Int) (i : Nat) : fallAt rs ws ra wi (i + 1) = thAt rs ws ra wi i - drAt rs ws ra wi i - kpAt rs ws ra wi i := rfl
def drL (rs ws ra wi : List Int) (n : Nat) : List Int := (List.range n).map (drAt rs ws ra wi)
def kpL (rs ws ra wi : List Int) (n : Nat) : List Int := (List.range n).map (kpAt rs ws ra wi)
theorem drL_len (rs ws ra wi : List Int) (n : Nat) : (drL rs ws ra wi n).length = n := by unfold drL; rw [List.length_map, List.length_range]
theorem kpL_len (rs ws ra wi : List Int) (n : Nat) : (kpL rs ws ra wi n).length = n := by unfold kpL; rw [List.length_map, List.length_range]
theorem drL_succ (rs ws ra wi : List Int) (n : Nat) : drL rs ws ra wi (n + 1) = drL rs ws ra wi n ++ [drAt rs ws ra wi n] := by unfold drL; rw [List.range_succ, List.map_append]; rfl
theorem kpL_succ (rs ws ra wi : List Int) (n : Nat) : kpL rs ws ra wi (n + 1) = kpL rs ws ra wi n ++ [kpAt rs ws ra wi n] := by unfold kpL; rw [List.range_succ, List.map_append]; rfl
theorem iL_snoc (l : List Int) (v : Int) : iL l ++ [V.int v] = iL (l ++ [v]) := by rw [iL, iL, List.map_append]; rfl
theorem iL_at {l : List Int} {i : Nat} (h : i < l.length) : (iL l)[i]? = some (.int (gI l i)) := by
  rw [List.getElem?_map, List.getElem?_eq_getElem h, gI_at (List.getElem?_eq_getElem h)]
  rfl
section
variable {P : Program} {w : World} {K : PySem.W.Frag} {mg : Str → Option Value} {base : Heap} {C cY cB cD cL cT : Addr}
theorem same_upd {H : Hp} {l : Addr} {o : HO} (h : H l = none) : Same H (upd H l o) := same_new h
theorem YardAt.same {H H' : Hp} {y sz lv : Addr} {rs ws : List Int} (Y : YardAt C H y sz lv rs ws) (e : Same H H') : YardAt C H' y sz lv rs ws := by
  obtain ⟨⟨dx, h⟩, h1, h2⟩ := Y
  exact ⟨⟨dx, e _ _ h⟩, e _ _ h1, e _ _ h2⟩
def spDay (C cD : Addr) : Sp := fun vs H Q E => ∃ (y sz lv p q : Addr) (rs ws ra wi : List Int), vs = [.ref y, .ref p, .ref q] ∧ YardAt C H y sz lv rs ws ∧ H p = some (.lst (iL ra)) ∧ H q = some (.lst (iL wi)) ∧
  ws.length = rs.length ∧ rs.length ≤ 4 ∧ ra.length ≤ 100 ∧ wi.length ≤ 100 ∧
  (DayOk rs.length ra wi → ∀ (d k t : Addr) (H' : Hp), H d = none → H k = none → H t = none → d ≠ k → H' t = some (.tup [.ref d, .int (fallAt rs ws ra wi rs.length)]) → H' d = some (.lst (iL (drL rs ws ra wi rs.length))) →
    YardAt C H' y sz k rs (kpL rs ws ra wi rs.length) → (∀ b o, H b = some o → b ≠ y → H' b = some o) → Q (.ref t) H') ∧
  (¬ DayOk rs.length ra wi → ∀ H', Same H H' → E (.ref cD) none H')
theorem scDy : FnScope ["self", "rain", "wishes", "drawn", "kept", "falling", "room", "water", "rained", "wish", "there", "draw", "stay"] ["self", "rain", "wishes"] (defScope sDay) := ⟨rfl, rfl, rfl, by decide +kernel, rfl, by decide +kernel, by decide +kernel⟩
theorem ok_dy {f fC : Addr} {fd fdC : FuncData} (F : Fun K "day" "Yard.day" sDay f fd) (T : Txt K mg C cY cB cD cL cT) (FC : Fun K "check_day" "check_day" sCheckDay fC fdC) (bC : Binds K fdC ["tanks", "rain", "wishes"] []) (mC : mg "check_day" = some (.ref fC))
    (GC : FnOk P w K mg base (CXo P w) 3 fC fdC ["tanks", "rain", "wishes"] (spCkDay cD)) : FnOk P w K mg base (CXo P w) 4 f fd ["self", "rain", "wishes"] (spDay C cD) := by
  refine F.okX scDy (fun vs H Q E h => ?_) (fun cdv A outer s H vs Q E hr h => ?_)
  · obtain ⟨y, sz, lv, p, q, rs, ws, ra, wi, rfl, _⟩ := h
    rfl
  · obtain ⟨y, sz, lv, p, q, rs, ws, ra, wi, rfl, Y, hp, hq, hlw, h4, hl1, hl2, kG, kB⟩ := h
    show let X9 := _; let E9 := _; ∃ t, PSs X9 (defBody sDay) t ∧ t E9 _ _
    intro X9 E9
    let x1_5 : SB9 X9 ((fB9 (defBody sDay) 4)) 5 := ⟨_, pss_one (ps_expr (pe_bm PySem.F.plainAttrs_list PySem.F.slot_list_append PySem.F.type_list_append mt_append (pv 4) (pa_cons (pv 12) pa_nil)))⟩
    let tx1_5 : TS := x1_5.1
    have px1_5 : PSs X9 (List.drop 5 ((fB9 (defBody sDay) 4))) tx1_5 := x1_5.2
    let x1_4 : SB9 X9 ((fB9 (defBody sDay) 4)) 4 := ⟨_, pss_cons (ps_expr (pe_bm PySem.F.plainAttrs_list PySem.F.slot_list_append PySem.F.type_list_append mt_append (pv 3) (pa_cons (pv 11) pa_nil))) px1_5⟩
    let tx1_4 : TS := x1_4.1
    have px1_4 : PSs X9 (List.drop 4 ((fB9 (defBody sDay) 4))) tx1_4 := x1_4.2
    let x1_3 : SB9 X9 ((fB9 (defBody sDay) 4)) 3 := ⟨_, pss_cons (ps_set (i := 5) scDy.nd rfl (Or.inl rfl) (pe_op op_sub (pe_op op_sub (pv 10) (pv 11)) (pv 12))) px1_4⟩
    let tx1_3 : TS := x1_3.1
    have px1_3 : PSs X9 (List.drop 3 ((fB9 (defBody sDay) 4))) tx1_3 := x1_3.2
    let x1_2 : SB9 X9 ((fB9 (defBody sDay) 4)) 2 := ⟨_, pss_cons (ps_set (i := 12) scDy.nd rfl (Or.inl rfl) (pe_callB (call_min2 rfl) (by rfl) T.min boot_min (pa_cons (pv 6) (pa_cons (pe_op op_sub (pv 10) (pv 11)) pa_nil)))) px1_3⟩
    let tx1_2 : TS := x1_2.1
    have px1_2 : PSs X9 (List.drop 2 ((fB9 (defBody sDay) 4))) tx1_2 := x1_2.2
    let x1_1 : SB9 X9 ((fB9 (defBody sDay) 4)) 1 := ⟨_, pss_cons (ps_set (i := 11) scDy.nd rfl (Or.inl rfl) (pe_callB (call_min2 rfl) (by rfl) T.min boot_min (pa_cons (pv 9) (pa_cons (pv 10) pa_nil)))) px1_2⟩
    let tx1_1 : TS := x1_1.1
    have px1_1 : PSs X9 (List.drop 1 ((fB9 (defBody sDay) 4))) tx1_1 := x1_1.2
    let x1_0 : SB9 X9 ((fB9 (defBody sDay) 4)) 0 := ⟨_, pss_cons (ps_set (i := 10) scDy.nd rfl (Or.inl rfl) (pe_op op_add (pe_op op_add (pv 7) (pv 8)) (pv 5))) px1_1⟩
    let tx1_0 : TS := x1_0.1
    have px1_0 : PSs X9 (List.drop 0 ((fB9 (defBody sDay) 4))) tx1_0 := x1_0.2
    let x2_6 : SB9 X9 (defBody sDay) 6 := ⟨_, pss_one (ps_ret (pe_tup (pa_cons (pv 3) (pa_cons (pv 5) pa_nil))))⟩
    let tx2_6 : TS := x2_6.1
    have px2_6 : PSs X9 (List.drop 6 (defBody sDay)) tx2_6 := x2_6.2
    let x2_5 : SB9 X9 (defBody sDay) 5 := ⟨_, pss_cons (ps_fld (pv 0) (pv 4) rfl) px2_6⟩
    let tx2_5 : TS := x2_5.1
    have px2_5 : PSs X9 (List.drop 5 (defBody sDay)) tx2_5 := x2_5.2
    let x2_4 : SB9 X9 (defBody sDay) 4 := ⟨_, pss_cons (ps_for PassesOwn.leaving rfl (pi_zip4 (by rfl) T.zip (pa_cons (pe_fld (pv 0) rfl) (pa_cons (pe_fld (pv 0) rfl) (pa_cons (pv 1) (pa_cons (pv 2) pa_nil))))) (pg_tup rfl (pgs_cons (pg_name (i := 6) scDy.nd rfl (Or.inl rfl)) (pgs_cons (pg_name (i := 7) scDy.nd rfl (Or.inl rfl)) (pgs_cons (pg_name (i := 8) scDy.nd rfl (Or.inl rfl)) (pgs_cons (pg_name (i := 9) scDy.nd rfl (Or.inl rfl)) pgs_nil))))) px1_0) px2_5⟩
    let tx2_4 : TS := x2_4.1
    have px2_4 : PSs X9 (List.drop 4 (defBody sDay)) tx2_4 := x2_4.2
    let x2_3 : SB9 X9 (defBody sDay) 3 := ⟨_, pss_cons (ps_set (i := 5) scDy.nd rfl (Or.inl rfl) pe_int) px2_4⟩
    let tx2_3 : TS := x2_3.1
    have px2_3 : PSs X9 (List.drop 3 (defBody sDay)) tx2_3 := x2_3.2
    let x2_2 : SB9 X9 (defBody sDay) 2 := ⟨_, pss_cons (ps_set (i := 4) scDy.nd rfl (Or.inl rfl) (pe_lst pa_nil)) px2_3⟩
    let tx2_2 : TS := x2_2.1
    have px2_2 : PSs X9 (List.drop 2 (defBody sDay)) tx2_2 := x2_2.2
    let x2_1 : SB9 X9 (defBody sDay) 1 := ⟨_, pss_cons (ps_set (i := 3) scDy.nd rfl (Or.inl rfl) (pe_lst pa_nil)) px2_2⟩
    let tx2_1 : TS := x2_1.1
    have px2_1 : PSs X9 (List.drop 1 (defBody sDay)) tx2_1 := x2_1.2
    let x2_0 : SB9 X9 (defBody sDay) 0 := ⟨_, pss_cons (ps_expr (pe_callX GC hr (by rfl) mC FC.kp bC .nil passes_cx (pa_cons (pe_callB call_len_seq (by rfl) T.len PySem.boot_len (pa_cons (pe_fld (pv 0) rfl) pa_nil)) (pa_cons (pv 1) (pa_cons (pv 2) pa_nil))))) px2_1⟩
    let tx2_0 : TS := x2_0.1
    have px2_0 : PSs X9 (List.drop 0 (defBody sDay)) tx2_0 := x2_0.2
    refine ⟨tx2_0, px2_0, ?_⟩
    obtain ⟨dx, hy⟩ := Y.ob
    -- check_day(len(self.sizes), rain, wishes)
    refine ⟨_, rfl, y, C, dx, _, _, rfl, hy, T.cl, T.nS, fl_sizes _ _, sz, _, rfl, .inl (SqL.of Y.sz), _, rfl, _, rfl, rs.length, p, q, ra, wi, (by rw [List.length_map]; rfl), hp, hq, hl1, hl2, fun g H1 s1 => ?_, fun g H1 s1 => kB g H1 s1⟩
    -- drawn = [], kept = [], falling = 0
    refine ⟨Nat.zero_le _, fun d hd => ⟨Nat.zero_le _, fun k hk => ?_⟩⟩
    have ndk : d ≠ k := fun z => by
      rw [← z, upd_same] at hk
      cases hk
    have hk1 : H1 k = none := by rw [upd_ne ndk.symm] at hk; exact hk
    have s2 : Same H1 (upd (upd H1 d (.lst [])) k (.lst [])) := (same_upd hd).trans (same_upd hk)
    have hd2 : (upd (upd H1 d (.lst [])) k (.lst [])) d = some (.lst []) := by rw [upd_ne ndk, upd_same]
    have hk2 : (upd (upd H1 d (.lst [])) k (.lst [])) k = some (.lst []) := upd_same
    generalize upd (upd H1 d (.lst [])) k (.lst []) = H2 at s2 hd2 hk2 ⊢
    have s12 := s1.trans s2
    have Y2 := Y.same s12
    have hy2 := s12 _ _ hy
    -- the tanks
    refine ⟨_, rfl, y, C, dx, _, _, rfl, hy2, T.cl, T.nS, fl_sizes _ _, _, rfl, y, C, dx, _, _, rfl, hy2, T.cl, T.nL, fl_levels _ _, _, rfl, _, rfl, sz, lv, p, q, rfl, ⟨_, SqL.of Y2.sz⟩, ⟨_, SqL.of Y2.lv⟩, ⟨_, SqL.of (s12 _ _ hp)⟩, ⟨_, SqL.of (s12 _ _ hq)⟩, ?_⟩
    refine for_it rs.length (fun i σ H' => i ≤ rs.length ∧ Same H1 H' ∧ H' d = some (.lst (iL (drL rs ws ra wi i))) ∧ H' k = some (.lst (iL (kpL rs ws ra wi i))) ∧
      ∃ o6 o7 o8 o9 o10 o11 o12, σ = [some (.ref y), some (.ref p), some (.ref q), some (.ref d), some (.ref k), some (.int (fallAt rs ws ra wi i)), o6, o7, o8, o9, o10, o11, o12]) ?_ ?_ ?_
    · exact ⟨Nat.zero_le _, s2, hd2, hk2, none, none, none, none, none, none, none, rfl⟩
    · rintro i σ H' hi ⟨_, s3, hd3, hk3, o6, o7, o8, o9, o10, o11, o12, rfl⟩
      have s13 := s1.trans s3
      have Y3 := Y.same s13
      have hp3 := s13 _ _ hp
      have hq3 := s13 _ _ hq
      have g1 := iL_at (l := rs) hi
      have g2 := iL_at (l := ws) (i := i) (by omega)
      have g3 := iL_at (l := ra) (i := i) (by rw [g.1.1]; exact hi)
      have g4 := iL_at (l := wi) (i := i) (by rw [g.2.1]; exact hi)
      refine ⟨⟨[.int (gI rs i), .int (gI ws i), .int (gI ra i), .int (gI wi i)], rfl, fun j a v e1 e2 => ?_⟩, ?_⟩
      · match j, e1, e2 with
        | 0, e1, e2 => cases e1; cases e2; exact ⟨_, SqL.of Y3.sz, g1⟩
        | 1, e1, e2 => cases e1; cases e2; exact ⟨_, SqL.of Y3.lv, g2⟩
        | 2, e1, e2 => cases e1; cases e2; exact ⟨_, SqL.of hp3, g3⟩
        | 3, e1, e2 => cases e1; cases e2; exact ⟨_, SqL.of hq3, g4⟩
        | j + 4, e1, e2 => simp at e1
      rintro x H4 ⟨t, vs, rfl, hnt, rfl, hvl, hvs⟩
      obtain ⟨v0, v1, v2, v3, rfl⟩ : ∃ a b c e, vs = [a, b, c, e] := by
        match vs, hvl with
        | [a, b, c, e], _ => exact ⟨a, b, c, e, rfl⟩
      have e0 := Option.some.inj ((hvs 0 _ _ rfl rfl _ (SqL.of Y3.sz)).symm.trans g1)
      have e1 := Option.some.inj ((hvs 1 _ _ rfl rfl _ (SqL.of Y3.lv)).symm.trans g2)
      have e2 := Option.some.inj ((hvs 2 _ _ rfl rfl _ (SqL.of hp3)).symm.trans g3)
      have e3 := Option.some.inj ((hvs 3 _ _ rfl rfl _ (SqL.of hq3)).symm.trans g4)
      subst e0 e1 e2 e3
      have nd : d ≠ t := ne_of_none hd3 hnt
      have nk : k ≠ t := ne_of_none hk3 hnt
      refine ⟨t, _, rfl, SqT.of upd_same, rfl, _, _, rfl, _, _, rfl, _, _, rfl, _, _, rfl, rfl, ?_⟩
      refine ⟨_, rfl, _, rfl, _, _, rfl, rfl, _, rfl, _, _, rfl, rfl, ?_⟩
      refine ⟨_, rfl, _, rfl, _, _, rfl, ?_⟩
      rw [py_min]
      refine ⟨_, rfl, _, rfl, _, rfl, _, _, rfl, rfl, _, _, rfl, ?_⟩
      rw [py_min]
      refine ⟨_, rfl, _, rfl, _, _, rfl, rfl, _, rfl, _, _, rfl, rfl, ?_⟩
      refine ⟨_, rfl, .inl ⟨rfl, _, SqL.of (by rw [upd_ne nd]; exact hd3)⟩, _, rfl, d, _, _, rfl, rfl, (by rw [upd_ne nd]; exact hd3), small1000 (by rw [List.length_map, drL_len]; omega), ?_⟩
      refine ⟨_, rfl, .inl ⟨rfl, _, SqL.of (by rw [upd_ne ndk.symm, upd_ne nk]; exact hk3)⟩, _, rfl, k, _, _, rfl, rfl, (by rw [upd_ne ndk.symm, upd_ne nk]; exact hk3), small1000 (by rw [List.length_map, kpL_len]; omega), ?_⟩
      rw [iL_snoc, iL_snoc]
      refine ⟨hi, fun b o z => ?_, ?_, ?_, _, _, _, _, _, _, _, rfl⟩
      · rw [upd_ne (ne_of_none z hk1), upd_ne (ne_of_none z hd), upd_ne (ne_of_none (s3 _ _ z) hnt)]
        exact s3 _ _ z
      · rw [upd_ne ndk, upd_same, drL_succ]
        rfl
      · rw [upd_same, kpL_succ]
        rfl
    · rintro σ H' ⟨_, s3, hd3, hk3, o6, o7, o8, o9, o10, o11, o12, rfl⟩
      have s13 := s1.trans s3
      have Y3 := Y.same s13
      refine ⟨⟨sz, _, _, rfl, SqL.of Y3.sz, by rw [List.length_map]; exact Nat.le_refl _⟩, ?_⟩
      have hy3 := s13 _ _ hy
      -- self.levels = kept
      refine ⟨_, rfl, _, rfl, y, C, dx, _, rfl, hy3, T.cl, T.nL, (by show 2 < 1000; decide), ?_⟩
      refine ⟨_, rfl, _, rfl, (by show 2 ≤ sizeLine; decide), fun t ht => ?_⟩
      have ndy : d ≠ y := ne_of hd3 hy3 (by nofun)
      have nky : k ≠ y := ne_of hk3 hy3 (by nofun)
      have nszy : sz ≠ y := ne_of Y3.sz hy3 (by nofun)
      have nty : t ≠ y := fun z => by
        rw [z, upd_same] at ht
        cases ht
      have ht3 : H' t = none := by rw [upd_ne nty] at ht; exact ht
      refine kG g d k t _ (s1.free hd) (s1.free hk1) (s13.free ht3) ndk upd_same ?_ ⟨⟨dx, ?_⟩, ?_, ?_⟩ fun b o z hb => ?_
      · rw [upd_ne (ne_of_none hd3 ht3), upd_ne ndy]
        exact hd3
      · rw [upd_ne nty.symm, upd_same]
        rfl
      · rw [upd_ne (ne_of_none Y3.sz ht3), upd_ne nszy]
        exact Y3.sz
      · rw [upd_ne (ne_of_none hk3 ht3), upd_ne nky]
        exact hk3
      · have z3 := s13 _ _ z
        rw [upd_ne (ne_of_none z3 ht3), upd_ne hb]
        exact z3
end
end Z

set_option Elab.async false
set_option linter.all false
set_option maxRecDepth 100000
set_option maxHeartbeats 8000000
namespace Z
open PySem L2
section
variable {P : Program} {w : World} {K : PySem.W.Frag} {mg : Str → Option Value} {base : Heap} {C cY cB cD cL cT : Addr}
def spYardBy (K : PySem.W.Frag) : Sp := fun vs H Q _ => ∃ (a : Addr) (ns : List Int) (b : Int), vs = [.ref a, .int b] ∧ SqL K H a (iL ns) ∧ ns.length ≤ 63 ∧ 0 ≤ b ∧ b ≤ 1000 ∧
  ∀ (t r u : Addr) (rs ws : List Int) (H' : Hp), H t = none → H r = none → H u = none → r ≠ u → H' t = some (.tup [.ref r, .ref u]) → H' r = some (.lst (iL rs)) → H' u = some (.lst (iL ws)) → Good rs ws → Same H H' → Q (.ref t) H'
theorem scYb : FnScope ["script", "base", "many", "top", "rooms", "waters"] ["script", "base"] (defScope sYardBy) := ⟨rfl, rfl, rfl, by decide +kernel, rfl, by decide +kernel, by decide +kernel⟩
theorem ndY1 : (["k", "script", "base", "top"] : List Str).Nodup := by decide +kernel
theorem ndY2 : (["k", "script", "base", "rooms"] : List Str).Nodup := by decide +kernel
theorem ok_yb {f fD : Addr} {fd fdD : FuncData} (F : Fun K "_law_yard_by" "_law_yard_by" sYardBy f fd) (T : Txt K mg C cY cB cD cL cT) (FD : Fun K "_law_drawn" "_law_drawn" sDrawn fD fdD) (bD : Binds K fdD ["script", "k", "many"] []) (mD : mg "_law_drawn" = some (.ref fD)) :
    FnOk P w K mg base CX0 2 f fd ["script", "base"] (spYardBy K) := by
  have GD : FnOk P w K mg base CX0 1 fD fdD ["script", "k", "many"] (spDrawn K) := ok_dr FD T
  refine F.ok scYb (fun vs H Q E h => ?_) (fun cdv A outer s H vs Q E hr h => ?_)
  · obtain ⟨a, ns, b, rfl, _⟩ := h
    rfl
  · obtain ⟨a, ns, b, rfl, hs, hl, hb0, hb1, k⟩ := h
    show let X9 := _; let E9 := _; ∃ t, PSs X9 (defBody sYardBy) t ∧ t E9 _ _
    intro X9 E9
    let x1_4 : SB9 X9 (defBody sYardBy) 4 := ⟨_, pss_one (ps_ret (pe_tup (pa_cons (pv 4) (pa_cons (pv 5) pa_nil))))⟩
    let tx1_4 : TS := x1_4.1
    have px1_4 : PSs X9 (List.drop 4 (defBody sYardBy)) tx1_4 := x1_4.2
    let x1_3 : SB9 X9 (defBody sYardBy) 3 := ⟨_, pss_cons (ps_setC (i := 5) scYb.nd rfl (Or.inl rfl) (N := ["k", "script", "base", "rooms"]) (cap := [none, some 0, some 1, some 4]) rfl (.of (by rfl)) (pi_range1 (by rfl) T.range (pa_cons (pv 2) pa_nil))
          (fun _ _ _ _ => pg_name (i := 0) ndY2 rfl (Or.inl rfl)) (fun _ _ _ _ => pts_nil)
          (fun _ _ _ _ => pe_call GD hr (by rfl) mD FD.kp bD .nil pass0 (pa_cons (pv 1) (pa_cons (pe_op op_add (pe_op op_add (pv 2) pe_int) (pv 0)) (pa_cons (pe_op op_add (pe_ix (show IxR _ (rIxL K) from ix_list) (pv 3) (pv 0) (fun _ _ => rfl)) pe_int) pa_nil))))) px1_4⟩
    let tx1_3 : TS := x1_3.1
    have px1_3 : PSs X9 (List.drop 3 (defBody sYardBy)) tx1_3 := x1_3.2
    let x1_2 : SB9 X9 (defBody sYardBy) 2 := ⟨_, pss_cons (ps_set (i := 4) scYb.nd rfl (Or.inr rfl) (pe_comp (N := ["k", "script", "base", "top"]) (cap := [none, some 0, some 1, some 3]) rfl (.of (by rfl)) (pi_range1 (by rfl) T.range (pa_cons (pv 2) pa_nil))
          (fun _ _ _ _ => pg_name (i := 0) ndY1 rfl (Or.inl rfl)) (fun _ _ _ _ => pts_nil)
          (fun _ _ _ _ => pe_call GD hr (by rfl) mD FD.kp bD .nil pass0 (pa_cons (pv 1) (pa_cons (pe_op op_add (pe_op op_add (pv 2) pe_int) (pv 0)) (pa_cons (pv 3) pa_nil)))))) px1_3⟩
    let tx1_2 : TS := x1_2.1
    have px1_2 : PSs X9 (List.drop 2 (defBody sYardBy)) tx1_2 := x1_2.2
    let x1_1 : SB9 X9 (defBody sYardBy) 1 := ⟨_, pss_cons (ps_set (i := 3) scYb.nd rfl (Or.inr rfl) (pe_ix ix_list (pe_lst (pa_cons pe_int (pa_cons pe_int (pa_cons pe_int pa_nil)))) (pe_call GD hr (by rfl) mD FD.kp bD .nil pass0 (pa_cons (pv 0) (pa_cons (pe_op op_add (pv 1) pe_int) (pa_cons pe_int pa_nil)))) (fun _ _ => rfl))) px1_2⟩
    let tx1_1 : TS := x1_1.1
    have px1_1 : PSs X9 (List.drop 1 (defBody sYardBy)) tx1_1 := x1_1.2
    let x1_0 : SB9 X9 (defBody sYardBy) 0 := ⟨_, pss_cons (ps_set (i := 2) scYb.nd rfl (Or.inl rfl) (pe_op op_add pe_int (pe_call GD hr (by rfl) mD FD.kp bD .nil pass0 (pa_cons (pv 0) (pa_cons (pv 1) (pa_cons pe_int pa_nil)))))) px1_1⟩
    let tx1_0 : TS := x1_0.1
    have px1_0 : PSs X9 (List.drop 0 (defBody sYardBy)) tx1_0 := x1_0.2
    refine ⟨tx1_0, px1_0, ?_⟩
    refine ⟨_, rfl, _, rfl, a, ns, _, _, rfl, hs, hl, hb0, by omega, by decide, fun m0 m1 m2 => ⟨_, _, rfl, rfl, ?_⟩⟩
    obtain ⟨n, en⟩ : ∃ n : Nat, (1 + m0).toNat = n := ⟨_, rfl⟩
    have hn1 : 1 ≤ n := by omega
    have hn4 : n ≤ 4 := by omega
    -- top
    refine ⟨(by show 3 ≤ sizeLine; decide), fun l hl0 => ?_⟩
    have s1 := same_upd (o := .lst [.int 4, .int 12, .int 51]) hl0
    refine ⟨_, rfl, _, rfl, _, _, rfl, rfl, a, ns, _, _, rfl, s1.seq hs, hl, by omega, by omega, by decide, fun c c0 c1 => ?_⟩
    obtain ⟨top, htop, t0, t1⟩ : ∃ top : Int, atI [V.int 4, .int 12, .int 51] c = some (.int top) ∧ 0 < top ∧ top ≤ 51 := by
      have hc : c = 0 ∨ c = 1 ∨ c = 2 := by omega
      rcases hc with rfl | rfl | rfl
      · exact ⟨4, rfl, by decide, by decide⟩
      · exact ⟨12, rfl, by decide, by decide⟩
      · exact ⟨51, rfl, by decide, by decide⟩
    refine ⟨l, _, _, _, rfl, rfl, SqL.of upd_same, htop, ?_⟩
    have hs1 := s1.seq hs
    generalize upd H l (.lst [.int 4, .int 12, .int 51]) = H1 at s1 hs1 ⊢
    -- rooms
    refine ⟨_, rfl, _, rfl, by omega, by omega, fun D hD => ?_⟩
    rw [en]
    refine comp_by n (sz100 (by omega)) (fun i ys τ H' => i ≤ n ∧ (∃ rs : List Int, ys = iL rs ∧ rs.length = i ∧ ∀ v ∈ rs, 0 ≤ v ∧ v ≤ 50) ∧ H' = upd H1 D (.lst ys) ∧ ∃ o, τ = [o, some (.ref a), some (.int b), some (.int top)]) ?_ ?_ ?_ ?_
    · exact ⟨Nat.zero_le _, ⟨[], rfl, rfl, by simp⟩, rfl, none, rfl⟩
    · rintro i ys τ H' ⟨hi, ⟨rs, rfl, hrl, _⟩, rfl, _⟩
      exact ⟨upd_same, by rw [List.length_map, hrl]; exact Nat.le_refl _⟩
    · rintro i ys τ H' hi ⟨_, ⟨rs, rfl, hrl, hnn⟩, rfl, o, rfl⟩
      refine ⟨hi, ?_⟩
      rintro x H3 ⟨rfl, rfl⟩
      refine name_yes_if ?_
      refine ⟨_, rfl, _, rfl, _, _, rfl, rfl, _, rfl, _, _, rfl, rfl, _, rfl, a, ns, _, _, rfl, (same_upd hD).seq hs1, hl, by omega, by omega, t0, fun r r0 r1 => ⟨upd_same, hi, ⟨rs ++ [r], ?_, ?_, ?_⟩, ?_, _, rfl⟩⟩
      · exact iL_snoc rs r
      · rw [List.length_append, hrl]
        rfl
      · intro v hv
        rcases List.mem_append.mp hv with z | z
        · exact hnn v z
        · rw [List.mem_singleton.mp z]
          omega
      · rw [upd_upd]
    rintro ys τ H' ⟨_, ⟨rs, rfl, hrl, hnn⟩, rfl, o, rfl⟩
    refine ⟨Nat.le_refl _, ?_⟩
    have s2 := same_upd (o := .lst (iL rs)) hD
    have hs2 := s2.seq hs1
    have hd2 : (upd H1 D (.lst (iL rs))) D = some (.lst (iL rs)) := upd_same
    have s12 := s1.trans s2
    generalize upd H1 D (.lst (iL rs)) = H2 at s2 hs2 hd2 s12 ⊢
    -- waters
    refine ⟨_, rfl, _, rfl, by omega, by omega, fun W hW => ?_⟩
    rw [en]
    refine comp_by n (sz100 (by omega)) (fun i ys τ H' => i ≤ n ∧ (∃ ws : List Int, ys = iL ws ∧ ws.length = i ∧ ∀ (j : Nat) (r v : Int), rs[j]? = some r → ws[j]? = some v → 0 ≤ v ∧ v ≤ r) ∧ H' = upd H2 W (.lst ys) ∧ ∃ o, τ = [o, some (.ref a), some (.int b), some (.ref D)]) ?_ ?_ ?_ ?_
    · exact ⟨Nat.zero_le _, ⟨[], rfl, rfl, fun j r v _ h => by simp at h⟩, rfl, none, rfl⟩
    · rintro i ys τ H' ⟨hi, ⟨ws, rfl, hwl, _⟩, rfl, _⟩
      exact ⟨upd_same, by rw [List.length_map, hwl]; exact Nat.le_refl _⟩
    · rintro i ys τ H' hi ⟨_, ⟨ws, rfl, hwl, hww⟩, rfl, o, rfl⟩
      have sw := same_upd (o := .lst (iL ws)) hW
      have hir : i < rs.length := by omega
      have ev : (iL rs)[i]? = some (.int rs[i]) := by simp [hir]
      have e0 : (0 : Int) + (i : Int) = (i : Int) := by omega
      have hge := hnn _ (List.getElem_mem hir)
      refine ⟨hi, ?_⟩
      rintro x H3 ⟨rfl, rfl⟩
      refine name_yes_if ?_
      refine ⟨_, rfl, _, rfl, _, _, rfl, rfl, _, rfl, _, _, rfl, rfl, _, rfl, _, rfl, D, _, _, .int rs[i], rfl, rfl, SqL.of (sw _ _ hd2), (by rw [e0]; exact atI_nat ev), _, _, rfl, rfl, a, ns, _, _, rfl, sw.seq hs2, hl, by omega, by omega, by omega, fun r r0 r1 => ⟨upd_same, hi, ⟨ws ++ [r], ?_, ?_, ?_⟩, ?_, _, rfl⟩⟩
      · exact iL_snoc ws r
      · rw [List.length_append, hwl]
        rfl
      · intro j r' v h1 h2
        by_cases hj : j < ws.length
        · rw [List.getElem?_append_left hj] at h2
          exact hww j r' v h1 h2
        · have hji : j = i := by
            have := (List.getElem?_eq_some_iff.mp h2).1
            rw [List.length_append] at this
            have : j < ws.length + 1 := this
            omega
          subst hji
          rw [List.getElem?_append_right (by omega), show j - ws.length = 0 by omega] at h2
          cases h2
          rw [List.getElem?_eq_getElem hir] at h1
          cases h1
          omega
      · rw [upd_upd]
    rintro ys τ H' ⟨_, ⟨ws, rfl, hwl, hww⟩, rfl, o, rfl⟩
    refine ⟨Nat.le_refl _, ?_⟩
    have s3 := same_upd (o := .lst (iL ws)) hW
    refine ⟨_, rfl, _, rfl, (by show 2 ≤ sizeLine; decide), fun t ht => ?_⟩
    have s4 := same_upd (o := .tup [.ref D, .ref W]) ht
    refine k t D W rs ws _ ((s12.trans s3).free ht) (s1.free hD) (s12.free hW) (ne_of_none hd2 hW) upd_same (s4 _ _ (s3 _ _ hd2)) (s4 _ _ upd_same) ⟨by omega, by omega, by omega, fun i r v e1 e2 => ?_⟩ (s12.trans (s3.trans s4))
    have h1 := hnn _ (List.mem_of_getElem? e1)
    have h2 := hww i r v e1 e2
    omega
end
end Z

set_option Elab.async false
set_option linter.all false
set_option maxRecDepth 100000
set_option maxHeartbeats 8000000
namespace Z
open PySem L2
section
variable {P : Program} {w : World} {K : PySem.W.Frag} {mg : Str → Option Value} {base : Heap} {C cY cB cD cL cT : Addr}
abbrev A3 := Addr × Addr × Addr
def rowsOf (as : List A3) : List Addr := as.flatMap fun a => [a.2.1, a.2.2]
/-- a list of days: each a pair of two lists, no two lists one -/
structure DaysAt (H : Hp) (l : Addr) (as : List A3) (ds : List (List Int × List Int)) : Prop where
  len : as.length = ds.length
  lst : H l = some (.lst (as.map fun a => .ref a.1))
  tup : ∀ a ∈ as, H a.1 = some (.tup [.ref a.2.1, .ref a.2.2])
  row : ∀ (i : Nat) (a : A3) (d : List Int × List Int), as[i]? = some a → ds[i]? = some d → H a.2.1 = some (.lst (iL d.1)) ∧ H a.2.2 = some (.lst (iL d.2))
  nd : (rowsOf as).Nodup
theorem mem_rows {as : List A3} {b : Addr} : b ∈ rowsOf as ↔ ∃ a ∈ as, b = a.2.1 ∨ b = a.2.2 := by
  unfold rowsOf
  rw [List.mem_flatMap]
  constructor
  · rintro ⟨a, ha, h⟩
    simp only [List.mem_cons, List.not_mem_nil, or_false] at h
    exact ⟨a, ha, h⟩
  · rintro ⟨a, ha, h⟩
    exact ⟨a, ha, by simpa using h⟩
theorem DaysAt.rowIn {H : Hp} {l : Addr} {as : List A3} {ds : List (List Int × List Int)} (D : DaysAt H l as ds) {b : Addr} (h : b ∈ rowsOf as) : ∃ vs, H b = some (.lst (iL vs)) := by
  obtain ⟨a, ha, hb⟩ := mem_rows.mp h
  obtain ⟨i, hi, e⟩ := List.mem_iff_getElem.mp ha
  have hd : i < ds.length := by rw [← D.len]; exact hi
  have := D.row i a ds[i] (by rw [← e]; exact List.getElem?_eq_getElem hi) (List.getElem?_eq_getElem hd)
  rcases hb with rfl | rfl
  · exact ⟨_, this.1⟩
  · exact ⟨_, this.2⟩
/-- a day more -/
theorem DaysAt.more {H H' : Hp} {l t p q : Addr} {as : List A3} {ds : List (List Int × List Int)} {ra wi : List Int} (D : DaysAt H l as ds) (hp : H p = none) (hq : H q = none) (hpq : p ≠ q)
    (hl : H' l = some (.lst ((as.map fun a => V.ref a.1) ++ [.ref t]))) (ht : H' t = some (.tup [.ref p, .ref q])) (hp' : H' p = some (.lst (iL ra))) (hq' : H' q = some (.lst (iL wi)))
    (hk : ∀ b o, H b = some o → b ≠ l → H' b = some o) (hln : ∀ a ∈ as, l ≠ a.2.1 ∧ l ≠ a.2.2) : DaysAt H' l (as ++ [(t, p, q)]) (ds ++ [(ra, wi)]) := by
  refine ⟨by rw [List.length_append, List.length_append, D.len]; rfl, by rw [hl, List.map_append]; rfl, fun a ha => ?_, fun i a d e1 e2 => ?_, ?_⟩
  · rcases List.mem_append.mp ha with z | z
    · exact hk _ _ (D.tup a z) (ne_of (D.tup a z) D.lst (by nofun))
    · rw [List.mem_singleton.mp z]
      exact ht
  · by_cases hi : i < as.length
    · rw [List.getElem?_append_left hi] at e1
      rw [List.getElem?_append_left (by rw [← D.len]; exact hi)] at e2
      have := D.row i a d e1 e2
      have hn := hln a (List.mem_of_getElem? e1)
      exact ⟨hk _ _ this.1 hn.1.symm, hk _ _ this.2 hn.2.symm⟩
    · have hi2 : i = as.length := by
        have := (List.getElem?_eq_some_iff.mp e1).1
        rw [List.length_append] at this
        have : i < as.length + 1 := this
        omega
      subst hi2
      rw [List.getElem?_append_right (Nat.le_refl _), Nat.sub_self] at e1
      rw [List.getElem?_append_right (by rw [D.len]; exact Nat.le_refl _), D.len, Nat.sub_self] at e2
      cases e1
      cases e2
      exact ⟨hp', hq'⟩
  · have e : rowsOf (as ++ [(t, p, q)]) = rowsOf as ++ [p, q] := by unfold rowsOf; rw [List.flatMap_append]; rfl
    rw [e, List.nodup_append]
    refine ⟨D.nd, by simp [hpq], fun b hb c hc => ?_⟩
    obtain ⟨vs, hv⟩ := D.rowIn hb
    simp only [List.mem_cons, List.not_mem_nil, or_false] at hc
    rcases hc with rfl | rfl
    · exact ne_of_none hv hp
    · exact ne_of_none hv hq
def spDaysBy (K : PySem.W.Frag) : Sp := fun vs H Q _ => ∃ (a : Addr) (ns : List Int) (b : Int) (n m : Nat), vs = [.ref a, .int b, .int n, .int m] ∧ SqL K H a (iL ns) ∧ ns.length ≤ 63 ∧ 0 ≤ b ∧ b ≤ 1000 ∧ n ≤ 4 ∧ m ≤ 8 ∧
  ∀ (l : Addr) (as : List A3) (ds : List (List Int × List Int)) (H' : Hp), H l = none → (∀ x ∈ as, H x.1 = none ∧ H x.2.1 = none ∧ H x.2.2 = none) → (∀ x ∈ as, l ≠ x.2.1 ∧ l ≠ x.2.2) → DaysAt H' l as ds → ds.length ≤ m → (∀ d ∈ ds, DayOk n d.1 d.2) → Same H H' → Q (.ref l) H'
theorem scDb : FnScope ["script", "base", "many", "bound", "top", "days", "number", "rain", "wishes"] ["script", "base", "many", "bound"] (defScope sDaysBy) := ⟨rfl, rfl, rfl, by decide +kernel, rfl, by decide +kernel, by decide +kernel⟩
theorem ndD1 : (["k", "script", "base", "number", "top"] : List Str).Nodup := by decide +kernel
theorem ndD2 : (["one"] : List Str).Nodup := by decide +kernel
theorem ok_db {f fD : Addr} {fd fdD : FuncData} (F : Fun K "_law_days_by" "_law_days_by" sDaysBy f fd) (T : Txt K mg C cY cB cD cL cT) (FD : Fun K "_law_drawn" "_law_drawn" sDrawn fD fdD) (bD : Binds K fdD ["script", "k", "many"] []) (mD : mg "_law_drawn" = some (.ref fD)) :
    FnOk P w K mg base CX0 2 f fd ["script", "base", "many", "bound"] (spDaysBy K) := by
  have GD : FnOk P w K mg base CX0 1 fD fdD ["script", "k", "many"] (spDrawn K) := ok_dr FD T
  refine F.ok scDb (fun vs H Q E h => ?_) (fun cdv A outer s H vs Q E hr h => ?_)
  · obtain ⟨a, ns, b, n, m, rfl, _⟩ := h
    rfl
  · obtain ⟨a, ns, b, n, m, rfl, hs, hl, hb0, hb1, hn4, hm8, k⟩ := h
    show let X9 := _; let E9 := _; ∃ t, PSs X9 (defBody sDaysBy) t ∧ t E9 _ _
    intro X9 E9
    let x1_3 : SB9 X9 ((fB9 (defBody sDaysBy) 2)) 3 := ⟨_, pss_one (ps_expr (pe_bm PySem.F.plainAttrs_list PySem.F.slot_list_append PySem.F.type_list_append mt_append (pv 5) (pa_cons (pe_tup (pa_cons (pv 7) (pa_cons (pv 8) pa_nil))) pa_nil)))⟩
    let tx1_3 : TS := x1_3.1
    have px1_3 : PSs X9 (List.drop 3 ((fB9 (defBody sDaysBy) 2))) tx1_3 := x1_3.2
    let x1_2 : SB9 X9 ((fB9 (defBody sDaysBy) 2)) 2 := ⟨_, pss_cons (ps_if (pt_cmpR op_eq (pe_call GD hr (by rfl) mD FD.kp bD .nil pass0 (pa_cons (pv 0) (pa_cons (pe_op op_add (pv 1) pe_int) (pa_cons pe_int pa_nil)))) pe_int (nomark _))
            (pss_one (ps_setC (i := 8) scDb.nd rfl (Or.inl rfl) (N := ["one"]) (cap := [none]) rfl (.of (by rfl)) (pi_list (pv 8)) (fun _ _ _ _ => pg_name (i := 0) ndD2 rfl (Or.inl rfl)) (fun _ _ _ _ => pts_nil)
              (fun _ _ _ _ => pe_callB (call_min2 rfl) (by rfl) T.min boot_min (pa_cons pe_int (pa_cons (pe_op op_mul pe_int (pv 0)) pa_nil))))) pss_nil) px1_3⟩
    let tx1_2 : TS := x1_2.1
    have px1_2 : PSs X9 (List.drop 2 ((fB9 (defBody sDaysBy) 2))) tx1_2 := x1_2.2
    let x1_1 : SB9 X9 ((fB9 (defBody sDaysBy) 2)) 1 := ⟨_, pss_cons (ps_setC (i := 8) scDb.nd rfl (Or.inl rfl) (N := ["k", "script", "base", "number", "top"]) (cap := [none, some 0, some 1, some 6, some 4]) rfl (.of (by rfl)) (pi_range1 (by rfl) T.range (pa_cons (pv 2) pa_nil))
            (fun _ _ _ _ => pg_name (i := 0) ndD1 rfl (Or.inl rfl)) (fun _ _ _ _ => pts_nil)
            (fun _ _ _ _ => pe_call GD hr (by rfl) mD FD.kp bD .nil pass0 (pa_cons (pv 1) (pa_cons (pe_op op_add (pe_op op_add (pe_op op_add (pv 2) pe_int) (pe_op op_mul pe_int (pv 3))) (pv 0)) (pa_cons (pv 4) pa_nil))))) px1_2⟩
    let tx1_1 : TS := x1_1.1
    have px1_1 : PSs X9 (List.drop 1 ((fB9 (defBody sDaysBy) 2))) tx1_1 := x1_1.2
    let x1_0 : SB9 X9 ((fB9 (defBody sDaysBy) 2)) 0 := ⟨_, pss_cons (ps_setC (i := 7) scDb.nd rfl (Or.inl rfl) (N := ["k", "script", "base", "number", "top"]) (cap := [none, some 0, some 1, some 6, some 4]) rfl (.of (by rfl)) (pi_range1 (by rfl) T.range (pa_cons (pv 2) pa_nil))
            (fun _ _ _ _ => pg_name (i := 0) ndD1 rfl (Or.inl rfl)) (fun _ _ _ _ => pts_nil)
            (fun _ _ _ _ => pe_call GD hr (by rfl) mD FD.kp bD .nil pass0 (pa_cons (pv 1) (pa_cons (pe_op op_add (pe_op op_add (pe_op op_add (pv 2) pe_int) (pe_op op_mul pe_int (pv 3))) (pv 0)) (pa_cons (pv 4) pa_nil))))) px1_1⟩
    let tx1_0 : TS := x1_0.1
    have px1_0 : PSs X9 (List.drop 0 ((fB9 (defBody sDaysBy) 2))) tx1_0 := x1_0.2
    let x2_3 : SB9 X9 (defBody sDaysBy) 3 := ⟨_, pss_one (ps_ret (pv 5))⟩
    let tx2_3 : TS := x2_3.1
    have px2_3 : PSs X9 (List.drop 3 (defBody sDaysBy)) tx2_3 := x2_3.2
    let x2_2 : SB9 X9 (defBody sDaysBy) 2 := ⟨_, pss_cons (ps_for PassesOwn.never rfl (pi_range1 (by rfl) T.range (pa_cons (pe_call GD hr (by rfl) mD FD.kp bD .nil pass0 (pa_cons (pv 0) (pa_cons (pe_op op_add (pv 1) pe_int) (pa_cons (pe_op op_add (pv 3) pe_int) pa_nil)))) pa_nil)) (pg_name (i := 6) scDb.nd rfl (Or.inr rfl)) px1_0) px2_3⟩
    let tx2_2 : TS := x2_2.1
    have px2_2 : PSs X9 (List.drop 2 (defBody sDaysBy)) tx2_2 := x2_2.2
    let x2_1 : SB9 X9 (defBody sDaysBy) 1 := ⟨_, pss_cons (ps_set (i := 5) scDb.nd rfl (Or.inl rfl) (pe_lst pa_nil)) px2_2⟩
    let tx2_1 : TS := x2_1.1
    have px2_1 : PSs X9 (List.drop 1 (defBody sDaysBy)) tx2_1 := x2_1.2
    let x2_0 : SB9 X9 (defBody sDaysBy) 0 := ⟨_, pss_cons (ps_set (i := 4) scDb.nd rfl (Or.inr rfl) (pe_ix ix_list (pe_lst (pa_cons pe_int (pa_cons pe_int (pa_cons pe_int pa_nil)))) (pe_call GD hr (by rfl) mD FD.kp bD .nil pass0 (pa_cons (pv 0) (pa_cons (pv 1) (pa_cons pe_int pa_nil)))) (fun _ _ => rfl))) px2_1⟩
    let tx2_0 : TS := x2_0.1
    have px2_0 : PSs X9 (List.drop 0 (defBody sDaysBy)) tx2_0 := x2_0.2
    refine ⟨tx2_0, px2_0, ?_⟩
    -- top
    refine ⟨(by show 3 ≤ sizeLine; decide), fun l hl0 => ?_⟩
    have s1 := same_upd (o := .lst [.int 4, .int 10, .int 31]) hl0
    refine ⟨_, rfl, _, rfl, a, ns, _, _, rfl, s1.seq hs, hl, by omega, by omega, by decide, fun c c0 c1 => ?_⟩
    obtain ⟨top, htop, t0, t1⟩ : ∃ top : Int, atI [V.int 4, .int 10, .int 31] c = some (.int top) ∧ 0 < top ∧ top ≤ 31 := by
      have hc : c = 0 ∨ c = 1 ∨ c = 2 := by omega
      rcases hc with rfl | rfl | rfl
      · exact ⟨4, rfl, by decide, by decide⟩
      · exact ⟨10, rfl, by decide, by decide⟩
      · exact ⟨31, rfl, by decide, by decide⟩
    refine ⟨l, _, _, _, rfl, rfl, SqL.of upd_same, htop, ?_⟩
    have hs1 := s1.seq hs
    generalize upd H l (.lst [.int 4, .int 10, .int 31]) = H1 at s1 hs1 ⊢
    -- days = []
    refine ⟨Nat.zero_le _, fun d hd => ?_⟩
    have s2 := same_upd (o := .lst []) hd
    refine ⟨_, rfl, _, rfl, _, _, rfl, rfl, _, rfl, _, _, rfl, rfl, a, ns, _, _, rfl, s2.seq hs1, hl, by omega, by omega, by omega, fun cnt n0 n1 => ⟨_, rfl, by omega, by omega, ?_⟩⟩
    obtain ⟨cn, ecn⟩ : ∃ cn : Nat, cnt.toNat = cn := ⟨_, rfl⟩
    rw [ecn]
    have hcm : cn ≤ m := by omega
    refine for_range (n := cn) (fun i σ H' => i ≤ cn ∧ Same H1 H' ∧ (∃ (as : List A3) (ds : List (List Int × List Int)), ds.length = i ∧ DaysAt H' d as ds ∧ (∀ x ∈ as, H1 x.1 = none ∧ H1 x.2.1 = none ∧ H1 x.2.2 = none) ∧ (∀ x ∈ as, d ≠ x.2.1 ∧ d ≠ x.2.2) ∧ ∀ x ∈ ds, DayOk n x.1 x.2) ∧
      ∃ o6 o7 o8, σ = [some (.ref a), some (.int b), some (.int n), some (.int m), some (.int top), some (.ref d), o6, o7, o8]) ?_ ?_ ?_
    · exact ⟨Nat.zero_le _, s2, ⟨[], [], rfl, ⟨rfl, upd_same, by simp, fun i a d h => by simp at h, List.nodup_nil⟩, by simp, by simp, by simp⟩, none, none, none, rfl⟩
    · rintro i σ H' hi ⟨_, s3, ⟨as, ds, hdl, DA, fr, dn, dok⟩, o6, o7, o8, rfl⟩
      have hs3 := s3.seq hs1
      have en : (n : Int).toNat = n := by omega
      -- rain
      refine ⟨_, rfl, _, rfl, by omega, by omega, fun p hp => ?_⟩
      rw [en]
      refine comp_by n (sz100 (by omega)) (fun j ys τ H4 => j ≤ n ∧ (∃ ra : List Int, ys = iL ra ∧ ra.length = j ∧ ∀ v ∈ ra, 0 ≤ v ∧ v ≤ 30) ∧ H4 = upd H' p (.lst ys) ∧ ∃ o, τ = [o, some (.ref a), some (.int b), some (.int (0 + (i : Int))), some (.int top)]) ?_ ?_ ?_ ?_
      · exact ⟨Nat.zero_le _, ⟨[], rfl, rfl, by simp⟩, rfl, none, rfl⟩
      · rintro j ys τ H4 ⟨hj, ⟨ra, rfl, hrl, _⟩, rfl, _⟩
        exact ⟨upd_same, by rw [List.length_map, hrl]; exact Nat.le_refl _⟩
      · rintro j ys τ H4 hj ⟨_, ⟨ra, rfl, hrl, hnn⟩, rfl, o, rfl⟩
        refine ⟨hj, ?_⟩
        rintro x H3 ⟨rfl, rfl⟩
        refine name_yes_if ?_
        refine ⟨_, rfl, _, rfl, _, _, rfl, rfl, _, rfl, _, _, rfl, rfl, .inl ⟨by decide, by decide⟩, _, _, rfl, rfl, _, rfl, _, _, rfl, rfl, _, rfl, a, ns, _, _, rfl, (same_upd hp).seq hs3, hl, by omega, by omega, t0, fun r r0 r1 => ⟨upd_same, hj, ⟨ra ++ [r], iL_snoc ra r, ?_, ?_⟩, ?_, _, rfl⟩⟩
        · rw [List.length_append, hrl]
          rfl
        · intro v hv
          rcases List.mem_append.mp hv with z | z
          · exact hnn v z
          · rw [List.mem_singleton.mp z]
            omega
        · rw [upd_upd]
      rintro ys τ H4 ⟨_, ⟨ra, rfl, hrl, hra⟩, rfl, o, rfl⟩
      refine ⟨Nat.le_refl _, ?_⟩
      have s4 := same_upd (o := .lst (iL ra)) hp
      have s34 := s3.trans s4
      have hs4 := s4.seq hs3
      have hp4 : (upd H' p (.lst (iL ra))) p = some (.lst (iL ra)) := upd_same
      generalize upd H' p (.lst (iL ra)) = H5 at s4 s34 hs4 hp4 ⊢
      -- wishes
      refine ⟨_, rfl, _, rfl, by omega, by omega, fun q hq => ?_⟩
      rw [en]
      refine comp_by n (sz100 (by omega)) (fun j ys τ H4 => j ≤ n ∧ (∃ wi : List Int, ys = iL wi ∧ wi.length = j ∧ ∀ v ∈ wi, 0 ≤ v ∧ v ≤ 30) ∧ H4 = upd H5 q (.lst ys) ∧ ∃ o, τ = [o, some (.ref a), some (.int b), some (.int (0 + (i : Int))), some (.int top)]) ?_ ?_ ?_ ?_
      · exact ⟨Nat.zero_le _, ⟨[], rfl, rfl, by simp⟩, rfl, none, rfl⟩
      · rintro j ys τ H4 ⟨hj, ⟨wi, rfl, hrl, _⟩, rfl, _⟩
        exact ⟨upd_same, by rw [List.length_map, hrl]; exact Nat.le_refl _⟩
      · rintro j ys τ H4 hj ⟨_, ⟨wi, rfl, hwl, hnn⟩, rfl, o, rfl⟩
        refine ⟨hj, ?_⟩
        rintro x H3 ⟨rfl, rfl⟩
        refine name_yes_if ?_
        refine ⟨_, rfl, _, rfl, _, _, rfl, rfl, _, rfl, _, _, rfl, rfl, .inl ⟨by decide, by decide⟩, _, _, rfl, rfl, _, rfl, _, _, rfl, rfl, _, rfl, a, ns, _, _, rfl, (same_upd hq).seq hs4, hl, by omega, by omega, t0, fun r r0 r1 => ⟨upd_same, hj, ⟨wi ++ [r], iL_snoc wi r, ?_, ?_⟩, ?_, _, rfl⟩⟩
        · rw [List.length_append, hwl]
          rfl
        · intro v hv
          rcases List.mem_append.mp hv with z | z
          · exact hnn v z
          · rw [List.mem_singleton.mp z]
            omega
        · rw [upd_upd]
      rintro ys τ H4 ⟨_, ⟨wi, rfl, hwl, hwi⟩, rfl, o, rfl⟩
      refine ⟨Nat.le_refl _, ?_⟩
      have s5 := same_upd (o := .lst (iL wi)) hq
      have hs5 := s5.seq hs4
      have hq5 : (upd H5 q (.lst (iL wi))) q = some (.lst (iL wi)) := upd_same
      have hp5 := s5 _ _ hp4
      have s45 := s4.trans s5
      have hq' : H' q = none := s4.free hq
      have npq : p ≠ q := ne_of_none hp4 hq
      generalize upd H5 q (.lst (iL wi)) = H6 at s5 hs5 hq5 hp5 s45 ⊢
      refine ⟨_, rfl, _, rfl, _, _, rfl, rfl, a, ns, _, _, rfl, hs5, hl, by omega, by omega, by decide, fun e e0 e1 => ⟨rfl, _, rfl, ?_⟩⟩
      -- the day is put in
      have fin : ∀ (q2 : Addr) (wi2 : List Int) (H7 : Hp) (t : Addr), Same H' H7 → H' q2 = none → p ≠ q2 → H7 p = some (.lst (iL ra)) → H7 q2 = some (.lst (iL wi2)) → RowOk n wi2 → H7 t = none →
          (Same H1 (upd (upd H7 t (.tup [.ref p, .ref q2])) d (.lst ((as.map fun a => V.ref a.1) ++ [.ref t]))) ∧ ∃ (as' : List A3) (ds' : List (List Int × List Int)), ds'.length = i + 1 ∧ DaysAt (upd (upd H7 t (.tup [.ref p, .ref q2])) d (.lst ((as.map fun a => V.ref a.1) ++ [.ref t]))) d as' ds' ∧
            (∀ x ∈ as', H1 x.1 = none ∧ H1 x.2.1 = none ∧ H1 x.2.2 = none) ∧ (∀ x ∈ as', d ≠ x.2.1 ∧ d ≠ x.2.2) ∧ ∀ x ∈ ds', DayOk n x.1 x.2) := by
        intro q2 wi2 H7 t sH hq2 hpq2 hp7 hq7 hro ht7
        have dt : d ≠ t := ne_of_none (sH _ _ DA.lst) ht7
        have dp : d ≠ p := ne_of_none DA.lst hp
        have dq : d ≠ q2 := ne_of_none DA.lst hq2
        refine ⟨fun b o z => ?_, as ++ [(t, p, q2)], ds ++ [(ra, wi2)], by rw [List.length_append, hdl]; rfl, ?_, fun x hx => ?_, fun x hx => ?_, fun x hx => ?_⟩
        · have z7 := sH _ _ (s3 _ _ z)
          rw [upd_ne (ne_of_none z hd), upd_ne (ne_of_none z7 ht7)]
          exact z7
        · refine DA.more hp hq2 hpq2 upd_same (by rw [upd_ne dt.symm, upd_same]) (by rw [upd_ne dp.symm, upd_ne (ne_of_none hp7 ht7)]; exact hp7) (by rw [upd_ne dq.symm, upd_ne (ne_of_none hq7 ht7)]; exact hq7) (fun b o z hb => ?_) dn
          rw [upd_ne hb, upd_ne (ne_of_none (sH _ _ z) ht7)]
          exact sH _ _ z
        · rcases List.mem_append.mp hx with z | z
          · exact fr x z
          · rw [List.mem_singleton.mp z]
            exact ⟨(s3.trans sH).free ht7, s3.free hp, s3.free hq2⟩
        · rcases List.mem_append.mp hx with z | z
          · exact dn x z
          · rw [List.mem_singleton.mp z]
            exact ⟨dp, dq⟩
        · rcases List.mem_append.mp hx with z | z
          · exact dok x z
          · rw [List.mem_singleton.mp z]
            exact ⟨⟨hrl, hra⟩, hro⟩
      have hal : (as.map fun a => V.ref a.1).length < 1000 := by rw [List.length_map, DA.len]; omega
      refine ite2 (fun h1 => ?_) (fun h1 => ?_)
      · -- wishes doubled
        refine ⟨_, rfl, q, rfl, ⟨_, SqL.of hq5⟩, fun q2 hq2 => ?_⟩
        have nqq : q ≠ q2 := ne_of_none hq5 hq2
        refine comp_by wi.length (sz100 (by omega)) (fun j ys τ H4 => j ≤ wi.length ∧ (∃ w2 : List Int, ys = iL w2 ∧ w2.length = j ∧ ∀ v ∈ w2, 0 ≤ v ∧ v ≤ 30) ∧ H4 = upd H6 q2 (.lst ys) ∧ ∃ o, τ = [o]) ?_ ?_ ?_ ?_
        · exact ⟨Nat.zero_le _, ⟨[], rfl, rfl, by simp⟩, rfl, none, rfl⟩
        · rintro j ys τ H4 ⟨hj, ⟨w2, rfl, hrl, _⟩, rfl, _⟩
          exact ⟨upd_same, by rw [List.length_map, hrl]; exact Nat.le_refl _⟩
        · rintro j ys τ H4 hj ⟨_, ⟨w2, rfl, hw2, hnn⟩, rfl, o, rfl⟩
          have hq8 : (upd H6 q2 (.lst (iL w2))) q = some (.lst (iL wi)) := by rw [upd_ne nqq]; exact hq5
          refine ⟨⟨iL wi, _, SqL.of hq8, iL_at hj⟩, ?_⟩
          rintro x H3 ⟨rfl, hx⟩
          have ex := Option.some.inj ((hx _ (SqL.of hq8)).symm.trans (iL_at hj))
          subst ex
          refine name_yes_if ?_
          refine ⟨_, rfl, _, _, rfl, rfl, .inl ⟨by decide, by decide⟩, _, _, rfl, ?_⟩
          rw [py_min]
          have hv := hwi _ (List.getElem_mem hj)
          have hgi : gI wi j = wi[j] := gI_at (List.getElem?_eq_getElem hj)
          refine ⟨upd_same, hj, ⟨w2 ++ [_], iL_snoc w2 _, ?_, ?_⟩, ?_, _, rfl⟩
          · rw [List.length_append, hw2]
            rfl
          · intro v hv2
            rcases List.mem_append.mp hv2 with z | z
            · exact hnn v z
            · rw [List.mem_singleton.mp z]
              omega
          · rw [upd_upd]
        rintro ys τ H4 ⟨_, ⟨w2, rfl, hw2, hnn⟩, rfl, o, rfl⟩
        have hq8 : (upd H6 q2 (.lst (iL w2))) q = some (.lst (iL wi)) := by rw [upd_ne nqq]; exact hq5
        refine ⟨⟨iL wi, SqL.of hq8, by rw [List.length_map]; exact Nat.le_refl _⟩, ?_⟩
        have s6 := same_upd (o := .lst (iL w2)) hq2
        have dl6 := s45 _ _ DA.lst
        refine ⟨_, rfl, .inl ⟨rfl, _, SqL.of (s6 _ _ dl6)⟩, _, rfl, _, rfl, (by show 2 ≤ sizeLine; decide), fun t ht => ?_⟩
        have := fin q2 w2 _ t (s45.trans s6) (s45.free hq2) (ne_of_none hp5 hq2) (s6 _ _ hp5) upd_same ⟨by omega, hnn⟩ ht
        exact ⟨d, _, _, rfl, rfl, (same_upd ht) _ _ (s6 _ _ dl6), small1000 (by omega), hi, this.1, this.2, _, _, _, rfl⟩
      · have dl6 := s45 _ _ DA.lst
        refine ⟨_, rfl, .inl ⟨rfl, _, SqL.of dl6⟩, _, rfl, _, rfl, (by show 2 ≤ sizeLine; decide), fun t ht => ?_⟩
        have := fin q wi _ t s45 hq' npq hp5 hq5 ⟨hwl, hwi⟩ ht
        exact ⟨d, _, _, rfl, rfl, (same_upd ht) _ _ dl6, small1000 (by omega), hi, this.1, this.2, _, _, _, rfl⟩
    · rintro σ H' ⟨_, s3, ⟨as, ds, hdl, DA, fr, dn, dok⟩, o6, o7, o8, rfl⟩
      refine ⟨_, rfl, k d as ds H' (s1.free hd) (fun x hx => ?_) dn DA (by omega) dok (s1.trans s3)⟩
      have := fr x hx
      exact ⟨s1.free this.1, s1.free this.2.1, s1.free this.2.2⟩
end
end Z

set_option Elab.async false
set_option linter.all false
set_option maxRecDepth 100000
set_option maxHeartbeats 8000000
namespace Z
open PySem L2
/-! ### days by themselves -/
abbrev Day := List Int × List Int
def oneDay (rs h : List Int) (d : Day) : List Int × List Int × Int := (drL rs h d.1 d.2 rs.length, kpL rs h d.1 d.2 rs.length, fallAt rs h d.1 d.2 rs.length)
def endOf (rs : List Int) : List Int → List Day → List Int
  | ws, [] => ws
  | ws, d :: ds => endOf rs (kpL rs ws d.1 d.2 rs.length) ds
def planOf (rs : List Int) : List Int → List Day → List (List Int × List Int × Int)
  | _, [] => []
  | ws, d :: ds => oneDay rs ws d :: planOf rs (kpL rs ws d.1 d.2 rs.length) ds
theorem endOf_snoc (rs : List Int) (d : Day) : ∀ (ds : List Day) (ws : List Int), endOf rs ws (ds ++ [d]) = kpL rs (endOf rs ws ds) d.1 d.2 rs.length
  | [], _ => rfl
  | e :: ds, ws => endOf_snoc rs d ds _
theorem planOf_snoc (rs : List Int) (d : Day) : ∀ (ds : List Day) (ws : List Int), planOf rs ws (ds ++ [d]) = planOf rs ws ds ++ [oneDay rs (endOf rs ws ds) d]
  | [], _ => rfl
  | e :: ds, ws => by
    show oneDay rs ws e :: planOf rs _ (ds ++ [d]) = oneDay rs ws e :: (planOf rs _ ds ++ [oneDay rs (endOf rs _ ds) d])
    rw [planOf_snoc rs d ds]
theorem planOf_len (rs : List Int) : ∀ (ds : List Day) (ws : List Int), (planOf rs ws ds).length = ds.length
  | [], _ => rfl
  | e :: ds, ws => by
    show (planOf rs _ ds).length + 1 = ds.length + 1
    rw [planOf_len rs ds]
theorem endOf_len (rs : List Int) : ∀ (ds : List Day) (ws : List Int), ws.length = rs.length → (endOf rs ws ds).length = rs.length
  | [], _, h => h
  | e :: ds, ws, h => endOf_len rs ds _ (kpL_len ..)
/-- held in the midst of a day -/
def mid (rs h ra wi : List Int) (i : Nat) : List Int := kpL rs h ra wi i ++ h.drop i
theorem mid_len {rs h ra wi : List Int} {i : Nat} (hi : i ≤ h.length) : (mid rs h ra wi i).length = h.length := by
  unfold mid
  rw [List.length_append, kpL_len, List.length_drop]
  omega
theorem mid_at {rs h ra wi : List Int} {i : Nat} (hi : i < h.length) : (mid rs h ra wi i)[i]? = some (gI h i) := by
  unfold mid
  rw [List.getElem?_append_right (by rw [kpL_len]; exact Nat.le_refl _), kpL_len, Nat.sub_self, List.getElem?_drop, Nat.add_zero, List.getElem?_eq_getElem hi, gI_at (List.getElem?_eq_getElem hi)]
theorem mid_set {rs h ra wi : List Int} {i : Nat} (hi : i < h.length) : (mid rs h ra wi i).set i (kpAt rs h ra wi i) = mid rs h ra wi (i + 1) := by
  unfold mid
  rw [kpL_succ, List.set_append_right _ _ (by rw [kpL_len]; exact Nat.le_refl _), kpL_len, Nat.sub_self, List.drop_eq_getElem_cons hi, List.append_assoc]
  rfl
theorem mid_now {rs h ra wi : List Int} {i : Nat} : (mid rs h ra wi (i + 1))[i]? = some (kpAt rs h ra wi i) := by
  unfold mid
  rw [kpL_succ, List.getElem?_append_left (by rw [List.length_append, kpL_len]; exact Nat.lt_succ_self _), List.getElem?_append_right (by rw [kpL_len]; exact Nat.le_refl _), kpL_len, Nat.sub_self]
  rfl
theorem drL_now {rs h ra wi : List Int} {i : Nat} : (drL rs h ra wi (i + 1))[i]? = some (drAt rs h ra wi i) := by
  rw [drL_succ, List.getElem?_append_right (by rw [drL_len]; exact Nat.le_refl _), drL_len, Nat.sub_self]
  rfl
theorem mid_zero (rs h ra wi : List Int) : mid rs h ra wi 0 = h := rfl
theorem mid_end {rs h ra wi : List Int} (e : h.length = rs.length) : mid rs h ra wi rs.length = kpL rs h ra wi rs.length := by
  unfold mid
  rw [← e, List.drop_length, List.append_nil]
theorem iL_get2 {l : List Int} {i : Nat} {v : Int} (h : l[i]? = some v) : (iL l)[i]? = some (.int v) := by
  rw [List.getElem?_map, h]
  rfl
section
variable {P : Program} {w : World} {K : PySem.W.Frag} {mg : Str → Option Value} {base : Heap} {C cY cB cD cL cT : Addr}
/-- days that can be read -/
structure DaysR (H : Hp) (l : Addr) (as : List A3) (ds : List Day) : Prop where
  len : as.length = ds.length
  lst : H l = some (.lst (as.map fun a => .ref a.1))
  tup : ∀ a ∈ as, H a.1 = some (.tup [.ref a.2.1, .ref a.2.2])
  row : ∀ (i : Nat) (a : A3) (d : Day), as[i]? = some a → ds[i]? = some d → H a.2.1 = some (.lst (iL d.1)) ∧ H a.2.2 = some (.lst (iL d.2))
theorem DaysR.same {H H' : Hp} {l : Addr} {as : List A3} {ds : List Day} (D : DaysR H l as ds) (e : Same H H') : DaysR H' l as ds :=
  ⟨D.len, e _ _ D.lst, fun a ha => e _ _ (D.tup a ha), fun i a d h1 h2 => ⟨e _ _ (D.row i a d h1 h2).1, e _ _ (D.row i a d h1 h2).2⟩⟩
theorem DaysAt.r {H : Hp} {l : Addr} {as : List A3} {ds : List Day} (D : DaysAt H l as ds) : DaysR H l as ds := ⟨D.len, D.lst, D.tup, D.row⟩
theorem DaysAt.same {H H' : Hp} {l : Addr} {as : List A3} {ds : List Day} (D : DaysAt H l as ds) (e : Same H H') : DaysAt H' l as ds :=
  have R := D.r.same e
  ⟨R.len, R.lst, R.tup, R.row, D.nd⟩
/-- one of the days -/
theorem DaysR.at {H : Hp} {l : Addr} {as : List A3} {ds : List Day} (D : DaysR H l as ds) {i : Nat} (hi : i < ds.length) : ∃ (t p q : Addr) (d : Day), as[i]? = some (t, p, q) ∧ (as.map fun a => V.ref a.1)[i]? = some (.ref t) ∧ ds[i]? = some d ∧ H t = some (.tup [.ref p, .ref q]) ∧ H p = some (.lst (iL d.1)) ∧ H q = some (.lst (iL d.2)) := by
  have hia : i < as.length := by rw [D.len]; exact hi
  have ea := List.getElem?_eq_getElem hia
  have ed := List.getElem?_eq_getElem hi
  have := D.row i _ _ ea ed
  refine ⟨as[i].1, as[i].2.1, as[i].2.2, ds[i], ea, ?_, ed, D.tup _ (List.getElem_mem hia), this.1, this.2⟩
  rw [List.getElem?_map, ea]
  rfl
end
end Z

set_option Elab.async false
set_option linter.all false
set_option maxRecDepth 100000
set_option maxHeartbeats 8000000
namespace Z
open PySem L2
/-! ### plans that hold -/
def flAt (ls ra dr kp : List Int) : Nat → Int
  | 0 => 0
  | i + 1 => flAt ls ra dr kp i + gI ls i + gI ra i - gI dr i - gI kp i
def TankOk (rs ls ra wi dr kp : List Int) (i : Nat) : Prop := ((0 ≤ gI dr i ∧ gI dr i ≤ gI wi i) ∧ (0 ≤ gI kp i ∧ gI kp i ≤ gI rs i)) ∧ 0 ≤ flAt ls ra dr kp (i + 1)
def HoldsDay (rs ls ra wi dr kp : List Int) : Prop := ∀ i, i < rs.length → TankOk rs ls ra wi dr kp i
def PHolds (rs : List Int) : List Int → List Day → List Day → Prop
  | _, [], [] => True
  | ls, d :: ds, p :: ps => p.1.length = rs.length ∧ p.2.length = rs.length ∧ HoldsDay rs ls d.1 d.2 p.1 p.2 ∧ PHolds rs p.2 ds ps
  | _, _, _ => False
theorem drop_at {α : Type} {l : List α} {i : Nat} {d : α} (h : l[i]? = some d) : l.drop i = d :: l.drop (i + 1) := by
  have hi := (List.getElem?_eq_some_iff.mp h)
  obtain ⟨hlt, e⟩ := hi
  rw [List.drop_eq_getElem_cons hlt, e]
/-! ### sums and signs of a day -/
def sumTo (f : Nat → Int) : Nat → Int
  | 0 => 0
  | i + 1 => sumTo f i + f i
theorem sum_snoc (l : List Int) (v : Int) : (l ++ [v]).sum = l.sum + v := by
  induction l with
  | nil => simp
  | cons a l ih => simp only [List.cons_append, List.sum_cons, ih]; omega
theorem sum_take (l : List Int) : ∀ i, i ≤ l.length → (l.take i).sum = sumTo (gI l) i
  | 0, _ => rfl
  | i + 1, h => by
    rw [take_snoc (List.getElem?_eq_getElem (show i < l.length by omega)), sum_snoc, sum_take l i (by omega), ← gI_at (List.getElem?_eq_getElem (show i < l.length by omega))]
    rfl
theorem sum_eq (l : List Int) : l.sum = sumTo (gI l) l.length := by
  rw [← sum_take l _ (Nat.le_refl _), List.take_length]
theorem sum_drL (rs ws ra wi : List Int) : ∀ n, (drL rs ws ra wi n).sum = sumTo (drAt rs ws ra wi) n
  | 0 => rfl
  | n + 1 => by
    rw [drL_succ, sum_snoc, sum_drL rs ws ra wi n]
    rfl
def NN (l : List Int) : Prop := ∀ i, 0 ≤ gI l i
theorem NN.of {l : List Int} (h : ∀ v ∈ l, 0 ≤ v) : NN l := fun i => by
  unfold gI
  rw [List.getD_eq_getElem?_getD]
  cases e : l[i]? with
  | none => exact Int.le_refl 0
  | some v => exact h v (List.mem_of_getElem? e)
theorem fall_nn {rs ws ra wi : List Int} (h1 : NN rs) (h2 : NN ws) (h3 : NN ra) (h4 : NN wi) : ∀ i, 0 ≤ fallAt rs ws ra wi i
  | 0 => Int.le_refl 0
  | i + 1 => by
    have := fall_nn h1 h2 h3 h4 i
    rw [fall_succ]
    have a1 := h1 i
    have a2 := h2 i
    have a3 := h3 i
    have a4 := h4 i
    unfold kpAt drAt thAt
    omega
theorem th_nn {rs ws ra wi : List Int} (h1 : NN rs) (h2 : NN ws) (h3 : NN ra) (h4 : NN wi) (i : Nat) : 0 ≤ thAt rs ws ra wi i := by
  have := fall_nn h1 h2 h3 h4 i
  have a2 := h2 i
  have a3 := h3 i
  unfold thAt
  omega
theorem gI_kpL {rs ws ra wi : List Int} {n i : Nat} (h : i < n) : gI (kpL rs ws ra wi n) i = kpAt rs ws ra wi i := gI_at (by unfold kpL; rw [List.getElem?_map, List.getElem?_range h]; rfl)
theorem gI_out {l : List Int} {i : Nat} (h : l.length ≤ i) : gI l i = 0 := by
  unfold gI
  rw [List.getD_eq_getElem?_getD, List.getElem?_eq_none h]
  rfl
theorem kp_nn {rs ws ra wi : List Int} (h1 : NN rs) (h2 : NN ws) (h3 : NN ra) (h4 : NN wi) (i : Nat) : 0 ≤ kpAt rs ws ra wi i := by
  have := th_nn h1 h2 h3 h4 i
  have a1 := h1 i
  unfold kpAt drAt
  omega
def pairsOf (rs : List Int) : List Int → List Day → List Day
  | _, [] => []
  | ws, d :: ds => (drL rs ws d.1 d.2 rs.length, kpL rs ws d.1 d.2 rs.length) :: pairsOf rs (kpL rs ws d.1 d.2 rs.length) ds
theorem DayOk.nn {n : Nat} {ra wi : List Int} (h : DayOk n ra wi) : NN ra ∧ NN wi := ⟨NN.of fun v hv => (h.1.2 v hv).1, NN.of fun v hv => (h.2.2 v hv).1⟩
theorem Good.nn {rs ws : List Int} (g : Good rs ws) : NN rs ∧ NN ws := ⟨NN.of fun v hv => (g.rs v hv).1, NN.of fun v hv => (g.ws v hv).1⟩
theorem PHolds.len {rs : List Int} : ∀ {ls : List Int} {ds ps : List Day}, PHolds rs ls ds ps → ps.length = ds.length
  | _, [], [], _ => rfl
  | _, d :: ds, p :: ps, h => by
    have := PHolds.len h.2.2.2
    rw [List.length_cons, List.length_cons, this]
  | _, [], _ :: _, h => h.elim
  | _, _ :: _, [], h => h.elim
end Z

set_option Elab.async false
set_option linter.all false
set_option maxRecDepth 100000
set_option maxHeartbeats 8000000
namespace Z
open PySem L2
section
variable {P : Program} {w : World} {K : PySem.W.Frag} {mg : Str → Option Value} {base : Heap} {C cY cB cD cL cT : Addr}
/-- days of n tanks -/
def DaysOk (n : Nat) (ds : List Day) : Prop := ds.length ≤ 8 ∧ ∀ d ∈ ds, DayOk n d.1 d.2
def spCkDays (cD : Addr) : Sp := fun vs H Q E => ∃ (n : Nat) (l : Addr) (as : List A3) (ds : List Day), vs = [.int n, .ref l] ∧ DaysR H l as ds ∧ ds.length ≤ 100 ∧ (∀ d ∈ ds, d.1.length ≤ 100 ∧ d.2.length ≤ 100) ∧
  (DaysOk n ds → ∀ H', Same H H' → Q .non H') ∧ (¬ DaysOk n ds → ∀ H', Same H H' → E (.ref cD) none H')
theorem scCs : FnScope ["tanks", "days", "day"] ["tanks", "days"] (defScope sCheckDays) := ⟨rfl, rfl, rfl, by decide +kernel, rfl, by decide +kernel, by decide +kernel⟩
theorem ok_cs {f fC : Addr} {fd fdC : FuncData} (F : Fun K "check_days" "check_days" sCheckDays f fd) (T : Txt K mg C cY cB cD cL cT) (FC : Fun K "check_day" "check_day" sCheckDay fC fdC) (bC : Binds K fdC ["tanks", "rain", "wishes"] []) (mC : mg "check_day" = some (.ref fC))
    (GC : FnOk P w K mg base (CXo P w) 3 fC fdC ["tanks", "rain", "wishes"] (spCkDay cD)) : FnOk P w K mg base (CXo P w) 4 f fd ["tanks", "days"] (spCkDays cD) := by
  obtain ⟨t8, h8⟩ := T.m8
  refine F.okX scCs (fun vs H Q E h => ?_) (fun cdv A outer s H vs Q E hr h => ?_)
  · obtain ⟨n, l, as, ds, rfl, _⟩ := h
    rfl
  · obtain ⟨n, l, as, ds, rfl, DR, hl1, hl2, kG, kB⟩ := h
    show let X9 := _; let E9 := _; ∃ t, PSs X9 (defBody sCheckDays) t ∧ t E9 _ _
    intro X9 E9
    let x1_1 : SB9 X9 ((fB9 (defBody sCheckDays) 1)) 1 := ⟨_, pss_one (ps_expr (pe_callX GC hr (by rfl) mC FC.kp bC .nil passes_cx (pa_cons (pv 0) (pa_cons (pe_ix ix_tup (pv 2) pe_int (fun _ _ => rfl)) (pa_cons (pe_ix ix_tup (pv 2) pe_int (fun _ _ => rfl)) pa_nil)))))⟩
    let tx1_1 : TS := x1_1.1
    have px1_1 : PSs X9 (List.drop 1 ((fB9 (defBody sCheckDays) 1))) tx1_1 := x1_1.2
    let x1_0 : SB9 X9 ((fB9 (defBody sCheckDays) 1)) 0 := ⟨_, pss_cons (ps_if (pw_or (pt_not (pt_val (pe_callB call_isi (by rfl) T.isi boot_isi (pa_cons (pv 2) (pa_cons (pe_bltn (v := .ty "tuple") (by rfl) T.tup boot_tup rfl) pa_nil)))))
          (pw_or1 (pt_cmpR op_ne (pe_callB call_len_seq (by rfl) T.len PySem.boot_len (pa_cons (pv 2) pa_nil)) pe_int (nomark _)))).pt (pss_one (ps_raise rfl T.exD leaves_cx (by rfl) (pa_cons pe_str pa_nil))) pss_nil) px1_1⟩
    let tx1_0 : TS := x1_0.1
    have px1_0 : PSs X9 (List.drop 0 ((fB9 (defBody sCheckDays) 1))) tx1_0 := x1_0.2
    let x2_1 : SB9 X9 (defBody sCheckDays) 1 := ⟨_, pss_one (ps_for PassesOwn.leaving rfl (pi_list (pv 1)) (pg_name (i := 2) scCs.nd rfl (Or.inl rfl)) px1_0)⟩
    let tx2_1 : TS := x2_1.1
    have px2_1 : PSs X9 (List.drop 1 (defBody sCheckDays)) tx2_1 := x2_1.2
    let x2_0 : SB9 X9 (defBody sCheckDays) 0 := ⟨_, pss_cons (ps_if (pw_or (pt_not (pt_val (pe_callB call_isi (by rfl) T.isi boot_isi (pa_cons (pv 1) (pa_cons (pe_bltn (v := .ty "list") (by rfl) T.list boot_lst rfl) pa_nil)))))
        (pw_or1 (pt_cmpR op_gt (pe_callB call_len_seq (by rfl) T.len PySem.boot_len (pa_cons (pv 1) pa_nil)) (pe_glob (v := .int 8) (by rfl) h8 ⟨_, rfl⟩) (nomark _)))).pt (pss_one (ps_raise rfl T.exD leaves_cx (by rfl) (pa_cons pe_str pa_nil))) pss_nil) px2_1⟩
    let tx2_0 : TS := x2_0.1
    have px2_0 : PSs X9 (List.drop 0 (defBody sCheckDays)) tx2_0 := x2_0.2
    refine ⟨tx2_0, px2_0, ?_⟩
    have el : ((as.map fun a => V.ref a.1).length : Int) = (ds.length : Int) := by rw [List.length_map, DR.len]
    refine ⟨_, rfl, _, _, _, _, rfl, .lst DR.lst, (by nofun), T.kll, _, rfl, iteF ?_⟩
    refine ⟨_, rfl, l, _, rfl, .inl (SqL.of DR.lst), _, _, rfl, rfl, _, rfl, ?_⟩
    refine ite2 (fun h1 => ⟨by decide, kB (fun g => ?_) H same_refl⟩) (fun h1 => ?_)
    · have h1 := of_decide_eq_true h1
      have := g.1
      omega
    have h8' : ds.length ≤ 8 := by
      by_cases z : (8 : Int) < ((as.map fun a => V.ref a.1).length : Int)
      · exact absurd (decide_eq_true z) h1
      · omega
    refine ⟨_, rfl, l, rfl, ⟨_, SqL.of DR.lst⟩, ?_⟩
    refine for_list (xs := as.map fun a => V.ref a.1) (fun i σ H' => Same H H' ∧ (∃ o, σ = [some (.int n), some (.ref l), o]) ∧ ∀ d ∈ ds.take i, DayOk n d.1 d.2) ?_ ?_ ?_ ?_
    · exact ⟨same_refl, ⟨none, rfl⟩, by simp⟩
    · rintro i σ H' _ ⟨s1, _⟩
      exact SqL.of (s1 _ _ DR.lst)
    · rintro i x σ H' hx ⟨s1, ⟨o, rfl⟩, hok⟩
      have hid : i < ds.length := by
        have := (List.getElem?_eq_some_iff.mp hx).1
        rw [List.length_map, DR.len] at this
        exact this
      obtain ⟨t, p, q, d, ha, hv, hd, ht, hp, hq⟩ := DR.at hid
      rw [hv] at hx
      cases hx
      have hm := List.mem_of_getElem? hd
      have ht1 := s1 _ _ ht
      refine ⟨_, rfl, _, _, _, _, rfl, .tup ht1, (by nofun), T.ktt, _, rfl, iteF ?_⟩
      refine ⟨_, rfl, t, _, rfl, .inr (SqT.of ht1), rfl, _, rfl, iteF ?_⟩
      refine ⟨_, rfl, _, rfl, t, _, _, _, rfl, rfl, SqT.of ht1, atI_nat (j := 0) rfl, _, rfl, t, _, _, _, rfl, rfl, SqT.of ht1, atI_nat (j := 1) rfl, n, p, q, d.1, d.2, rfl, s1 _ _ hp, s1 _ _ hq, (hl2 d hm).1, (hl2 d hm).2, fun g H1 s2 => ?_, fun g H1 s2 => kB (fun z => g (z.2 d hm)) H1 (s1.trans s2)⟩
      refine ⟨s1.trans s2, ⟨_, rfl⟩, fun e he => ?_⟩
      rw [take_snoc hd] at he
      rcases List.mem_append.mp he with z | z
      · exact hok e z
      · rw [List.mem_singleton.mp z]
        exact g
    · rintro σ H' ⟨s1, ⟨o, rfl⟩, hok⟩
      refine kG ⟨h8', fun d hd => hok d ?_⟩ H' s1
      rw [List.length_map, DR.len, List.take_length]
      exact hd
end
end Z

set_option Elab.async false
set_option linter.all false
set_option maxRecDepth 100000
set_option maxHeartbeats 8000000
namespace Z
open PySem L2
section
variable {P : Program} {w : World} {K : PySem.W.Frag} {mg : Str → Option Value} {base : Heap} {C cY cB cD cL cT : Addr}
def spHasForm : Sp := fun vs H Q _ => ∃ (t p q : Addr) (n : Nat) (dr kp : List Int), vs = [.ref t, .int n] ∧ H t = some (.tup [.ref p, .ref q]) ∧ H p = some (.lst (iL dr)) ∧ H q = some (.lst (iL kp)) ∧
  ∀ b : Bool, (b = true ↔ dr.length = n ∧ kp.length = n) → ∀ H', Same H H' → Q (.bl b) H'
theorem scHf : FnScope ["pair", "tanks"] ["pair", "tanks"] (defScope sHasForm) := ⟨rfl, rfl, rfl, by decide +kernel, rfl, by decide +kernel, by decide +kernel⟩
theorem ndHf : (["numbers", "tanks"] : List Str).Nodup := by decide +kernel
theorem ok_hf {f : Addr} {fd : FuncData} (F : Fun K "has_form" "has_form" sHasForm f fd) (T : Txt K mg C cY cB cD cL cT) : FnOk P w K mg base CX0 1 f fd ["pair", "tanks"] spHasForm := by
  refine F.ok scHf (fun vs H Q E h => ?_) (fun cdv A outer s H vs Q E hr h => ?_)
  · obtain ⟨t, p, q, n, dr, kp, rfl, _⟩ := h
    rfl
  · obtain ⟨t, p, q, n, dr, kp, rfl, ht, hp, hq, k⟩ := h
    show let X9 := _; let E9 := _; ∃ t, PSs X9 (defBody sHasForm) t ∧ t E9 _ _
    intro X9 E9
    let x1_1 : SB9 X9 (defBody sHasForm) 1 := ⟨_, pss_one (ps_ret (pe_callB (call_all rfl) (by rfl) T.all boot_alls (pa_cons (pe_comp (N := ["numbers", "tanks"]) (cap := [none, some 1]) rfl (.of (by rfl)) (pi_tup (pv 0)) (fun _ _ _ _ => pg_name (i := 0) ndHf rfl (Or.inl rfl)) (fun _ _ _ _ => pts_nil)
        (fun _ _ _ _ => pe_and (pe_callB (show CallR _ (.builtin "isinstance") (rIsi K) from call_isi) (by rfl) T.isi boot_isi (pa_cons (pv 0) (pa_cons (pe_bltn (v := .ty "list") (by rfl) T.list boot_lst rfl) pa_nil)))
          (pe_one (pe_cmpR op_eq (pe_callB (show CallR _ (.builtin "len") (rLen K) from call_len_seq) (by rfl) T.len PySem.boot_len (pa_cons (pv 0) pa_nil)) (pv 1) (nomark _))))) pa_nil)))⟩
    let tx1_1 : TS := x1_1.1
    have px1_1 : PSs X9 (List.drop 1 (defBody sHasForm)) tx1_1 := x1_1.2
    let x1_0 : SB9 X9 (defBody sHasForm) 0 := ⟨_, pss_cons (ps_if (pw_or (pt_not (pt_val (pe_callB call_isi (by rfl) T.isi boot_isi (pa_cons (pv 0) (pa_cons (pe_bltn (v := .ty "tuple") (by rfl) T.tup boot_tup rfl) pa_nil)))))
        (pw_or1 (pt_cmpR op_ne (pe_callB call_len_seq (by rfl) T.len PySem.boot_len (pa_cons (pv 0) pa_nil)) pe_int (nomark _)))).pt (pss_one (ps_ret pe_bl)) pss_nil) px1_1⟩
    let tx1_0 : TS := x1_0.1
    have px1_0 : PSs X9 (List.drop 0 (defBody sHasForm)) tx1_0 := x1_0.2
    refine ⟨tx1_0, px1_0, ?_⟩
    refine ⟨_, rfl, _, _, _, _, rfl, .tup ht, (by nofun), T.ktt, _, rfl, iteF ?_⟩
    refine ⟨_, rfl, t, _, rfl, .inr (SqT.of ht), rfl, _, rfl, iteF ?_⟩
    refine ⟨_, rfl, t, rfl, ⟨_, SqT.of ht⟩, fun D hD => ?_⟩
    have ntD : t ≠ D := ne_of_none ht hD
    have npD : p ≠ D := ne_of_none hp hD
    have nqD : q ≠ D := ne_of_none hq hD
    let bs : List Bool := [decide (V.int ((iL dr).length : Int) = V.int (n : Int)), decide (V.int ((iL kp).length : Int) = V.int (n : Int))]
    refine comp_by 2 (sz100 (by decide)) (fun i ys τ H' => i ≤ 2 ∧ ys = (bs.take i).map V.bl ∧ H' = upd H D (.lst ys) ∧ ∃ o, τ = [o, some (.int n)]) ?_ ?_ ?_ ?_
    · exact ⟨by decide, rfl, rfl, none, rfl⟩
    · rintro i ys τ H' ⟨hi, rfl, rfl, _⟩
      exact ⟨upd_same, by rw [List.length_map, List.length_take]; exact Nat.min_le_left _ _⟩
    · rintro i ys τ H' hi ⟨_, rfl, rfl, o, rfl⟩
      have ht' : (upd H D (.lst ((bs.take i).map V.bl))) t = some (.tup [.ref p, .ref q]) := by rw [upd_ne ntD]; exact ht
      have hp' : (upd H D (.lst ((bs.take i).map V.bl))) p = some (.lst (iL dr)) := by rw [upd_ne npD]; exact hp
      have hq' : (upd H D (.lst ((bs.take i).map V.bl))) q = some (.lst (iL kp)) := by rw [upd_ne nqD]; exact hq
      match i, hi with
      | 0, _ =>
        refine ⟨⟨_, .ref p, SqT.of ht', rfl⟩, ?_⟩
        rintro x H3 ⟨rfl, hx⟩
        have hx := hx _ (SqT.of ht')
        cases hx
        refine name_yes_if ?_
        refine ⟨_, rfl, _, _, _, _, rfl, .lst hp', (by nofun), T.kll, _, rfl, iteT ?_⟩
        refine ⟨_, rfl, p, _, rfl, .inl (SqL.of hp'), _, rfl, rfl, upd_same, by decide, rfl, ?_, _, rfl⟩
        rw [upd_upd]
      | 1, _ =>
        refine ⟨⟨_, .ref q, SqT.of ht', rfl⟩, ?_⟩
        rintro x H3 ⟨rfl, hx⟩
        have hx := hx _ (SqT.of ht')
        cases hx
        refine name_yes_if ?_
        refine ⟨_, rfl, _, _, _, _, rfl, .lst hq', (by nofun), T.kll, _, rfl, iteT ?_⟩
        refine ⟨_, rfl, q, _, rfl, .inl (SqL.of hq'), _, rfl, rfl, upd_same, by decide, rfl, ?_, _, rfl⟩
        rw [upd_upd]
      | i + 2, hi => omega
    · rintro ys τ H' ⟨_, rfl, rfl, o, rfl⟩
      have ht' : (upd H D (.lst ((bs.take 2).map V.bl))) t = some (.tup [.ref p, .ref q]) := by rw [upd_ne ntD]; exact ht
      refine ⟨⟨_, SqT.of ht', Nat.le_refl _⟩, D, bs, rfl, SqL.of upd_same, ?_⟩
      refine k _ ?_ _ (same_new hD)
      show (decide (V.int ((iL dr).length : Int) = V.int (n : Int)) && (decide (V.int ((iL kp).length : Int) = V.int (n : Int)) && true)) = true ↔ _
      rw [Bool.and_eq_true, Bool.and_eq_true, List.length_map, List.length_map]
      constructor
      · rintro ⟨h1, h2, _⟩
        have := eq_t h1
        have := eq_t h2
        omega
      · rintro ⟨h1, h2⟩
        exact ⟨by rw [h1]; simp, by rw [h2]; simp, rfl⟩
def spDayHolds : Sp := fun vs H Q _ => ∃ (rp lp td p q tp d k : Addr) (rs ls ra wi dr kp : List Int), vs = [.ref rp, .ref lp, .ref td, .ref tp] ∧ H rp = some (.lst (iL rs)) ∧ H lp = some (.lst (iL ls)) ∧ H td = some (.tup [.ref p, .ref q]) ∧ H p = some (.lst (iL ra)) ∧ H q = some (.lst (iL wi)) ∧
  H tp = some (.tup [.ref d, .ref k]) ∧ H d = some (.lst (iL dr)) ∧ H k = some (.lst (iL kp)) ∧ ls.length = rs.length ∧ ra.length = rs.length ∧ wi.length = rs.length ∧ dr.length = rs.length ∧ kp.length = rs.length ∧
  ∀ b : Bool, (b = true ↔ HoldsDay rs ls ra wi dr kp) → ∀ H', Same H H' → Q (.bl b) H'
theorem scDh : FnScope ["rooms", "lying", "day", "pair", "falling", "tank", "room", "drawn", "kept"] ["rooms", "lying", "day", "pair"] (defScope sDayHolds) := ⟨rfl, rfl, rfl, by decide +kernel, rfl, by decide +kernel, by decide +kernel⟩
theorem ok_dh {f fI : Addr} {fd fdI : FuncData} (F : Fun K "day_holds" "day_holds" sDayHolds f fd) (T : Txt K mg C cY cB cD cL cT) (FI : Fun K "is_whole" "is_whole" sIsWhole fI fdI) (bI : Binds K fdI ["value", "most"] []) (mI : mg "is_whole" = some (.ref fI)) :
    FnOk P w K mg base CX0 2 f fd ["rooms", "lying", "day", "pair"] spDayHolds := by
  have GI : FnOk P w K mg base CX0 1 fI fdI ["value", "most"] spIW := ok_iw FI T
  refine F.ok scDh (fun vs H Q E h => ?_) (fun cdv A outer s H vs Q E hr h => ?_)
  · obtain ⟨rp, lp, td, p, q, tp, d, k, rs, ls, ra, wi, dr, kp, rfl, _⟩ := h
    rfl
  · obtain ⟨rp, lp, td, p, q, tp, d, k, rs, ls, ra, wi, dr, kp, rfl, hrp, hlp, htd, hp, hq, htp, hd, hk, l1, l2, l3, l4, l5, kk⟩ := h
    show let X9 := _; let E9 := _; ∃ t, PSs X9 (defBody sDayHolds) t ∧ t E9 _ _
    intro X9 E9
    let x1_4 : SB9 X9 ((fB9 (defBody sDayHolds) 1)) 4 := ⟨_, pss_one (ps_if (pt_cmpR op_lt (pv 4) pe_int (nomark _)) (pss_one (ps_ret pe_bl)) pss_nil)⟩
    let tx1_4 : TS := x1_4.1
    have px1_4 : PSs X9 (List.drop 4 ((fB9 (defBody sDayHolds) 1))) tx1_4 := x1_4.2
    let x1_3 : SB9 X9 ((fB9 (defBody sDayHolds) 1)) 3 := ⟨_, pss_cons (ps_set (i := 4) scDh.nd rfl (Or.inl rfl) (pe_op op_sub (pe_op op_sub (pe_op op_add (pe_op op_add (pv 4) (pe_ix ix_list (pv 1) (pv 5) (fun _ _ => rfl))) (pe_ix ix_list (pe_ix ix_tup (pv 2) pe_int (fun _ _ => rfl)) (pv 5) (fun _ _ => rfl))) (pv 7)) (pv 8))) px1_4⟩
    let tx1_3 : TS := x1_3.1
    have px1_3 : PSs X9 (List.drop 3 ((fB9 (defBody sDayHolds) 1))) tx1_3 := x1_3.2
    let x1_2 : SB9 X9 ((fB9 (defBody sDayHolds) 1)) 2 := ⟨_, pss_cons (ps_if (pw_or (pt_not (pt_val (pe_call GI hr (by rfl) mI FI.kp bI .nil pass0 (pa_cons (pv 7) (pa_cons (pe_ix ix_list (pe_ix ix_tup (pv 2) pe_int (fun _ _ => rfl)) (pv 5) (fun _ _ => rfl)) pa_nil)))))
            (pw_or1 (pt_not (pt_val (pe_call GI hr (by rfl) mI FI.kp bI .nil pass0 (pa_cons (pv 8) (pa_cons (pv 6) pa_nil))))))).pt (pss_one (ps_ret pe_bl)) pss_nil) px1_3⟩
    let tx1_2 : TS := x1_2.1
    have px1_2 : PSs X9 (List.drop 2 ((fB9 (defBody sDayHolds) 1))) tx1_2 := x1_2.2
    let x1_1 : SB9 X9 ((fB9 (defBody sDayHolds) 1)) 1 := ⟨_, pss_cons (ps_set (i := 8) scDh.nd rfl (Or.inl rfl) (pe_ix ix_list (pe_ix ix_tup (pv 3) pe_int (fun _ _ => rfl)) (pv 5) (fun _ _ => rfl))) px1_2⟩
    let tx1_1 : TS := x1_1.1
    have px1_1 : PSs X9 (List.drop 1 ((fB9 (defBody sDayHolds) 1))) tx1_1 := x1_1.2
    let x1_0 : SB9 X9 ((fB9 (defBody sDayHolds) 1)) 0 := ⟨_, pss_cons (ps_set (i := 7) scDh.nd rfl (Or.inl rfl) (pe_ix ix_list (pe_ix ix_tup (pv 3) pe_int (fun _ _ => rfl)) (pv 5) (fun _ _ => rfl))) px1_1⟩
    let tx1_0 : TS := x1_0.1
    have px1_0 : PSs X9 (List.drop 0 ((fB9 (defBody sDayHolds) 1))) tx1_0 := x1_0.2
    let x2_2 : SB9 X9 (defBody sDayHolds) 2 := ⟨_, pss_one (ps_ret pe_bl)⟩
    let tx2_2 : TS := x2_2.1
    have px2_2 : PSs X9 (List.drop 2 (defBody sDayHolds)) tx2_2 := x2_2.2
    let x2_1 : SB9 X9 (defBody sDayHolds) 1 := ⟨_, pss_cons (ps_for PassesOwn.never rfl (pi_enum (by rfl) T.enu (pa_cons (pv 0) pa_nil)) (pg_tup rfl (pgs_cons (pg_name (i := 5) scDh.nd rfl (Or.inl rfl)) (pgs_cons (pg_name (i := 6) scDh.nd rfl (Or.inl rfl)) pgs_nil))) px1_0) px2_2⟩
    let tx2_1 : TS := x2_1.1
    have px2_1 : PSs X9 (List.drop 1 (defBody sDayHolds)) tx2_1 := x2_1.2
    let x2_0 : SB9 X9 (defBody sDayHolds) 0 := ⟨_, pss_cons (ps_set (i := 4) scDh.nd rfl (Or.inl rfl) pe_int) px2_1⟩
    let tx2_0 : TS := x2_0.1
    have px2_0 : PSs X9 (List.drop 0 (defBody sDayHolds)) tx2_0 := x2_0.2
    refine ⟨tx2_0, px2_0, ?_⟩
    refine ⟨_, rfl, rp, rfl, ⟨_, SqL.of hrp⟩, ?_⟩
    refine for_it rs.length (fun i σ H' => i ≤ rs.length ∧ Same H H' ∧ (∀ j, j < i → TankOk rs ls ra wi dr kp j) ∧ ∃ o5 o6 o7 o8, σ = [some (.ref rp), some (.ref lp), some (.ref td), some (.ref tp), some (.int (flAt ls ra dr kp i)), o5, o6, o7, o8]) ?_ ?_ ?_
    · exact ⟨Nat.zero_le _, same_refl, by omega, none, none, none, none, rfl⟩
    · rintro i σ H' hi ⟨_, s1, hok, o5, o6, o7, o8, rfl⟩
      have hrp1 := s1 _ _ hrp
      have g0 := iL_at (l := rs) hi
      refine ⟨⟨_, _, SqL.of hrp1, g0⟩, ?_⟩
      rintro x H2 ⟨t, v, rfl, hnt, rfl, hv⟩
      have ev := Option.some.inj ((hv _ (SqL.of hrp1)).symm.trans g0)
      subst ev
      have s2 := s1.trans (same_new (o := .tup [.int (i : Int), .int (gI rs i)]) hnt)
      have ht2 : (upd H' t (.tup [.int (i : Int), .int (gI rs i)])) t = some (.tup [.int (i : Int), .int (gI rs i)]) := upd_same
      generalize upd H' t (.tup [.int (i : Int), .int (gI rs i)]) = H2 at s2 ht2 ⊢
      have b1 := atI_nat (iL_at (l := dr) (i := i) (by omega))
      have b2 := atI_nat (iL_at (l := kp) (i := i) (by omega))
      have b3 := atI_nat (iL_at (l := wi) (i := i) (by omega))
      have b4 := atI_nat (iL_at (l := ls) (i := i) (by omega))
      have b5 := atI_nat (iL_at (l := ra) (i := i) (by omega))
      refine ⟨t, _, rfl, SqT.of ht2, rfl, _, _, rfl, _, _, rfl, rfl, ?_⟩
      refine ⟨_, rfl, tp, _, _, _, rfl, rfl, SqT.of (s2 _ _ htp), atI_nat (j := 0) rfl, _, rfl, d, _, _, _, rfl, rfl, SqL.of (s2 _ _ hd), b1, ?_⟩
      refine ⟨_, rfl, tp, _, _, _, rfl, rfl, SqT.of (s2 _ _ htp), atI_nat (j := 1) rfl, _, rfl, k, _, _, _, rfl, rfl, SqL.of (s2 _ _ hk), b2, ?_⟩
      refine ⟨_, rfl, _, rfl, td, _, _, _, rfl, rfl, SqT.of (s2 _ _ htd), atI_nat (j := 1) rfl, _, rfl, q, _, _, _, rfl, rfl, SqL.of (s2 _ _ hq), b3, _, _, rfl, _, rfl, ?_⟩
      refine ite2 (fun h1 => iteT (kk false ?_ H2 s2)) (fun h1 => ?_)
      · have h1 := of_decide_eq_false (not_t h1)
        exact ⟨fun z => (by cases z), fun z => absurd (z i hi).1.1 h1⟩
      have h1 := of_decide_eq_true (not_f h1)
      refine ⟨_, rfl, _, rfl, _, _, rfl, _, rfl, ?_⟩
      refine ite2 (fun h2 => kk false ?_ H2 s2) (fun h2 => ?_)
      · have h2 := of_decide_eq_false (not_t h2)
        exact ⟨fun z => (by cases z), fun z => absurd (z i hi).1.2 h2⟩
      have h2 := of_decide_eq_true (not_f h2)
      refine ⟨_, rfl, _, rfl, _, rfl, lp, _, _, _, rfl, rfl, SqL.of (s2 _ _ hlp), b4, _, _, rfl, rfl, _, rfl, td, _, _, _, rfl, rfl, SqT.of (s2 _ _ htd), atI_nat (j := 0) rfl, _, rfl, p, _, _, _, rfl, rfl, SqL.of (s2 _ _ hp), b5, _, _, rfl, rfl, _, rfl, _, _, rfl, rfl, _, rfl, _, _, rfl, rfl, ?_⟩
      refine ⟨_, rfl, _, _, rfl, rfl, _, rfl, ?_⟩
      refine ite2 (fun h3 => kk false ?_ H2 s2) (fun h3 => ?_)
      · have h3 : flAt ls ra dr kp (i + 1) < 0 := of_decide_eq_true h3
        exact ⟨fun z => (by cases z), fun z => absurd (z i hi).2 (by omega)⟩
      have h3 : ¬ flAt ls ra dr kp (i + 1) < 0 := fun z => h3 (decide_eq_true z)
      refine ⟨hi, s2, fun j hj => ?_, _, _, _, _, rfl⟩
      by_cases hji : j < i
      · exact hok j hji
      · have : j = i := by omega
        subst this
        exact ⟨⟨h1, h2⟩, by omega⟩
    · rintro σ H' ⟨_, s1, hok, o5, o6, o7, o8, rfl⟩
      refine ⟨⟨_, SqL.of (s1 _ _ hrp), by rw [List.length_map]; exact Nat.le_refl _⟩, ?_⟩
      exact kk true ⟨fun _ => hok, fun _ => rfl⟩ H' s1
end
end Z

set_option Elab.async false
set_option linter.all false
set_option maxRecDepth 100000
set_option maxHeartbeats 8000000
namespace Z
open PySem L2
section
variable {P : Program} {w : World} {K : PySem.W.Frag} {mg : Str → Option Value} {base : Heap} {C cY cB cD cL cT : Addr}
def spHolds (C cD : Addr) : Sp := fun vs H Q E => ∃ (y sz lv l pl : Addr) (rs ws : List Int) (as bs : List A3) (ds ps : List Day), vs = [.ref y, .ref l, .ref pl] ∧ YardAt C H y sz lv rs ws ∧ DaysR H l as ds ∧ DaysR H pl bs ps ∧ ws.length = rs.length ∧ ds.length ≤ 100 ∧ ps.length ≤ 100 ∧
  (∀ d ∈ ds, d.1.length ≤ 100 ∧ d.2.length ≤ 100) ∧
  (DaysOk rs.length ds → ∀ b : Bool, (b = true ↔ PHolds rs ws ds ps) → ∀ H', Same H H' → Q (.bl b) H') ∧ (¬ DaysOk rs.length ds → ∀ H', Same H H' → E (.ref cD) none H')
theorem scHo : FnScope ["yard", "days", "plan", "rooms", "lying", "day", "pair"] ["yard", "days", "plan"] (defScope sHolds) := ⟨rfl, rfl, rfl, by decide +kernel, rfl, by decide +kernel, by decide +kernel⟩
theorem ok_ho {f fS fF fH fRo fWa : Addr} {fd fdS fdF fdH fdRo fdWa : FuncData} (F : Fun K "holds" "holds" sHolds f fd) (T : Txt K mg C cY cB cD cL cT)
    (FS : Fun K "check_days" "check_days" sCheckDays fS fdS) (bS : Binds K fdS ["tanks", "days"] []) (mS : mg "check_days" = some (.ref fS)) (GS : FnOk P w K mg base (CXo P w) 4 fS fdS ["tanks", "days"] (spCkDays cD))
    (FF : Fun K "has_form" "has_form" sHasForm fF fdF) (bF : Binds K fdF ["pair", "tanks"] []) (mF : mg "has_form" = some (.ref fF)) (GF : FnOk P w K mg base CX0 1 fF fdF ["pair", "tanks"] spHasForm)
    (FH : Fun K "day_holds" "day_holds" sDayHolds fH fdH) (bH : Binds K fdH ["rooms", "lying", "day", "pair"] []) (mH : mg "day_holds" = some (.ref fH)) (GH : FnOk P w K mg base CX0 2 fH fdH ["rooms", "lying", "day", "pair"] spDayHolds)
    (eRo : Meth K C "rooms" fRo) (bRo : Binds K fdRo ["self"] []) (GRo : FnOk P w K mg base CX0 1 fRo fdRo ["self"] (spRooms C)) (eWa : Meth K C "waters" fWa) (bWa : Binds K fdWa ["self"] []) (GWa : FnOk P w K mg base CX0 1 fWa fdWa ["self"] (spWaters C)) :
    FnOk P w K mg base (CXo P w) 5 f fd ["yard", "days", "plan"] (spHolds C cD) := by
  refine F.okX scHo (fun vs H Q E h => ?_) (fun cdv A outer s H vs Q E hr h => ?_)
  · obtain ⟨y, sz, lv, l, pl, rs, ws, as, bs, ds, ps, rfl, _⟩ := h
    rfl
  · obtain ⟨y, sz, lv, l, pl, rs, ws, as, bs, ds, ps, rfl, Y, DR, DP, hlw, hd1, hp1, hd2, kG, kB⟩ := h
    have hr1 := hr.mono (show 1 ≤ 4 by decide)
    have hr2 := hr.mono (show 2 ≤ 4 by decide)
    show let X9 := _; let E9 := _; ∃ t, PSs X9 (defBody sHolds) t ∧ t E9 _ _
    intro X9 E9
    let x1_1 : SB9 X9 ((fB9 (defBody sHolds) 4)) 1 := ⟨_, pss_one (ps_set (i := 4) scHo.nd rfl (Or.inl rfl) (pe_ix ix_tup (pv 6) pe_int (fun _ _ => rfl)))⟩
    let tx1_1 : TS := x1_1.1
    have px1_1 : PSs X9 (List.drop 1 ((fB9 (defBody sHolds) 4))) tx1_1 := x1_1.2
    let x1_0 : SB9 X9 ((fB9 (defBody sHolds) 4)) 0 := ⟨_, pss_cons (ps_if (pw_or (pt_not (pt_val (pe_call GF hr1 (by rfl) mF FF.kp bF .nil pass0 (pa_cons (pv 6) (pa_cons (pe_callB call_len_seq (by rfl) T.len PySem.boot_len (pa_cons (pv 3) pa_nil)) pa_nil)))))
            (pw_or1 (pt_not (pt_val (pe_call GH hr2 (by rfl) mH FH.kp bH .nil pass0 (pa_cons (pv 3) (pa_cons (pv 4) (pa_cons (pv 5) (pa_cons (pv 6) pa_nil))))))))).pt (pss_one (ps_ret pe_bl)) pss_nil) px1_1⟩
    let tx1_0 : TS := x1_0.1
    have px1_0 : PSs X9 (List.drop 0 ((fB9 (defBody sHolds) 4))) tx1_0 := x1_0.2
    let x2_5 : SB9 X9 (defBody sHolds) 5 := ⟨_, pss_one (ps_ret pe_bl)⟩
    let tx2_5 : TS := x2_5.1
    have px2_5 : PSs X9 (List.drop 5 (defBody sHolds)) tx2_5 := x2_5.2
    let x2_4 : SB9 X9 (defBody sHolds) 4 := ⟨_, pss_cons (ps_for PassesOwn.leaving rfl (pi_zip (by rfl) T.zip (pa_cons (pv 1) (pa_cons (pv 2) pa_nil))) (pg_tup rfl (pgs_cons (pg_name (i := 5) scHo.nd rfl (Or.inl rfl)) (pgs_cons (pg_name (i := 6) scHo.nd rfl (Or.inl rfl)) pgs_nil))) px1_0) px2_5⟩
    let tx2_4 : TS := x2_4.1
    have px2_4 : PSs X9 (List.drop 4 (defBody sHolds)) tx2_4 := x2_4.2
    let x2_3 : SB9 X9 (defBody sHolds) 3 := ⟨_, pss_cons (ps_set (i := 4) scHo.nd rfl (Or.inl rfl) (pe_meth0 (pv 0) T.cl eWa GWa hr1 bWa .nil pass0)) px2_4⟩
    let tx2_3 : TS := x2_3.1
    have px2_3 : PSs X9 (List.drop 3 (defBody sHolds)) tx2_3 := x2_3.2
    let x2_2 : SB9 X9 (defBody sHolds) 2 := ⟨_, pss_cons (ps_if (pw_or (pt_not (pt_val (pe_callB call_isi (by rfl) T.isi boot_isi (pa_cons (pv 2) (pa_cons (pe_bltn (v := .ty "list") (by rfl) T.list boot_lst rfl) pa_nil)))))
          (pw_or1 (pt_cmpR op_ne (pe_callB call_len_seq (by rfl) T.len PySem.boot_len (pa_cons (pv 2) pa_nil)) (pe_callB call_len_seq (by rfl) T.len PySem.boot_len (pa_cons (pv 1) pa_nil)) (nomark _)))).pt (pss_one (ps_ret pe_bl)) pss_nil) px2_3⟩
    let tx2_2 : TS := x2_2.1
    have px2_2 : PSs X9 (List.drop 2 (defBody sHolds)) tx2_2 := x2_2.2
    let x2_1 : SB9 X9 (defBody sHolds) 1 := ⟨_, pss_cons (ps_expr (pe_callX GS hr (by rfl) mS FS.kp bS .nil passes_cx (pa_cons (pe_callB call_len_seq (by rfl) T.len PySem.boot_len (pa_cons (pv 3) pa_nil)) (pa_cons (pv 1) pa_nil)))) px2_2⟩
    let tx2_1 : TS := x2_1.1
    have px2_1 : PSs X9 (List.drop 1 (defBody sHolds)) tx2_1 := x2_1.2
    let x2_0 : SB9 X9 (defBody sHolds) 0 := ⟨_, pss_cons (ps_set (i := 3) scHo.nd rfl (Or.inl rfl) (pe_meth0 (pv 0) T.cl eRo GRo hr1 bRo .nil pass0)) px2_1⟩
    let tx2_0 : TS := x2_0.1
    have px2_0 : PSs X9 (List.drop 0 (defBody sHolds)) tx2_0 := x2_0.2
    refine ⟨tx2_0, px2_0, ?_⟩
    obtain ⟨dx, hy⟩ := Y.ob
    refine ⟨_, rfl, y, dx, _, rfl, hy, fl_no _ _ (by decide) (by decide), y, sz, lv, rs, ws, rfl, Y, fun r1 h1 => ?_⟩
    have s1 := same_upd (o := .lst (iL rs)) h1
    have hr0 : (upd H r1 (.lst (iL rs))) r1 = some (.lst (iL rs)) := upd_same
    generalize upd H r1 (.lst (iL rs)) = H1 at s1 hr0 ⊢
    refine ⟨_, rfl, r1, _, rfl, .inl (SqL.of hr0), _, rfl, rs.length, l, as, ds, (by rw [List.length_map]; rfl), DR.same s1, hd1, hd2, fun g H2 s2 => ?_, fun g H2 s2 => kB g H2 (s1.trans s2)⟩
    have s12 := s1.trans s2
    refine ⟨_, rfl, _, _, _, _, rfl, .lst (s12 _ _ DP.lst), (by nofun), T.kll, _, rfl, iteF ?_⟩
    refine ⟨_, rfl, pl, _, rfl, .inl (SqL.of (s12 _ _ DP.lst)), _, rfl, l, _, rfl, .inl (SqL.of (s12 _ _ DR.lst)), rfl, _, rfl, ?_⟩
    refine ite2 (fun h2 => kG g false ⟨fun z => (by cases z), fun z => ?_⟩ H2 s12) (fun h2 => ?_)
    · have := ne_t h2
      have e := z.len
      rw [List.length_map, List.length_map, DP.len, DR.len] at this
      exact absurd (by rw [e]) this
    have hpl : ps.length = ds.length := by
      have := ne_f h2
      rw [List.length_map, List.length_map, DP.len, DR.len] at this
      omega
    refine ⟨_, rfl, y, dx, _, rfl, s12 _ _ hy, fl_no _ _ (by decide) (by decide), y, sz, lv, rs, ws, rfl, Y.same s12, fun w1 hw1 => ?_⟩
    have s3 := s12.trans (same_upd (o := .lst (iL ws)) hw1)
    have sr := s2.trans (same_upd (o := .lst (iL ws)) hw1)
    have hw0 : (upd H2 w1 (.lst (iL ws))) w1 = some (.lst (iL ws)) := upd_same
    have hr3 := sr _ _ hr0
    generalize upd H2 w1 (.lst (iL ws)) = H3 at s3 sr hw0 hr3 ⊢
    refine ⟨_, rfl, _, rfl, l, pl, rfl, ⟨_, SqL.of (s3 _ _ DR.lst)⟩, ⟨_, SqL.of (s3 _ _ DP.lst)⟩, ?_⟩
    refine for_it ds.length (fun i σ H' => i ≤ ds.length ∧ Same H3 H' ∧ ∃ (lp : Addr) (ls : List Int), H' lp = some (.lst (iL ls)) ∧ ls.length = rs.length ∧ (PHolds rs ws ds ps ↔ PHolds rs ls (ds.drop i) (ps.drop i)) ∧
      ∃ o5 o6, σ = [some (.ref y), some (.ref l), some (.ref pl), some (.ref r1), some (.ref lp), o5, o6]) ?_ ?_ ?_
    · exact ⟨Nat.zero_le _, same_refl, w1, ws, hw0, hlw, Iff.rfl, none, none, rfl⟩
    · rintro i σ H' hi ⟨_, s4, lp, ls, hlp, hll, hiff, o5, o6, rfl⟩
      have s34 := s3.trans s4
      obtain ⟨td, p, q, d, ha, hv, hd, htd, hp, hq⟩ := (DR.same s34).at hi
      obtain ⟨tp, dd, kk, pp, ha2, hv2, hd2', htp, hdd, hkk⟩ := (DP.same s34).at (i := i) (by omega)
      refine ⟨⟨_, _, _, _, SqL.of (s34 _ _ DR.lst), SqL.of (s34 _ _ DP.lst), hv, hv2⟩, ?_⟩
      rintro x H5 ⟨t, x1, x2, rfl, hnt, rfl, hx1, hx2⟩
      have ex1 := Option.some.inj ((hx1 _ (SqL.of (s34 _ _ DR.lst))).symm.trans hv)
      have ex2 := Option.some.inj ((hx2 _ (SqL.of (s34 _ _ DP.lst))).symm.trans hv2)
      subst ex1 ex2
      have s5 := same_new (o := .tup [.ref td, .ref tp]) hnt
      have ht5 : (upd H' t (.tup [.ref td, .ref tp])) t = some (.tup [.ref td, .ref tp]) := upd_same
      generalize upd H' t (.tup [.ref td, .ref tp]) = H5 at s5 ht5 ⊢
      refine ⟨t, _, rfl, SqT.of ht5, rfl, _, _, rfl, _, _, rfl, rfl, ?_⟩
      have gd := g.2 d (List.mem_of_getElem? hd)
      have s45 := s4.trans s5
      refine ⟨_, rfl, _, rfl, r1, _, rfl, .inl (SqL.of (s45 _ _ hr3)), tp, dd, kk, rs.length, pp.1, pp.2, (by rw [List.length_map]; rfl), s5 _ _ htp, s5 _ _ hdd, s5 _ _ hkk, fun b hb H6 s6 => ⟨_, rfl, ?_⟩⟩
      have s46 := s45.trans s6
      have s56 := s5.trans s6
      rw [drop_at hd, drop_at hd2'] at hiff
      refine ite2 (fun h3 => iteT (kG g false ⟨fun z => (by cases z), fun z => ?_⟩ H6 (s3.trans s46))) (fun h3 => ?_)
      · have h3 := not_t h3
        have := hiff.mp z
        have := hb.mpr ⟨this.1, this.2.1⟩
        rw [h3] at this
        cases this
      obtain ⟨f1, f2⟩ := hb.mp (not_f h3)
      refine ⟨_, rfl, _, rfl, _, rfl, _, rfl, r1, lp, td, p, q, tp, dd, kk, rs, ls, d.1, d.2, pp.1, pp.2, rfl, s46 _ _ hr3, s56 _ _ hlp, s56 _ _ htd, s56 _ _ hp, s56 _ _ hq, s56 _ _ htp, s56 _ _ hdd, s56 _ _ hkk, hll, gd.1.1, gd.2.1, f1, f2, fun b2 hb2 H7 s7 => ⟨_, rfl, ?_⟩⟩
      have s47 := s46.trans s7
      refine ite2 (fun h4 => kG g false ⟨fun z => (by cases z), fun z => ?_⟩ H7 (s3.trans s47)) (fun h4 => ?_)
      · have h4 := not_t h4
        have := hb2.mpr (hiff.mp z).2.2.1
        rw [h4] at this
        cases this
      have f3 := hb2.mp (not_f h4)
      refine ⟨_, rfl, tp, _, _, _, rfl, rfl, SqT.of (s7 _ _ (s56 _ _ htp)), atI_nat (j := 1) rfl, ?_⟩
      refine ⟨hi, s47, kk, pp.2, s7 _ _ (s56 _ _ hkk), f2, ?_, _, _, rfl⟩
      exact ⟨fun z => (hiff.mp z).2.2.2, fun z => hiff.mpr ⟨f1, f2, f3, z⟩⟩
    · rintro σ H' ⟨_, s4, lp, ls, hlp, hll, hiff, o5, o6, rfl⟩
      have s34 := s3.trans s4
      refine ⟨⟨_, _, SqL.of (s34 _ _ DR.lst), SqL.of (s34 _ _ DP.lst), .inl (by rw [List.length_map, DR.len]; exact Nat.le_refl _)⟩, ?_⟩
      rw [List.drop_length, ← hpl, List.drop_length] at hiff
      exact kG g true ⟨fun _ => hiff.mpr trivial, fun _ => rfl⟩ H' s34
end
end Z

set_option Elab.async false
set_option linter.all false
set_option maxRecDepth 100000
set_option maxHeartbeats 8000000
namespace Z
open PySem L2
section
variable {P : Program} {w : World} {K : PySem.W.Frag} {mg : Str → Option Value} {base : Heap} {C cY cB cD cL cT : Addr}
def spDrawnBy : Sp := fun vs H Q _ => ∃ (l : Addr) (as : List A3) (ps : List Day), vs = [.ref l] ∧ DaysR H l as ps ∧ ps.length ≤ 100 ∧ ∀ H', Same H H' → Q (.int (ps.map fun p => p.1.sum).sum) H'
theorem scDb2 : FnScope ["plan"] ["plan"] (defScope sDrawnBy) := ⟨rfl, rfl, rfl, by decide +kernel, rfl, by decide +kernel, by decide +kernel⟩
theorem ndDb2 : (["pair"] : List Str).Nodup := by decide +kernel
theorem ok_dby {f : Addr} {fd : FuncData} (F : Fun K "drawn_by" "drawn_by" sDrawnBy f fd) (T : Txt K mg C cY cB cD cL cT) : FnOk P w K mg base CX0 1 f fd ["plan"] spDrawnBy := by
  refine F.ok scDb2 (fun vs H Q E h => ?_) (fun cdv A outer s H vs Q E hr h => ?_)
  · obtain ⟨l, as, ps, rfl, _⟩ := h
    rfl
  · obtain ⟨l, as, ps, rfl, DR, hl, k⟩ := h
    refine ⟨_, pss_one (ps_ret (pe_callB (call_sum rfl) (by rfl) T.sum boot_sum (pa_cons (pe_comp (N := ["pair"]) (cap := [none]) rfl (.of (by rfl)) (pi_list (pv 0)) (fun _ _ _ _ => pg_name (i := 0) ndDb2 rfl (Or.inl rfl)) (fun _ _ _ _ => pts_nil)
        (fun _ _ _ _ => pe_callB (show CallR _ (.builtin "sum") (rSum K) from call_sum rfl) (by rfl) T.sum boot_sum (pa_cons (pe_ix (show IxR _ (rIxT K) from ix_tup) (pv 0) pe_int (fun _ _ => rfl)) pa_nil))) pa_nil))), ?_⟩
    refine ⟨_, rfl, l, rfl, ⟨_, SqL.of DR.lst⟩, fun D hD => ?_⟩
    refine comp_by ps.length (sz100 hl) (fun i ys τ H' => i ≤ ps.length ∧ ys = iL ((ps.take i).map fun p => p.1.sum) ∧ H' = upd H D (.lst ys) ∧ ∃ o, τ = [o]) ?_ ?_ ?_ ?_
    · exact ⟨Nat.zero_le _, rfl, rfl, none, rfl⟩
    · rintro i ys τ H' ⟨hi, rfl, rfl, _⟩
      exact ⟨upd_same, by rw [List.length_map, List.length_map, List.length_take]; exact Nat.min_le_left _ _⟩
    · rintro i ys τ H' hi ⟨_, rfl, rfl, o, rfl⟩
      have s1 := same_new (o := .lst (iL ((ps.take i).map fun p => p.1.sum))) hD
      obtain ⟨t, p, q, d, ha, hv, hd, ht, hp, hq⟩ := DR.at hi
      refine ⟨⟨_, _, SqL.of (s1 _ _ DR.lst), hv⟩, ?_⟩
      rintro x H3 ⟨rfl, hx⟩
      have ex := Option.some.inj ((hx _ (SqL.of (s1 _ _ DR.lst))).symm.trans hv)
      subst ex
      refine name_yes_if ?_
      refine ⟨_, rfl, t, _, _, _, rfl, rfl, SqT.of (s1 _ _ ht), atI_nat (j := 0) rfl, p, d.1, rfl, SqL.of (s1 _ _ hp), upd_same, hi, ?_, ?_, _, rfl⟩
      · rw [take_snoc hd, List.map_append, iL_snoc]
        rfl
      · rw [upd_upd]
    · rintro ys τ H' ⟨_, rfl, rfl, o, rfl⟩
      have s1 := same_new (o := .lst (iL ((ps.take ps.length).map fun p => p.1.sum))) hD
      refine ⟨⟨_, SqL.of (s1 _ _ DR.lst), by rw [List.length_map, DR.len]; exact Nat.le_refl _⟩, D, _, rfl, SqL.of upd_same, ?_⟩
      have := k _ s1
      rw [List.take_length] at this ⊢
      exact this
end
end Z

set_option Elab.async false
set_option linter.all false
set_option maxRecDepth 100000
set_option maxHeartbeats 8000000
namespace Z
open PySem L2
section
variable {P : Program} {w : World} {K : PySem.W.Frag} {mg : Str → Option Value} {base : Heap} {C cY cB cD cL cT : Addr}
/-- a plan that was told: fresh ahead of H0 -/
structure PlanAt (H0 H : Hp) (l : Addr) (ts : List A3) (ps : List (List Int × List Int × Int)) : Prop where
  len : ts.length = ps.length
  lst : H l = some (.lst (ts.map fun a => .ref a.1))
  row : ∀ (i : Nat) (a : A3) (p : List Int × List Int × Int), ts[i]? = some a → ps[i]? = some p → H a.1 = some (.tup [.ref a.2.1, .ref a.2.2, .int p.2.2]) ∧ H a.2.1 = some (.lst (iL p.1)) ∧ H a.2.2 = some (.lst (iL p.2.1))
  fr : ∀ a ∈ ts, H0 a.1 = none ∧ H0 a.2.1 = none ∧ H0 a.2.2 = none
  apart : ∀ a ∈ ts, l ≠ a.2.1 ∧ l ≠ a.2.2
  nl : H0 l = none
theorem PlanAt.but {H0 H H' : Hp} {l : Addr} {ts : List A3} {ps : List (List Int × List Int × Int)} (D : PlanAt H0 H l ts ps) (e : ∀ b o, H b = some o → b ≠ l → H' b = some o) {zs : List V} (hl : H' l = some (.lst zs)) (hz : zs = ts.map fun a => .ref a.1) : PlanAt H0 H' l ts ps := by
  refine ⟨D.len, by rw [hl, hz], fun i a p h1 h2 => ?_, D.fr, D.apart, D.nl⟩
  have := D.row i a p h1 h2
  have n := D.apart a (List.mem_of_getElem? h1)
  exact ⟨e _ _ this.1 (ne_of this.1 D.lst (by nofun)), e _ _ this.2.1 n.1.symm, e _ _ this.2.2 n.2.symm⟩
theorem PlanAt.more {H0 H H' : Hp} {l t d h : Addr} {ts : List A3} {ps : List (List Int × List Int × Int)} {p : List Int × List Int × Int} (D : PlanAt H0 H l ts ps) (e : ∀ b o, H b = some o → b ≠ l → H' b = some o)
    (hl : H' l = some (.lst ((ts.map fun a => V.ref a.1) ++ [.ref t]))) (ht : H' t = some (.tup [.ref d, .ref h, .int p.2.2])) (hd : H' d = some (.lst (iL p.1))) (hh : H' h = some (.lst (iL p.2.1)))
    (ft : H0 t = none) (fd : H0 d = none) (fh : H0 h = none) (nd : l ≠ d) (nh : l ≠ h) : PlanAt H0 H' l (ts ++ [(t, d, h)]) (ps ++ [p]) := by
  refine ⟨by rw [List.length_append, List.length_append, D.len]; rfl, by rw [hl, List.map_append]; rfl, fun i a q e1 e2 => ?_, fun a ha => ?_, fun a ha => ?_, D.nl⟩
  · by_cases hi : i < ts.length
    · rw [List.getElem?_append_left hi] at e1
      rw [List.getElem?_append_left (by rw [← D.len]; exact hi)] at e2
      have := D.row i a q e1 e2
      have n := D.apart a (List.mem_of_getElem? e1)
      exact ⟨e _ _ this.1 (ne_of this.1 D.lst (by nofun)), e _ _ this.2.1 n.1.symm, e _ _ this.2.2 n.2.symm⟩
    · have hi2 : i = ts.length := by
        have := (List.getElem?_eq_some_iff.mp e1).1
        rw [List.length_append] at this
        have : i < ts.length + 1 := this
        omega
      subst hi2
      rw [List.getElem?_append_right (Nat.le_refl _), Nat.sub_self] at e1
      rw [List.getElem?_append_right (by rw [D.len]; exact Nat.le_refl _), D.len, Nat.sub_self] at e2
      cases e1
      cases e2
      exact ⟨ht, hd, hh⟩
  · rcases List.mem_append.mp ha with z | z
    · exact D.fr a z
    · rw [List.mem_singleton.mp z]
      exact ⟨ft, fd, fh⟩
  · rcases List.mem_append.mp ha with z | z
    · exact D.apart a z
    · rw [List.mem_singleton.mp z]
      exact ⟨nd, nh⟩
def spRun : Sp := fun vs H Q _ => ∃ (rp wp dl : Addr) (rs ws : List Int) (as : List A3) (ds : List Day), vs = [.ref rp, .ref wp, .ref dl] ∧ H rp = some (.lst (iL rs)) ∧ H wp = some (.lst (iL ws)) ∧ DaysR H dl as ds ∧ ws.length = rs.length ∧ rs.length ≤ 4 ∧ ds.length ≤ 100 ∧
  (∀ d ∈ ds, d.1.length = rs.length ∧ d.2.length = rs.length) ∧ ∀ (l : Addr) (ts : List A3) (H' : Hp), PlanAt H H' l ts (planOf rs ws ds) → Same H H' → Q (.ref l) H'
theorem scRn : FnScope ["rooms", "waters", "days", "held", "plan", "rain", "wishes", "drawn", "over", "k", "water"] ["rooms", "waters", "days"] (defScope sRun) := ⟨rfl, rfl, rfl, by decide +kernel, rfl, by decide +kernel, by decide +kernel⟩
theorem ok_rn {f : Addr} {fd : FuncData} (F : Fun K "_law_run" "_law_run" sRun f fd) (T : Txt K mg C cY cB cD cL cT) : FnOk P w K mg base CX0 1 f fd ["rooms", "waters", "days"] spRun := by
  refine F.ok scRn (fun vs H Q E h => ?_) (fun cdv A outer s H vs Q E hr h => ?_)
  · obtain ⟨rp, wp, dl, rs, ws, as, ds, rfl, _⟩ := h
    rfl
  · obtain ⟨rp, wp, dl, rs, ws, as, ds, rfl, hrp, hwp, DR, hlw, h4, hd100, hrow, k⟩ := h
    show let X9 := _; let E9 := _; ∃ t, PSs X9 (defBody sRun) t ∧ t E9 _ _
    intro X9 E9
    let x1_3 : SB9 X9 ((fB9 ((fB9 (defBody sRun) 2)) 2)) 3 := ⟨_, pss_one (ps_set (i := 8) scRn.nd rfl (Or.inl rfl) (pe_op op_sub (pe_op op_sub (pv 10) (pe_ix ix_list (pv 7) (pv 9) (fun _ _ => rfl))) (pe_ix ix_list (pv 3) (pv 9) (fun _ _ => rfl))))⟩
    let tx1_3 : TS := x1_3.1
    have px1_3 : PSs X9 (List.drop 3 ((fB9 ((fB9 (defBody sRun) 2)) 2))) tx1_3 := x1_3.2
    let x1_2 : SB9 X9 ((fB9 ((fB9 (defBody sRun) 2)) 2)) 2 := ⟨_, pss_cons (ps_asg (pe_callB (call_min2 rfl) (by rfl) T.min boot_min (pa_cons (pe_op op_sub (pv 10) (pe_ix ix_list (pv 7) (pv 9) (fun _ _ => rfl))) (pa_cons (pe_ix ix_list (pv 0) (pv 9) (fun _ _ => rfl)) pa_nil))) (pg_sub (pv 3) (pv 9) set_list)) px1_3⟩
    let tx1_2 : TS := x1_2.1
    have px1_2 : PSs X9 (List.drop 2 ((fB9 ((fB9 (defBody sRun) 2)) 2))) tx1_2 := x1_2.2
    let x1_1 : SB9 X9 ((fB9 ((fB9 (defBody sRun) 2)) 2)) 1 := ⟨_, pss_cons (ps_expr (pe_bm PySem.F.plainAttrs_list PySem.F.slot_list_append PySem.F.type_list_append mt_append (pv 7) (pa_cons (pe_callB (call_min2 rfl) (by rfl) T.min boot_min (pa_cons (pv 10) (pa_cons (pe_ix ix_list (pv 6) (pv 9) (fun _ _ => rfl)) pa_nil))) pa_nil))) px1_2⟩
    let tx1_1 : TS := x1_1.1
    have px1_1 : PSs X9 (List.drop 1 ((fB9 ((fB9 (defBody sRun) 2)) 2))) tx1_1 := x1_1.2
    let x1_0 : SB9 X9 ((fB9 ((fB9 (defBody sRun) 2)) 2)) 0 := ⟨_, pss_cons (ps_set (i := 10) scRn.nd rfl (Or.inl rfl) (pe_op op_add (pe_op op_add (pe_ix ix_list (pv 3) (pv 9) (fun _ _ => rfl)) (pe_ix ix_list (pv 5) (pv 9) (fun _ _ => rfl))) (pv 8))) px1_1⟩
    let tx1_0 : TS := x1_0.1
    have px1_0 : PSs X9 (List.drop 0 ((fB9 ((fB9 (defBody sRun) 2)) 2))) tx1_0 := x1_0.2
    let x2_3 : SB9 X9 ((fB9 (defBody sRun) 2)) 3 := ⟨_, pss_one (ps_expr (pe_bm PySem.F.plainAttrs_list PySem.F.slot_list_append PySem.F.type_list_append mt_append (pv 4) (pa_cons (pe_tup (pa_cons (pv 7) (pa_cons (pe_callTy call_list_of (by rfl) T.list boot_lst (pa_cons (pv 3) pa_nil)) (pa_cons (pv 8) pa_nil)))) pa_nil)))⟩
    let tx2_3 : TS := x2_3.1
    have px2_3 : PSs X9 (List.drop 3 ((fB9 (defBody sRun) 2))) tx2_3 := x2_3.2
    let x2_2 : SB9 X9 ((fB9 (defBody sRun) 2)) 2 := ⟨_, pss_cons (ps_for PassesOwn.never rfl (pi_range1 (by rfl) T.range (pa_cons (pe_callB call_len_seq (by rfl) T.len PySem.boot_len (pa_cons (pv 0) pa_nil)) pa_nil)) (pg_name (i := 9) scRn.nd rfl (Or.inl rfl)) px1_0) px2_3⟩
    let tx2_2 : TS := x2_2.1
    have px2_2 : PSs X9 (List.drop 2 ((fB9 (defBody sRun) 2))) tx2_2 := x2_2.2
    let x2_1 : SB9 X9 ((fB9 (defBody sRun) 2)) 1 := ⟨_, pss_cons (ps_set (i := 8) scRn.nd rfl (Or.inl rfl) pe_int) px2_2⟩
    let tx2_1 : TS := x2_1.1
    have px2_1 : PSs X9 (List.drop 1 ((fB9 (defBody sRun) 2))) tx2_1 := x2_1.2
    let x2_0 : SB9 X9 ((fB9 (defBody sRun) 2)) 0 := ⟨_, pss_cons (ps_set (i := 7) scRn.nd rfl (Or.inl rfl) (pe_lst pa_nil)) px2_1⟩
    let tx2_0 : TS := x2_0.1
    have px2_0 : PSs X9 (List.drop 0 ((fB9 (defBody sRun) 2))) tx2_0 := x2_0.2
    let x3_3 : SB9 X9 (defBody sRun) 3 := ⟨_, pss_one (ps_ret (pv 4))⟩
    let tx3_3 : TS := x3_3.1
    have px3_3 : PSs X9 (List.drop 3 (defBody sRun)) tx3_3 := x3_3.2
    let x3_2 : SB9 X9 (defBody sRun) 2 := ⟨_, pss_cons (ps_for PassesOwn.never rfl (pi_list (pv 2)) (pg_tup rfl (pgs_cons (pg_name (i := 5) scRn.nd rfl (Or.inl rfl)) (pgs_cons (pg_name (i := 6) scRn.nd rfl (Or.inl rfl)) pgs_nil))) px2_0) px3_3⟩
    let tx3_2 : TS := x3_2.1
    have px3_2 : PSs X9 (List.drop 2 (defBody sRun)) tx3_2 := x3_2.2
    let x3_1 : SB9 X9 (defBody sRun) 1 := ⟨_, pss_cons (ps_set (i := 4) scRn.nd rfl (Or.inl rfl) (pe_lst pa_nil)) px3_2⟩
    let tx3_1 : TS := x3_1.1
    have px3_1 : PSs X9 (List.drop 1 (defBody sRun)) tx3_1 := x3_1.2
    let x3_0 : SB9 X9 (defBody sRun) 0 := ⟨_, pss_cons (ps_set (i := 3) scRn.nd rfl (Or.inl rfl) (pe_callTy call_list_of (by rfl) T.list boot_lst (pa_cons (pv 1) pa_nil))) px3_1⟩
    let tx3_0 : TS := x3_0.1
    have px3_0 : PSs X9 (List.drop 0 (defBody sRun)) tx3_0 := x3_0.2
    refine ⟨tx3_0, px3_0, ?_⟩
    -- held, plan
    refine ⟨_, rfl, wp, _, rfl, .inl (SqL.of hwp), fun hp hhp => ⟨Nat.zero_le _, fun pl hpl => ?_⟩⟩
    have nhp : hp ≠ pl := fun z => by
      rw [← z, upd_same] at hpl
      cases hpl
    have hpl0 : H pl = none := by rw [upd_ne nhp.symm] at hpl; exact hpl
    have s1 : Same H (upd (upd H hp (.lst (iL ws))) pl (.lst [])) := (same_upd hhp).trans (same_upd hpl)
    have hh1 : (upd (upd H hp (.lst (iL ws))) pl (.lst [])) hp = some (.lst (iL ws)) := by rw [upd_ne nhp, upd_same]
    have hp1 : (upd (upd H hp (.lst (iL ws))) pl (.lst [])) pl = some (.lst []) := upd_same
    generalize upd (upd H hp (.lst (iL ws))) pl (.lst []) = H1 at s1 hh1 hp1 ⊢
    refine ⟨_, rfl, dl, rfl, ⟨_, SqL.of (s1 _ _ DR.lst)⟩, ?_⟩
    have hasl : (as.map fun a => V.ref a.1).length = ds.length := by rw [List.length_map, DR.len]
    refine for_list (xs := as.map fun a => V.ref a.1) (fun i σ H' => Same H H' ∧ H' hp = some (.lst (iL (endOf rs ws (ds.take i)))) ∧ (∃ ts, PlanAt H H' pl ts (planOf rs ws (ds.take i)) ∧ ∀ t ∈ ts, hp ≠ t.2.1 ∧ hp ≠ t.2.2) ∧
      ∃ o5 o6 o7 o8 o9 o10, σ = [some (.ref rp), some (.ref wp), some (.ref dl), some (.ref hp), some (.ref pl), o5, o6, o7, o8, o9, o10]) ?_ ?_ ?_ ?_
    · refine ⟨s1, hh1, ⟨[], ⟨rfl, hp1, fun i a p h => by simp at h, by simp, by simp, hpl0⟩, by simp⟩, none, none, none, none, none, none, rfl⟩
    · rintro i σ H' _ ⟨s2, _⟩
      exact SqL.of (s2 _ _ DR.lst)
    · rintro i x σ H' hx ⟨s2, hh2, ⟨ts, PA2, hts⟩, o5, o6, o7, o8, o9, o10, rfl⟩
      -- the day
      rw [List.getElem?_map] at hx
      obtain ⟨a, ha, rfl⟩ : ∃ a, as[i]? = some a ∧ V.ref a.1 = x := by
        cases e : as[i]? with
        | none => rw [e] at hx; cases hx
        | some a => rw [e] at hx; exact ⟨a, rfl, Option.some.inj hx⟩
      have hid : i < ds.length := by rw [← DR.len]; exact (List.getElem?_eq_some_iff.mp ha).1
      obtain ⟨dy, hdy⟩ : ∃ d, ds[i]? = some d := ⟨_, List.getElem?_eq_getElem hid⟩
      obtain ⟨tk, p, q⟩ := a
      have htk := s2 _ _ (DR.tup _ (List.mem_of_getElem? ha))
      have hpq := DR.row i _ dy ha hdy
      have hp2 := s2 _ _ hpq.1
      have hq2 := s2 _ _ hpq.2
      obtain ⟨hl1, hl2⟩ := hrow dy (List.mem_of_getElem? hdy)
      have hel := endOf_len rs (ds.take i) ws hlw
      have e1 : endOf rs ws (ds.take (i + 1)) = kpL rs (endOf rs ws (ds.take i)) dy.1 dy.2 rs.length := by rw [take_snoc hdy, endOf_snoc]
      have e2 : planOf rs ws (ds.take (i + 1)) = planOf rs ws (ds.take i) ++ [oneDay rs (endOf rs ws (ds.take i)) dy] := by rw [take_snoc hdy, planOf_snoc]
      have npl : (planOf rs ws (ds.take i)).length ≤ 100 := by rw [planOf_len, List.length_take]; omega
      rw [e1, e2]
      generalize endOf rs ws (ds.take i) = h at hh2 hel ⊢
      generalize planOf rs ws (ds.take i) = ps at PA2 npl ⊢
      refine ⟨tk, _, rfl, SqT.of htk, rfl, _, _, rfl, _, _, rfl, rfl, ?_⟩
      -- drawn = [], over = 0
      refine ⟨Nat.zero_le _, fun d hd => ?_⟩
      have nhd : hp ≠ d := ne_of_none hh2 hd
      have npd : pl ≠ d := ne_of_none PA2.lst hd
      have s3 := same_upd (o := .lst []) hd
      have eln : ((iL rs).length : Int) = (rs.length : Int) := by rw [List.length_map]
      have hd0 : H d = none := s2.free hd
      refine ⟨_, rfl, rp, _, rfl, .inl (SqL.of (s3 _ _ (s2 _ _ hrp))), _, rfl, by omega, by rw [eln]; omega, ?_⟩
      have en : ((iL rs).length : Int).toNat = rs.length := by rw [eln]; omega
      rw [en]
      refine for_range (n := rs.length) (fun j σ H3 => (∀ b o, H' b = some o → b ≠ hp → H3 b = some o) ∧ H3 hp = some (.lst (iL (mid rs h dy.1 dy.2 j))) ∧ H3 d = some (.lst (iL (drL rs h dy.1 dy.2 j))) ∧
        ∃ o9 o10, σ = [some (.ref rp), some (.ref wp), some (.ref dl), some (.ref hp), some (.ref pl), some (.ref p), some (.ref q), some (.ref d), some (.int (fallAt rs h dy.1 dy.2 j)), o9, o10]) ?_ ?_ ?_
      · refine ⟨fun b o z _ => s3 _ _ z, ?_, upd_same, _, _, rfl⟩
        rw [upd_ne nhd, mid_zero]
        exact hh2
      · rintro j σ H3 hj ⟨s4, hh3, hd3, p9, p10, rfl⟩
        have e0 : (0 : Int) + (j : Int) = (j : Int) := by omega
        have hjh : j < h.length := by omega
        have nph : p ≠ hp := (ne_of_none hpq.1 hhp)
        have nqh : q ≠ hp := (ne_of_none hpq.2 hhp)
        have nrh : rp ≠ hp := (ne_of_none hrp hhp)
        have hp3 := s4 _ _ hp2 nph
        have hq3 := s4 _ _ hq2 nqh
        have hr3 := s4 _ _ (s2 _ _ hrp) nrh
        have a1 := iL_get2 (mid_at (rs := rs) (ra := dy.1) (wi := dy.2) hjh)
        have a2 := iL_at (l := dy.1) (i := j) (by omega)
        have a3 := iL_at (l := dy.2) (i := j) (by omega)
        have a4 := iL_at (l := rs) hj
        refine ⟨_, rfl, _, rfl, hp, _, _, _, rfl, rfl, SqL.of hh3, (by rw [e0]; exact atI_nat a1), _, rfl, _, rfl, p, _, _, _, rfl, rfl, SqL.of hp3, (by rw [e0]; exact atI_nat a2), _, _, rfl, rfl, _, rfl, _, _, rfl, rfl, ?_⟩
        -- drawn.append(min(water, wishes[k]))
        refine ⟨_, rfl, .inl ⟨rfl, _, SqL.of hd3⟩, _, rfl, _, rfl, _, rfl, q, _, _, _, rfl, rfl, SqL.of hq3, (by rw [e0]; exact atI_nat a3), _, _, rfl, ?_⟩
        rw [py_min]
        refine ⟨d, _, _, rfl, rfl, hd3, small1000 (by rw [List.length_map, drL_len]; omega), ?_⟩
        have ev : min (gI h j + gI dy.1 j + fallAt rs h dy.1 dy.2 j) (gI dy.2 j) = drAt rs h dy.1 dy.2 j := Int.min_comm _ _
        rw [ev, iL_snoc, ← drL_succ]
        have s5 : ∀ b o, H3 b = some o → b ≠ d → (upd H3 d (.lst (iL (drL rs h dy.1 dy.2 (j + 1))))) b = some o := fun b o z hb => by rw [upd_ne hb]; exact z
        have hd5 : (upd H3 d (.lst (iL (drL rs h dy.1 dy.2 (j + 1))))) d = some (.lst (iL (drL rs h dy.1 dy.2 (j + 1)))) := upd_same
        generalize upd H3 d (.lst (iL (drL rs h dy.1 dy.2 (j + 1)))) = H4 at s5 hd5 ⊢
        have hh5 := s5 _ _ hh3 nhd
        have hr5 := s5 _ _ hr3 (ne_of_none hrp hd0)
        have a5 := iL_get2 (drL_now (rs := rs) (h := h) (ra := dy.1) (wi := dy.2) (i := j))
        -- held[k] = min(water - drawn[k], rooms[k])
        refine ⟨_, rfl, _, rfl, _, rfl, d, _, _, _, rfl, rfl, SqL.of hd5, (by rw [e0]; exact atI_nat a5), _, _, rfl, rfl, _, rfl, _, rfl, rp, _, _, _, rfl, rfl, SqL.of hr5, (by rw [e0]; exact atI_nat a4), _, _, rfl, ?_⟩
        rw [py_min]
        have ev2 : min (gI h j + gI dy.1 j + fallAt rs h dy.1 dy.2 j - drAt rs h dy.1 dy.2 j) (gI rs j) = kpAt rs h dy.1 dy.2 j := Int.min_comm _ _
        rw [ev2]
        refine ⟨_, rfl, _, rfl, hp, _, _, j, rfl, rfl, hh5, ?_, ?_⟩
        · unfold ixN
          rw [if_pos (by omega), if_pos (by rw [List.length_map, mid_len (by omega)]; omega)]
          congr 1
          omega
        have es : (iL (mid rs h dy.1 dy.2 j)).set j (.int (kpAt rs h dy.1 dy.2 j)) = iL (mid rs h dy.1 dy.2 (j + 1)) := by
          rw [← mid_set hjh]
          exact (List.map_set ..).symm
        rw [es]
        have hd6 : (upd H4 hp (.lst (iL (mid rs h dy.1 dy.2 (j + 1))))) d = some (.lst (iL (drL rs h dy.1 dy.2 (j + 1)))) := by rw [upd_ne nhd.symm]; exact hd5
        have a6 := iL_get2 (mid_now (rs := rs) (h := h) (ra := dy.1) (wi := dy.2) (i := j))
        refine ⟨_, rfl, _, rfl, _, rfl, d, _, _, _, rfl, rfl, SqL.of hd6, (by rw [e0]; exact atI_nat a5), _, _, rfl, rfl, _, rfl, _, rfl, hp, _, _, _, rfl, rfl, SqL.of upd_same, (by rw [e0]; exact atI_nat a6), _, _, rfl, rfl, ?_⟩
        refine ⟨fun b o z hb => ?_, upd_same, hd6, _, _, rfl⟩
        rw [upd_ne hb]
        exact s5 _ _ (s4 _ _ z hb) (ne_of_none z hd)
      · rintro σ H3 ⟨s4, hh3, hd3, p9, p10, rfl⟩
        rw [mid_end hel] at hh3
        have hpl3 := s4 _ _ PA2.lst nhp.symm
        -- plan.append((drawn, list(held), over))
        refine ⟨_, rfl, .inl ⟨rfl, _, SqL.of hpl3⟩, _, rfl, _, rfl, hp, _, rfl, .inl (SqL.of hh3), fun g hg => ⟨_, rfl, (by show 3 ≤ sizeLine; decide), fun t ht => ?_⟩⟩
        have s5 := same_upd (o := .lst (iL (kpL rs h dy.1 dy.2 rs.length))) hg
        have s6 := same_upd (o := .tup [.ref d, .ref g, .int (fallAt rs h dy.1 dy.2 rs.length)]) ht
        have s56 := s5.trans s6
        refine ⟨pl, _, _, rfl, rfl, s56 _ _ hpl3, small1000 (by rw [List.length_map, PA2.len]; omega), ?_⟩
        have ngp : pl ≠ g := ne_of_none hpl3 hg
        have ntp : pl ≠ t := ne_of_none (s5 _ _ hpl3) ht
        have nhg : hp ≠ g := ne_of_none hh3 hg
        have s03 : Same H H3 := fun b o z => s4 _ _ (s2 _ _ z) (ne_of_none z hhp)
        have kk : ∀ b o, H3 b = some o → b ≠ pl → (upd (upd (upd H3 g (.lst (iL (kpL rs h dy.1 dy.2 rs.length)))) t (.tup [.ref d, .ref g, .int (fallAt rs h dy.1 dy.2 rs.length)])) pl (.lst ((ts.map fun a => V.ref a.1) ++ [.ref t]))) b = some o := fun b o z hb => by
          rw [upd_ne hb]
          exact s56 _ _ z
        refine ⟨fun b o z => kk _ _ (s03 _ _ z) (ne_of_none z hpl0), kk _ _ hh3 nhp, ⟨ts ++ [(t, d, g)], ?_, fun x hx => ?_⟩, _, _, _, _, _, _, rfl⟩
        · have PA3 : PlanAt H H3 pl ts ps := by
            refine ⟨PA2.len, hpl3, fun i' a' p' h1 h2 => ?_, PA2.fr, PA2.apart, PA2.nl⟩
            have := PA2.row i' a' p' h1 h2
            have n := hts a' (List.mem_of_getElem? h1)
            exact ⟨s4 _ _ this.1 (ne_of this.1 hh2 (by nofun)), s4 _ _ this.2.1 n.1.symm, s4 _ _ this.2.2 n.2.symm⟩
          refine PA3.more kk upd_same ?_ (kk _ _ hd3 npd.symm) ?_ (s03.free (s5.free ht)) hd0 (s03.free hg) npd ngp
          · rw [upd_ne ntp.symm, upd_same]
            rfl
          · rw [upd_ne ngp.symm]
            exact s6 _ _ upd_same
        · rcases List.mem_append.mp hx with z | z
          · exact hts x z
          · rw [List.mem_singleton.mp z]
            exact ⟨nhd, nhg⟩
    · rintro σ H' ⟨s2, hh2, ⟨ts, PA2, hts⟩, o5, o6, o7, o8, o9, o10, rfl⟩
      rw [hasl, List.take_length] at PA2
      exact ⟨_, rfl, k pl ts H' PA2 s2⟩
end
end Z

set_option Elab.async false
set_option linter.all false
set_option maxRecDepth 100000
set_option maxHeartbeats 8000000
namespace Z
open PySem L2
section
variable {P : Program} {w : World} {K : PySem.W.Frag} {mg : Str → Option Value} {base : Heap} {C cY cB cD cL cT : Addr}
/-- an object made: all else is as it was -/
theorem made_same {H H' : Hp} {x dx C' : Addr} {u : Hp} (nx : H x = none) (ndx : H dx = none) (hu : u = upd (upd H dx (.own x)) x (.ins C' dx [])) (kp : ∀ b o, u b = some o → b ≠ x → H' b = some o) : Same H H' := fun b o z => by
  subst hu
  refine kp b o ?_ (ne_of_none z nx)
  rw [upd_ne (ne_of_none z nx), upd_ne (ne_of_none z ndx)]
  exact z
def spLaw (K : PySem.W.Frag) : Sp := fun vs H Q _ => ∃ (a : Addr) (ns : List Int), vs = [.ref a] ∧ SqL K H a (iL ns) ∧ ns.length ≤ 63 ∧ ∀ H', Q (.bl true) H'
end
end Z

set_option Elab.async false
set_option linter.all false
set_option maxRecDepth 100000
set_option maxHeartbeats 8000000
namespace Z
open PySem L2
theorem Good.next {rs ws ra wi : List Int} (g : Good rs ws) (d : DayOk rs.length ra wi) : Good rs (kpL rs ws ra wi rs.length) := by
  refine ⟨g.n1, g.n4, kpL_len .., fun i r v e1 e2 => ?_⟩
  have hi : i < rs.length := (List.getElem?_eq_some_iff.mp e1).1
  have er := gI_at e1
  have ev := gI_at e2
  rw [gI_kpL hi] at ev
  have h0 := kp_nn g.nn.1 g.nn.2 d.nn.1 d.nn.2 i
  have hr := g.rs r (List.mem_of_getElem? e1)
  have h1 : kpAt rs ws ra wi i ≤ gI rs i := by unfold kpAt; omega
  omega
section
variable {P : Program} {w : World} {K : PySem.W.Frag} {mg : Str → Option Value} {base : Heap} {C cY cB cD cL cT : Addr}
def spLived (K : PySem.W.Frag) (C : Addr) : Sp := fun vs H Q _ => ∃ (a rp wp : Addr) (ns rs ws : List Int), vs = [.ref a, .ref rp, .ref wp] ∧ SqL K H a (iL ns) ∧ ns.length ≤ 63 ∧ H rp = some (.lst (iL rs)) ∧ H wp = some (.lst (iL ws)) ∧ Good rs ws ∧
  ∀ (t y sz lv hp : Addr) (held : List Int) (H' : Hp), H t = none → H' t = some (.tup [.ref y, .ref hp]) → YardAt C H' y sz lv rs held → H' hp = some (.lst (iL held)) → Good rs held → Same H H' → Q (.ref t) H'
theorem scLi : FnScope ["script", "rooms", "waters", "side", "held", "number", "rain", "wishes"] ["script", "rooms", "waters"] (defScope sLived) := ⟨rfl, rfl, rfl, by decide +kernel, rfl, by decide +kernel, by decide +kernel⟩
theorem ndLi : (["k", "script", "number"] : List Str).Nodup := by decide +kernel
theorem ok_li {f fD fI fDy fN : Addr} {fd fdD fdI fdDy fdN : FuncData} (F : Fun K "_law_lived" "_law_lived" sLived f fd) (T : Txt K mg C cY cB cD cL cT)
    (FD : Fun K "_law_drawn" "_law_drawn" sDrawn fD fdD) (bD : Binds K fdD ["script", "k", "many"] []) (mD : mg "_law_drawn" = some (.ref fD))
    (M : Mk K C fI) (GI : FnOk P w K mg base (CXo P w) 4 fI fdI ["self", "rooms", "waters"] (spInit C cB)) (bI : Binds K fdI ["self", "rooms", "waters"] [])
    (eDy : Meth K C "day" fDy) (bDy : Binds K fdDy ["self", "rain", "wishes"] []) (GDy : FnOk P w K mg base (CXo P w) 4 fDy fdDy ["self", "rain", "wishes"] (spDay C cD))
    (FN : Fun K "_law_run" "_law_run" sRun fN fdN) (bN : Binds K fdN ["rooms", "waters", "days"] []) (mN : mg "_law_run" = some (.ref fN)) :
    FnOk P w K mg base CX0 6 f fd ["script", "rooms", "waters"] (spLived K C) := by
  have GD : FnOk P w K mg base CX0 1 fD fdD ["script", "k", "many"] (spDrawn K) := ok_dr FD T
  have GN : FnOk P w K mg base CX0 1 fN fdN ["rooms", "waters", "days"] spRun := ok_rn FN T
  refine F.ok scLi (fun vs H Q E h => ?_) (fun cdv A outer s H vs Q E hr h => ?_)
  · obtain ⟨a, rp, wp, ns, rs, ws, rfl, _⟩ := h
    rfl
  · obtain ⟨a, rp, wp, ns, rs, ws, rfl, hs, hl, hrp, hwp, g, k⟩ := h
    have hr1 := hr.mono (show 1 ≤ 5 by decide)
    have hr4 := hr.mono (show 4 ≤ 5 by decide)
    have hn4 := g.n4
    show let X9 := _; let E9 := _; ∃ t, PSs X9 (defBody sLived) t ∧ t E9 _ _
    intro X9 E9
    let x1_3 : SB9 X9 ((fB9 (defBody sLived) 2)) 3 := ⟨_, pss_one (ps_set (i := 4) scLi.nd rfl (Or.inl rfl) (pe_ix ix_tup (pe_ix ix_list (pe_call GN hr1 (by rfl) mN FN.kp bN .nil pass0 (pa_cons (pv 1) (pa_cons (pv 4) (pa_cons (pe_lst (pa_cons (pe_tup (pa_cons (pv 6) (pa_cons (pv 7) pa_nil))) pa_nil)) pa_nil)))) pe_int (fun _ _ => rfl)) pe_int (fun _ _ => rfl)))⟩
    let tx1_3 : TS := x1_3.1
    have px1_3 : PSs X9 (List.drop 3 ((fB9 (defBody sLived) 2))) tx1_3 := x1_3.2
    let x1_2 : SB9 X9 ((fB9 (defBody sLived) 2)) 2 := ⟨_, pss_cons (ps_expr (pe_methX (pv 3) T.cl eDy GDy hr4 bDy .nil passes_no (pa_cons (pv 6) (pa_cons (pv 7) pa_nil)))) px1_3⟩
    let tx1_2 : TS := x1_2.1
    have px1_2 : PSs X9 (List.drop 2 ((fB9 (defBody sLived) 2))) tx1_2 := x1_2.2
    let x1_1 : SB9 X9 ((fB9 (defBody sLived) 2)) 1 := ⟨_, pss_cons (ps_setC (i := 7) scLi.nd rfl (Or.inl rfl) (N := ["k", "script", "number"]) (cap := [none, some 0, some 5]) rfl (.of (by rfl)) (pi_range1 (by rfl) T.range (pa_cons (pe_callB call_len_seq (by rfl) T.len PySem.boot_len (pa_cons (pv 1) pa_nil)) pa_nil))
            (fun _ _ _ _ => pg_name (i := 0) ndLi rfl (Or.inl rfl)) (fun _ _ _ _ => pts_nil)
            (fun _ _ _ _ => pe_call GD hr1 (by rfl) mD FD.kp bD .nil pass0 (pa_cons (pv 1) (pa_cons (pe_op op_add (pe_op op_add pe_int (pe_op op_mul pe_int (pv 2))) (pv 0)) (pa_cons pe_int pa_nil))))) px1_2⟩
    let tx1_1 : TS := x1_1.1
    have px1_1 : PSs X9 (List.drop 1 ((fB9 (defBody sLived) 2))) tx1_1 := x1_1.2
    let x1_0 : SB9 X9 ((fB9 (defBody sLived) 2)) 0 := ⟨_, pss_cons (ps_setC (i := 6) scLi.nd rfl (Or.inl rfl) (N := ["k", "script", "number"]) (cap := [none, some 0, some 5]) rfl (.of (by rfl)) (pi_range1 (by rfl) T.range (pa_cons (pe_callB call_len_seq (by rfl) T.len PySem.boot_len (pa_cons (pv 1) pa_nil)) pa_nil))
            (fun _ _ _ _ => pg_name (i := 0) ndLi rfl (Or.inl rfl)) (fun _ _ _ _ => pts_nil)
            (fun _ _ _ _ => pe_call GD hr1 (by rfl) mD FD.kp bD .nil pass0 (pa_cons (pv 1) (pa_cons (pe_op op_add (pe_op op_add pe_int (pe_op op_mul pe_int (pv 2))) (pv 0)) (pa_cons pe_int pa_nil))))) px1_1⟩
    let tx1_0 : TS := x1_0.1
    have px1_0 : PSs X9 (List.drop 0 ((fB9 (defBody sLived) 2))) tx1_0 := x1_0.2
    let x2_3 : SB9 X9 (defBody sLived) 3 := ⟨_, pss_one (ps_ret (pe_tup (pa_cons (pv 3) (pa_cons (pv 4) pa_nil))))⟩
    let tx2_3 : TS := x2_3.1
    have px2_3 : PSs X9 (List.drop 3 (defBody sLived)) tx2_3 := x2_3.2
    let x2_2 : SB9 X9 (defBody sLived) 2 := ⟨_, pss_cons (ps_for PassesOwn.never rfl (pi_range1 (by rfl) T.range (pa_cons (pe_call GD hr1 (by rfl) mD FD.kp bD .nil pass0 (pa_cons (pv 0) (pa_cons pe_int (pa_cons pe_int pa_nil)))) pa_nil)) (pg_name (i := 5) scLi.nd rfl (Or.inr rfl)) px1_0) px2_3⟩
    let tx2_2 : TS := x2_2.1
    have px2_2 : PSs X9 (List.drop 2 (defBody sLived)) tx2_2 := x2_2.2
    let x2_1 : SB9 X9 (defBody sLived) 1 := ⟨_, pss_cons (ps_set (i := 4) scLi.nd rfl (Or.inl rfl) (pe_callTy call_list_of (by rfl) T.list boot_lst (pa_cons (pv 2) pa_nil))) px2_2⟩
    let tx2_1 : TS := x2_1.1
    have px2_1 : PSs X9 (List.drop 1 (defBody sLived)) tx2_1 := x2_1.2
    let x2_0 : SB9 X9 (defBody sLived) 0 := ⟨_, pss_cons (ps_set (i := 3) scLi.nd rfl (Or.inl rfl) (pe_makeX M GI hr (by rfl) T.mgC bI .nil passes_no (pa_cons (pe_callTy call_list_of (by rfl) T.list boot_lst (pa_cons (pv 1) pa_nil)) (pa_cons (pe_callTy call_list_of (by rfl) T.list boot_lst (pa_cons (pv 2) pa_nil)) pa_nil)))) px2_1⟩
    let tx2_0 : TS := x2_0.1
    have px2_0 : PSs X9 (List.drop 0 (defBody sLived)) tx2_0 := x2_0.2
    refine ⟨tx2_0, px2_0, ?_⟩
    -- side
    refine ⟨_, rfl, rp, _, rfl, .inl (SqL.of hrp), fun p1 hp1 => ?_⟩
    have sa := same_upd (o := .lst (iL rs)) hp1
    refine ⟨_, rfl, wp, _, rfl, .inl (SqL.of (sa _ _ hwp)), fun q1 hq1 => ?_⟩
    have sb := same_upd (o := .lst (iL ws)) hq1
    have hp1' := sb _ _ (upd_same (H := H) (a := p1) (o := .lst (iL rs)))
    have hq1' : (upd (upd H p1 (.lst (iL rs))) q1 (.lst (iL ws))) q1 = some (.lst (iL ws)) := upd_same
    have sab := sa.trans sb
    generalize upd (upd H p1 (.lst (iL rs))) q1 (.lst (iL ws)) = H3 at sb hp1' hq1' sab ⊢
    intro y dx ny ndx nex
    have hge := g.eq
    refine ⟨y, dx, p1, q1, rs, ws, rfl, upd_same, (by rw [upd_ne (ne_of_none hp1' ny), upd_ne (ne_of_none hp1' ndx)]; exact hp1'), (by rw [upd_ne (ne_of_none hq1' ny), upd_ne (ne_of_none hq1' ndx)]; exact hq1'), by omega, by omega, fun _ sz lv H4 fsz flv nsl Y kp => ⟨rfl, ?_⟩, fun z => absurd g z⟩
    have s34 : Same H3 H4 := made_same ny ndx rfl kp
    have s4 := sab.trans s34
    have yH : H y = none := sab.free ny
    clear kp fsz flv
    -- held
    refine ⟨_, rfl, wp, _, rfl, .inl (SqL.of (s4 _ _ hwp)), fun hp hhp => ?_⟩
    have se := same_upd (o := .lst (iL ws)) hhp
    have s5 := s4.trans se
    have hhp5 : (upd H4 hp (.lst (iL ws))) hp = some (.lst (iL ws)) := upd_same
    have Y5 := Y.same se
    generalize upd H4 hp (.lst (iL ws)) = H5 at se s5 hhp5 Y5 ⊢
    refine ⟨_, rfl, a, ns, _, _, rfl, s5.seq hs, hl, by omega, by omega, by decide, fun cnt n0 n1 => ⟨_, rfl, by omega, by omega, ?_⟩⟩
    obtain ⟨cn, ecn⟩ : ∃ cn : Nat, cnt.toNat = cn := ⟨_, rfl⟩
    rw [ecn]
    have hcn : cn ≤ 2 := by omega
    refine for_range (n := cn) (fun i σ H' => Same H H' ∧ ∃ (lv hp : Addr) (held : List Int), YardAt C H' y sz lv rs held ∧ H' hp = some (.lst (iL held)) ∧ Good rs held ∧
      ∃ o5 o6 o7, σ = [some (.ref a), some (.ref rp), some (.ref wp), some (.ref y), some (.ref hp), o5, o6, o7]) ?_ ?_ ?_
    · exact ⟨s5, lv, hp, ws, Y5, hhp5, g, none, none, none, rfl⟩
    · rintro i σ H' hi ⟨s6, lv', hp', held, Y6, hh6, g6, o5, o6, o7, rfl⟩
      have hs6 := s6.seq hs
      have eln : ((iL rs).length : Int) = (rs.length : Int) := by rw [List.length_map]
      have en : ((iL rs).length : Int).toNat = rs.length := by rw [eln]; omega
      -- rain
      refine ⟨_, rfl, rp, _, rfl, .inl (SqL.of (s6 _ _ hrp)), _, rfl, by omega, by omega, fun p hp => ?_⟩
      rw [en]
      refine comp_by rs.length (sz100 (by omega)) (fun j ys τ H4 => j ≤ rs.length ∧ (∃ ra : List Int, ys = iL ra ∧ ra.length = j ∧ ∀ v ∈ ra, 0 ≤ v ∧ v ≤ 30) ∧ H4 = upd H' p (.lst ys) ∧ ∃ o, τ = [o, some (.ref a), some (.int (0 + (i : Int)))]) ?_ ?_ ?_ ?_
      · exact ⟨Nat.zero_le _, ⟨[], rfl, rfl, by simp⟩, rfl, none, rfl⟩
      · rintro j ys τ H4 ⟨hj, ⟨ra, rfl, hrl, _⟩, rfl, _⟩
        exact ⟨upd_same, by rw [List.length_map, hrl]; exact Nat.le_refl _⟩
      · rintro j ys τ H4 hj ⟨_, ⟨ra, rfl, hrl, hnn⟩, rfl, o, rfl⟩
        refine ⟨hj, ?_⟩
        rintro x H3 ⟨rfl, rfl⟩
        refine name_yes_if ?_
        refine ⟨_, rfl, _, rfl, _, _, rfl, rfl, .inl ⟨by decide, by decide⟩, _, _, rfl, rfl, _, rfl, _, _, rfl, rfl, a, ns, _, _, rfl, (same_upd hp).seq hs6, hl, by omega, by omega, by decide, fun r r0 r1 => ⟨upd_same, hj, ⟨ra ++ [r], iL_snoc ra r, ?_, ?_⟩, ?_, _, rfl⟩⟩
        · rw [List.length_append, hrl]
          rfl
        · intro v hv
          rcases List.mem_append.mp hv with z | z
          · exact hnn v z
          · rw [List.mem_singleton.mp z]
            omega
        · rw [upd_upd]
      rintro ys τ H4 ⟨_, ⟨ra, rfl, hrl, hra⟩, rfl, o, rfl⟩
      refine ⟨Nat.le_refl _, ?_⟩
      have s7 := same_upd (o := .lst (iL ra)) hp
      have s67 := s6.trans s7
      have hp7 : (upd H' p (.lst (iL ra))) p = some (.lst (iL ra)) := upd_same
      have hs7 := s7.seq hs6
      have Y7 := Y6.same s7
      have hh7 := s7 _ _ hh6
      generalize upd H' p (.lst (iL ra)) = H7 at s7 s67 hp7 hs7 Y7 hh7 ⊢
      -- wishes
      refine ⟨_, rfl, rp, _, rfl, .inl (SqL.of (s67 _ _ hrp)), _, rfl, by omega, by omega, fun q hq => ?_⟩
      rw [en]
      refine comp_by rs.length (sz100 (by omega)) (fun j ys τ H4 => j ≤ rs.length ∧ (∃ wi : List Int, ys = iL wi ∧ wi.length = j ∧ ∀ v ∈ wi, 0 ≤ v ∧ v ≤ 30) ∧ H4 = upd H7 q (.lst ys) ∧ ∃ o, τ = [o, some (.ref a), some (.int (0 + (i : Int)))]) ?_ ?_ ?_ ?_
      · exact ⟨Nat.zero_le _, ⟨[], rfl, rfl, by simp⟩, rfl, none, rfl⟩
      · rintro j ys τ H4 ⟨hj, ⟨ra, rfl, hrl, _⟩, rfl, _⟩
        exact ⟨upd_same, by rw [List.length_map, hrl]; exact Nat.le_refl _⟩
      · rintro j ys τ H4 hj ⟨_, ⟨wi, rfl, hwl, hnn⟩, rfl, o, rfl⟩
        refine ⟨hj, ?_⟩
        rintro x H3 ⟨rfl, rfl⟩
        refine name_yes_if ?_
        refine ⟨_, rfl, _, rfl, _, _, rfl, rfl, .inl ⟨by decide, by decide⟩, _, _, rfl, rfl, _, rfl, _, _, rfl, rfl, a, ns, _, _, rfl, (same_upd hq).seq hs7, hl, by omega, by omega, by decide, fun r r0 r1 => ⟨upd_same, hj, ⟨wi ++ [r], iL_snoc wi r, ?_, ?_⟩, ?_, _, rfl⟩⟩
        · rw [List.length_append, hwl]
          rfl
        · intro v hv
          rcases List.mem_append.mp hv with z | z
          · exact hnn v z
          · rw [List.mem_singleton.mp z]
            omega
        · rw [upd_upd]
      rintro ys τ H4 ⟨_, ⟨wi, rfl, hwl, hwi⟩, rfl, o, rfl⟩
      refine ⟨Nat.le_refl _, ?_⟩
      have s8 := same_upd (o := .lst (iL wi)) hq
      have s68 := s67.trans s8
      have hq8 : (upd H7 q (.lst (iL wi))) q = some (.lst (iL wi)) := upd_same
      have hp8 := s8 _ _ hp7
      have Y8 := Y7.same s8
      have hh8 := s8 _ _ hh7
      generalize upd H7 q (.lst (iL wi)) = H8 at s8 s68 hq8 hp8 Y8 hh8 ⊢
      -- the day
      obtain ⟨dz, hy8⟩ := Y8.ob
      have dk : DayOk rs.length ra wi := ⟨⟨hrl, hra⟩, hwl, hwi⟩
      refine ⟨_, rfl, y, dz, _, rfl, hy8, fl_no _ _ (by decide) (by decide), _, rfl, _, rfl, y, sz, lv', p, q, rs, held, ra, wi, rfl, Y8, hp8, hq8, g6.eq, hn4, by omega, by omega, fun _ dA kA tA H9 fd fk ft ndk htA hdA Y9 kp9 => ?_, fun z => absurd dk z⟩
      have s9 : Same H H9 := fun b o z => kp9 b o (s68 _ _ z) (ne_of_none z yH)
      have hp9 := kp9 _ _ hp8 (ne_of hp8 hy8 (by nofun))
      have hq9 := kp9 _ _ hq8 (ne_of hq8 hy8 (by nofun))
      have hh9 := kp9 _ _ hh8 (ne_of hh8 hy8 (by nofun))
      -- held
      refine ⟨_, rfl, _, rfl, _, rfl, _, rfl, (by show 2 ≤ sizeLine; decide), fun t ht => ⟨(by show 1 ≤ sizeLine; decide), fun dl hdl => ?_⟩⟩
      have sf := same_upd (o := .tup [.ref p, .ref q]) ht
      have sg := same_upd (o := .lst [.ref t]) hdl
      have sfg := sf.trans sg
      have ht' := sg _ _ (upd_same (H := H9) (a := t) (o := .tup [.ref p, .ref q]))
      have hdl' : (upd (upd H9 t (.tup [.ref p, .ref q])) dl (.lst [.ref t])) dl = some (.lst [.ref t]) := upd_same
      generalize upd (upd H9 t (.tup [.ref p, .ref q])) dl (.lst [.ref t]) = HA at sfg ht' hdl' ⊢
      refine ⟨rp, hp', dl, rs, held, [(t, p, q)], [(ra, wi)], rfl, sfg _ _ (s9 _ _ hrp), sfg _ _ hh9, ⟨rfl, hdl', fun x hx => ?_, fun i x dd e1 e2 => ?_⟩, g6.eq, hn4, (by show 1 ≤ 100; decide), fun dd hdd => ?_, ?_⟩
      · rw [List.mem_singleton.mp hx]
        exact ht'
      · match i, e1, e2 with
        | 0, e1, e2 =>
          cases e1
          cases e2
          exact ⟨sfg _ _ hp9, sfg _ _ hq9⟩
        | i + 1, e1, e2 => simp at e1
      · rw [List.mem_singleton.mp hdd]
        exact ⟨hrl, hwl⟩
      intro lp ts HB PA sB
      obtain ⟨⟨t2, d2, g2⟩, rfl⟩ : ∃ x, ts = [x] := by
        have := PA.len
        match ts, this with
        | [x], _ => exact ⟨x, rfl⟩
      obtain ⟨ht2, hd2, hg2⟩ := PA.row 0 _ _ rfl rfl
      have s9B := sfg.trans sB
      refine ⟨lp, _, _, _, rfl, rfl, SqL.of PA.lst, atI_nat (j := 0) rfl, t2, _, _, _, rfl, rfl, SqT.of ht2, atI_nat (j := 1) rfl, ?_⟩
      exact ⟨s9.trans s9B, kA, g2, _, Y9.same s9B, hg2, g6.next dk, _, _, _, rfl⟩
    · rintro σ H' ⟨s6, lv', hp', held, Y6, hh6, g6, o5, o6, o7, rfl⟩
      refine ⟨_, rfl, _, rfl, (by show 2 ≤ sizeLine; decide), fun t ht => ?_⟩
      have s7 := same_upd (o := .tup [.ref y, .ref hp']) ht
      exact k t y sz lv' hp' held _ (s6.free ht) upd_same (Y6.same s7) (s7 _ _ hh6) g6 (s6.trans s7)
end
end Z

set_option Elab.async false
set_option linter.all false
set_option maxRecDepth 100000
set_option maxHeartbeats 8000000
namespace Z
open PySem L2
/-! ### slices and their sums -/
theorem take_min {α : Type} (xs : List α) (n : Nat) : xs.take (min n xs.length) = xs.take n := by
  by_cases h : n ≤ xs.length
  · rw [Nat.min_eq_left h]
  · rw [Nat.min_eq_right (by omega), List.take_length, List.take_of_length_le (by omega)]
theorem cut_take {xs : List Int} {v : Int} (h : 0 ≤ v) : cutV (iL xs) none (some v) = iL (xs.take v.toNat) := by
  obtain ⟨n, rfl⟩ : ∃ n : Nat, v = (n : Int) := ⟨v.toNat, by omega⟩
  unfold cutV
  rw [HT.sIx_none, HT.sIx_nat, List.drop_zero, Nat.sub_zero, take_min, Int.toNat_natCast]
  exact (List.map_take).symm
theorem cut_mid {xs : List Int} {b v : Int} (hb : 0 ≤ b) (h : 0 ≤ v) (hb2 : b ≤ xs.length) (h2 : v ≤ xs.length) : cutV (iL xs) (some b) (some v) = iL ((xs.drop b.toNat).take (v.toNat - b.toNat)) := by
  obtain ⟨n, rfl⟩ : ∃ n : Nat, v = (n : Int) := ⟨v.toNat, by omega⟩
  obtain ⟨c, rfl⟩ : ∃ n : Nat, b = (n : Int) := ⟨b.toNat, by omega⟩
  unfold cutV
  rw [HT.sIx_nat, HT.sIx_nat, List.length_map, Nat.min_eq_left (by omega), Nat.min_eq_left (by omega), Int.toNat_natCast, Int.toNat_natCast, iL, iL, List.map_take, List.map_drop]
def fromB (xs : List Int) (b k : Nat) : Int := if b ≤ k then gI xs k else 0
theorem sum_mid (xs : List Int) (b : Nat) : ∀ v, v ≤ xs.length → ((xs.drop b).take (v - b)).sum = sumTo (fromB xs b) v
  | 0, _ => by rw [Nat.zero_sub]; rfl
  | v + 1, h => by
    have ih := sum_mid xs b v (by omega)
    show _ = sumTo (fromB xs b) v + fromB xs b v
    rw [← ih]
    unfold fromB
    by_cases hb : b ≤ v
    · rw [if_pos hb, show v + 1 - b = (v - b) + 1 by omega]
      have e : (xs.drop b)[v - b]? = some (gI xs v) := by
        rw [List.getElem?_drop, show b + (v - b) = v by omega, List.getElem?_eq_getElem (by omega), gI_at (List.getElem?_eq_getElem (by omega))]
      rw [take_snoc e, sum_snoc]
    · rw [if_neg hb, show v + 1 - b = 0 by omega, show v - b = 0 by omega]
      simp
/-! ### lines -/
def LineOk (n m : Nat) (li : List Int) : Prop := (∀ v ∈ li, 0 ≤ v ∧ v ≤ n) ∧ li.length = m
/-- the water above a line, from a day on: bef tanks were above on the day before, ly lies in the tanks -/
def watAb (rs : List Int) : Nat → List Int → List Day → List Int → Int
  | b, ly, d :: ds, a :: li => sumTo (gI d.1) a.toNat + sumTo (fromB ly b) a.toNat + watAb rs a.toNat rs ds li
  | _, _, [], _ => 0
  | _, _, _ :: _, [] => 0
def wisAb : List Day → List Int → Int
  | d :: ds, a :: li => sumTo (gI d.2) a.toNat + wisAb ds li
  | [], _ => 0
  | _ :: _, [] => 0
theorem watAb_nil (rs : List Int) (b : Nat) (ly li : List Int) : watAb rs b ly [] li = 0 := by
  unfold watAb
  cases li <;> rfl
theorem wisAb_nil (li : List Int) : wisAb [] li = 0 := by
  unfold wisAb
  cases li <;> rfl
section
variable {P : Program} {w : World} {K : PySem.W.Frag} {mg : Str → Option Value} {base : Heap} {C cY cB cD cL cT : Addr}
def spCkLine (cL : Addr) : Sp := fun vs H Q E => ∃ (n : Nat) (l q : Addr) (xs : List V) (li : List Int), vs = [.int n, .ref l, .ref q] ∧ H l = some (.lst xs) ∧ H q = some (.lst (iL li)) ∧ li.length ≤ 100 ∧
  (LineOk n xs.length li → ∀ H', Same H H' → Q .non H') ∧ (¬ LineOk n xs.length li → ∀ H', Same H H' → E (.ref cL) none H')
theorem scCl : FnScope ["tanks", "days", "line"] ["tanks", "days", "line"] (defScope sCheckLine) := ⟨rfl, rfl, rfl, by decide +kernel, rfl, by decide +kernel, by decide +kernel⟩
theorem ok_cl {f fA fI : Addr} {fd fdA fdI : FuncData} (F : Fun K "check_line" "check_line" sCheckLine f fd) (T : Txt K mg C cY cB cD cL cT) (FA : Fun K "are_whole" "are_whole" sAreWhole fA fdA) (bA : Binds K fdA ["values", "most"] []) (mA : mg "are_whole" = some (.ref fA))
    (FI : Fun K "is_whole" "is_whole" sIsWhole fI fdI) (bI : Binds K fdI ["value", "most"] []) (mI : mg "is_whole" = some (.ref fI)) :
    FnOk P w K mg base (CXo P w) 3 f fd ["tanks", "days", "line"] (spCkLine cL) := by
  have GA : FnOk P w K mg base CX0 2 fA fdA ["values", "most"] spAW := ok_aw FA T FI bI mI
  refine F.okX scCl (fun vs H Q E h => ?_) (fun cdv A outer s H vs Q E hr h => ?_)
  · obtain ⟨n, l, q, xs, li, rfl, _⟩ := h
    rfl
  · obtain ⟨n, l, q, xs, li, rfl, hp, hq, hl, kG, kB⟩ := h
    show let X9 := _; let E9 := _; ∃ t, PSs X9 (defBody sCheckLine) t ∧ t E9 _ _
    intro X9 E9
    let x1_1 : SB9 X9 (defBody sCheckLine) 1 := ⟨_, pss_one (ps_if (pt_cmpR op_ne (pe_callB call_len_seq (by rfl) T.len PySem.boot_len (pa_cons (pv 2) pa_nil)) (pe_callB call_len_seq (by rfl) T.len PySem.boot_len (pa_cons (pv 1) pa_nil)) (nomark _)) (pss_one (ps_raise rfl T.exL leaves_cx (by rfl) (pa_cons pe_str pa_nil))) pss_nil)⟩
    let tx1_1 : TS := x1_1.1
    have px1_1 : PSs X9 (List.drop 1 (defBody sCheckLine)) tx1_1 := x1_1.2
    let x1_0 : SB9 X9 (defBody sCheckLine) 0 := ⟨_, pss_cons (ps_if (pt_not (pt_val (pe_call GA hr (by rfl) mA FA.kp bA .nil pass0 (pa_cons (pv 2) (pa_cons (pv 0) pa_nil))))) (pss_one (ps_raise rfl T.exL leaves_cx (by rfl) (pa_cons pe_str pa_nil))) pss_nil) px1_1⟩
    let tx1_0 : TS := x1_0.1
    have px1_0 : PSs X9 (List.drop 0 (defBody sCheckLine)) tx1_0 := x1_0.2
    refine ⟨tx1_0, px1_0, ?_⟩
    refine ⟨_, rfl, _, rfl, q, li, n, rfl, hq, hl, fun H1 s1 => ⟨_, rfl, ?_⟩⟩
    refine ite2 (fun h1 => ⟨by decide, kB (fun g => ?_) H1 s1⟩) (fun h1 => ?_)
    · rw [(all_iff (m := (n : Int))).mpr g.1] at h1
      cases h1
    have a1 : ∀ v ∈ li, 0 ≤ v ∧ v ≤ (n : Int) := all_iff.mp (not_f h1)
    refine ⟨_, rfl, q, _, rfl, .inl (SqL.of (s1 _ _ hq)), _, rfl, l, _, rfl, .inl (SqL.of (s1 _ _ hp)), rfl, _, rfl, ?_⟩
    refine ite2 (fun h2 => ⟨by decide, kB (fun g => ?_) H1 s1⟩) (fun h2 => ?_)
    · have := ne_t h2
      rw [List.length_map, g.2] at this
      exact this rfl
    · have := ne_f h2
      rw [List.length_map] at this
      exact kG ⟨a1, by omega⟩ H1 s1
def spCkDL (C cD cL : Addr) : Sp := fun vs H Q E => ∃ (y sz lv l q : Addr) (rs ws : List Int) (as : List A3) (ds : List Day) (li : List Int), vs = [.ref y, .ref l, .ref q] ∧ YardAt C H y sz lv rs ws ∧ DaysR H l as ds ∧ ds.length ≤ 100 ∧ (∀ d ∈ ds, d.1.length ≤ 100 ∧ d.2.length ≤ 100) ∧ H q = some (.lst (iL li)) ∧ li.length ≤ 100 ∧
  (DaysOk rs.length ds → LineOk rs.length ds.length li → ∀ H', Same H H' → Q .non H') ∧ (¬ DaysOk rs.length ds → ∀ H', Same H H' → E (.ref cD) none H') ∧ (DaysOk rs.length ds → ¬ LineOk rs.length ds.length li → ∀ H', Same H H' → E (.ref cL) none H')
theorem scDl : FnScope ["yard", "days", "line", "tanks"] ["yard", "days", "line"] (defScope sCheckDL) := ⟨rfl, rfl, rfl, by decide +kernel, rfl, by decide +kernel, by decide +kernel⟩
theorem ok_cdl {f fS fL fRo : Addr} {fd fdS fdL fdRo : FuncData} (F : Fun K "check_days_and_line" "check_days_and_line" sCheckDL f fd) (T : Txt K mg C cY cB cD cL cT)
    (FS : Fun K "check_days" "check_days" sCheckDays fS fdS) (bS : Binds K fdS ["tanks", "days"] []) (mS : mg "check_days" = some (.ref fS)) (GS : FnOk P w K mg base (CXo P w) 4 fS fdS ["tanks", "days"] (spCkDays cD))
    (FL : Fun K "check_line" "check_line" sCheckLine fL fdL) (bL : Binds K fdL ["tanks", "days", "line"] []) (mL : mg "check_line" = some (.ref fL)) (GL : FnOk P w K mg base (CXo P w) 3 fL fdL ["tanks", "days", "line"] (spCkLine cL))
    (eRo : Meth K C "rooms" fRo) (bRo : Binds K fdRo ["self"] []) (GRo : FnOk P w K mg base CX0 1 fRo fdRo ["self"] (spRooms C)) :
    FnOk P w K mg base (CXo P w) 5 f fd ["yard", "days", "line"] (spCkDL C cD cL) := by
  refine F.okX scDl (fun vs H Q E h => ?_) (fun cdv A outer s H vs Q E hr h => ?_)
  · obtain ⟨y, sz, lv, l, q, rs, ws, as, ds, li, rfl, _⟩ := h
    rfl
  · obtain ⟨y, sz, lv, l, q, rs, ws, as, ds, li, rfl, Y, DR, hd1, hd2, hq, hl, kG, kB, kC⟩ := h
    have hr1 := hr.mono (show 1 ≤ 4 by decide)
    have hr3 := hr.mono (show 3 ≤ 4 by decide)
    show let X9 := _; let E9 := _; ∃ t, PSs X9 (defBody sCheckDL) t ∧ t E9 _ _
    intro X9 E9
    let x1_2 : SB9 X9 (defBody sCheckDL) 2 := ⟨_, pss_one (ps_expr (pe_callX GL hr3 (by rfl) mL FL.kp bL .nil passes_cx (pa_cons (pv 3) (pa_cons (pv 1) (pa_cons (pv 2) pa_nil)))))⟩
    let tx1_2 : TS := x1_2.1
    have px1_2 : PSs X9 (List.drop 2 (defBody sCheckDL)) tx1_2 := x1_2.2
    let x1_1 : SB9 X9 (defBody sCheckDL) 1 := ⟨_, pss_cons (ps_expr (pe_callX GS hr (by rfl) mS FS.kp bS .nil passes_cx (pa_cons (pv 3) (pa_cons (pv 1) pa_nil)))) px1_2⟩
    let tx1_1 : TS := x1_1.1
    have px1_1 : PSs X9 (List.drop 1 (defBody sCheckDL)) tx1_1 := x1_1.2
    let x1_0 : SB9 X9 (defBody sCheckDL) 0 := ⟨_, pss_cons (ps_set (i := 3) scDl.nd rfl (Or.inl rfl) (pe_callB call_len_seq (by rfl) T.len PySem.boot_len (pa_cons (pe_meth0 (pv 0) T.cl eRo GRo hr1 bRo .nil pass0) pa_nil))) px1_1⟩
    let tx1_0 : TS := x1_0.1
    have px1_0 : PSs X9 (List.drop 0 (defBody sCheckDL)) tx1_0 := x1_0.2
    refine ⟨tx1_0, px1_0, ?_⟩
    obtain ⟨dx, hy⟩ := Y.ob
    refine ⟨_, rfl, y, dx, _, rfl, hy, fl_no _ _ (by decide) (by decide), y, sz, lv, rs, ws, rfl, Y, fun r1 h1 => ?_⟩
    have s1 := same_upd (o := .lst (iL rs)) h1
    refine ⟨r1, _, rfl, .inl (SqL.of upd_same), ?_⟩
    generalize upd H r1 (.lst (iL rs)) = H1 at s1 ⊢
    refine ⟨_, rfl, _, rfl, rs.length, l, as, ds, (by rw [List.length_map]; rfl), DR.same s1, hd1, hd2, fun g H2 s2 => ?_, fun g H2 s2 => kB g H2 (s1.trans s2)⟩
    have s12 := s1.trans s2
    have el : (as.map fun a => V.ref a.1).length = ds.length := by rw [List.length_map, DR.len]
    refine ⟨_, rfl, _, rfl, _, rfl, rs.length, l, q, _, li, (by rw [List.length_map]; rfl), s12 _ _ DR.lst, s12 _ _ hq, hl, fun g2 H3 s3 => kG g (el ▸ g2) H3 (s12.trans s3), fun g2 H3 s3 => kC g (fun z => g2 (el.symm ▸ z)) H3 (s12.trans s3)⟩
def spAbove (C cD cL : Addr) (v : List Int → List Int → List Day → List Int → Int) : Sp := fun vs H Q E => ∃ (y sz lv l q : Addr) (rs ws : List Int) (as : List A3) (ds : List Day) (li : List Int), vs = [.ref y, .ref l, .ref q] ∧ YardAt C H y sz lv rs ws ∧ ws.length = rs.length ∧ rs.length ≤ 100 ∧ DaysR H l as ds ∧ ds.length ≤ 100 ∧ (∀ d ∈ ds, d.1.length ≤ 100 ∧ d.2.length ≤ 100) ∧ H q = some (.lst (iL li)) ∧ li.length ≤ 100 ∧
  (DaysOk rs.length ds → LineOk rs.length ds.length li → ∀ H', Same H H' → Q (.int (v rs ws ds li)) H') ∧ (¬ DaysOk rs.length ds → ∀ H', Same H H' → E (.ref cD) none H') ∧ (DaysOk rs.length ds → ¬ LineOk rs.length ds.length li → ∀ H', Same H H' → E (.ref cL) none H')
def vWater (rs ws : List Int) (ds : List Day) (li : List Int) : Int := watAb rs 0 ws ds li
def vWishes (_ _ : List Int) (ds : List Day) (li : List Int) : Int := wisAb ds li
theorem scWr : FnScope ["yard", "days", "line", "before", "lying", "water", "day", "above"] ["yard", "days", "line"] (defScope sWater) := ⟨rfl, rfl, rfl, by decide +kernel, rfl, by decide +kernel, by decide +kernel⟩
theorem ok_wr {f fL fRo fWa : Addr} {fd fdL fdRo fdWa : FuncData} (F : Fun K "water_above" "water_above" sWater f fd) (T : Txt K mg C cY cB cD cL cT)
    (FL : Fun K "check_days_and_line" "check_days_and_line" sCheckDL fL fdL) (bL : Binds K fdL ["yard", "days", "line"] []) (mL : mg "check_days_and_line" = some (.ref fL)) (GL : FnOk P w K mg base (CXo P w) 5 fL fdL ["yard", "days", "line"] (spCkDL C cD cL))
    (eRo : Meth K C "rooms" fRo) (bRo : Binds K fdRo ["self"] []) (GRo : FnOk P w K mg base CX0 1 fRo fdRo ["self"] (spRooms C)) (eWa : Meth K C "waters" fWa) (bWa : Binds K fdWa ["self"] []) (GWa : FnOk P w K mg base CX0 1 fWa fdWa ["self"] (spWaters C)) :
    FnOk P w K mg base (CXo P w) 6 f fd ["yard", "days", "line"] (spAbove C cD cL vWater) := by
  refine F.okX scWr (fun vs H Q E h => ?_) (fun cdv A outer s H vs Q E hr h => ?_)
  · obtain ⟨y, sz, lv, l, q, rs, ws, as, ds, li, rfl, _⟩ := h
    rfl
  · obtain ⟨y, sz, lv, l, q, rs, ws, as, ds, li, rfl, Y, hlw, hrl, DR, hd1, hd2, hq, hl, kG, kB, kC⟩ := h
    have hr1 := hr.mono (show 1 ≤ 5 by decide)
    show let X9 := _; let E9 := _; ∃ t, PSs X9 (defBody sWater) t ∧ t E9 _ _
    intro X9 E9
    let x1_2 : SB9 X9 ((fB9 (defBody sWater) 4)) 2 := ⟨_, pss_one (ps_set (i := 4) scWr.nd rfl (Or.inl rfl) (pe_meth0 (pv 0) T.cl eRo GRo hr1 bRo .nil pass0))⟩
    let tx1_2 : TS := x1_2.1
    have px1_2 : PSs X9 (List.drop 2 ((fB9 (defBody sWater) 4))) tx1_2 := x1_2.2
    let x1_1 : SB9 X9 ((fB9 (defBody sWater) 4)) 1 := ⟨_, pss_cons (ps_set (i := 3) scWr.nd rfl (Or.inl rfl) (pv 7)) px1_2⟩
    let tx1_1 : TS := x1_1.1
    have px1_1 : PSs X9 (List.drop 1 ((fB9 (defBody sWater) 4))) tx1_1 := x1_1.2
    let x1_0 : SB9 X9 ((fB9 (defBody sWater) 4)) 0 := ⟨_, pss_cons (ps_set (i := 5) scWr.nd rfl (Or.inl rfl) (pe_op op_add (pe_op op_add (pv 5) (pe_callB (call_sum rfl) (by rfl) T.sum boot_sum (pa_cons (pe_slice sl_list (pe_ix ix_tup (pv 6) pe_int (fun _ _ => rfl)) po_none (po_some (pv 7))) pa_nil)))
            (pe_callB (call_sum rfl) (by rfl) T.sum boot_sum (pa_cons (pe_slice sl_list (pv 4) (po_some (pv 3)) (po_some (pv 7))) pa_nil)))) px1_1⟩
    let tx1_0 : TS := x1_0.1
    have px1_0 : PSs X9 (List.drop 0 ((fB9 (defBody sWater) 4))) tx1_0 := x1_0.2
    let x2_5 : SB9 X9 (defBody sWater) 5 := ⟨_, pss_one (ps_ret (pv 5))⟩
    let tx2_5 : TS := x2_5.1
    have px2_5 : PSs X9 (List.drop 5 (defBody sWater)) tx2_5 := x2_5.2
    let x2_4 : SB9 X9 (defBody sWater) 4 := ⟨_, pss_cons (ps_for PassesOwn.leaving rfl (pi_zip (by rfl) T.zip (pa_cons (pv 1) (pa_cons (pv 2) pa_nil))) (pg_tup rfl (pgs_cons (pg_name (i := 6) scWr.nd rfl (Or.inl rfl)) (pgs_cons (pg_name (i := 7) scWr.nd rfl (Or.inl rfl)) pgs_nil))) px1_0) px2_5⟩
    let tx2_4 : TS := x2_4.1
    have px2_4 : PSs X9 (List.drop 4 (defBody sWater)) tx2_4 := x2_4.2
    let x2_3 : SB9 X9 (defBody sWater) 3 := ⟨_, pss_cons (ps_set (i := 5) scWr.nd rfl (Or.inl rfl) pe_int) px2_4⟩
    let tx2_3 : TS := x2_3.1
    have px2_3 : PSs X9 (List.drop 3 (defBody sWater)) tx2_3 := x2_3.2
    let x2_2 : SB9 X9 (defBody sWater) 2 := ⟨_, pss_cons (ps_set (i := 4) scWr.nd rfl (Or.inl rfl) (pe_meth0 (pv 0) T.cl eWa GWa hr1 bWa .nil pass0)) px2_3⟩
    let tx2_2 : TS := x2_2.1
    have px2_2 : PSs X9 (List.drop 2 (defBody sWater)) tx2_2 := x2_2.2
    let x2_1 : SB9 X9 (defBody sWater) 1 := ⟨_, pss_cons (ps_set (i := 3) scWr.nd rfl (Or.inl rfl) pe_int) px2_2⟩
    let tx2_1 : TS := x2_1.1
    have px2_1 : PSs X9 (List.drop 1 (defBody sWater)) tx2_1 := x2_1.2
    let x2_0 : SB9 X9 (defBody sWater) 0 := ⟨_, pss_cons (ps_expr (pe_callX GL hr (by rfl) mL FL.kp bL .nil passes_cx (pa_cons (pv 0) (pa_cons (pv 1) (pa_cons (pv 2) pa_nil))))) px2_1⟩
    let tx2_0 : TS := x2_0.1
    have px2_0 : PSs X9 (List.drop 0 (defBody sWater)) tx2_0 := x2_0.2
    refine ⟨tx2_0, px2_0, ?_⟩
    obtain ⟨dx, hy⟩ := Y.ob
    refine ⟨_, rfl, _, rfl, _, rfl, y, sz, lv, l, q, rs, ws, as, ds, li, rfl, Y, DR, hd1, hd2, hq, hl, fun g gl H1 s1 => ?_, fun g H1 s1 => kB g H1 s1, fun g gl H1 s1 => kC g gl H1 s1⟩
    refine ⟨_, rfl, y, dx, _, rfl, s1 _ _ hy, fl_no _ _ (by decide) (by decide), y, sz, lv, rs, ws, rfl, Y.same s1, fun w1 hw1 => ?_⟩
    have s2 := s1.trans (same_upd (o := .lst (iL ws)) hw1)
    have hw2 : (upd H1 w1 (.lst (iL ws))) w1 = some (.lst (iL ws)) := upd_same
    generalize upd H1 w1 (.lst (iL ws)) = H2 at s2 hw2 ⊢
    refine ⟨_, rfl, _, rfl, l, q, rfl, ⟨_, SqL.of (s2 _ _ DR.lst)⟩, ⟨_, SqL.of (s2 _ _ hq)⟩, ?_⟩
    refine for_it ds.length (fun i σ H' => i ≤ ds.length ∧ Same H H' ∧ ∃ (lp : Addr) (ls : List Int) (b : Nat) (wt : Int), H' lp = some (.lst (iL ls)) ∧ ls.length = rs.length ∧ b ≤ rs.length ∧ wt + watAb rs b ls (ds.drop i) (li.drop i) = watAb rs 0 ws ds li ∧
      ∃ o6 o7, σ = [some (.ref y), some (.ref l), some (.ref q), some (.int (b : Int)), some (.ref lp), some (.int wt), o6, o7]) ?_ ?_ ?_
    · exact ⟨Nat.zero_le _, s2, w1, ws, 0, 0, hw2, hlw, Nat.zero_le _, by rw [List.drop_zero, List.drop_zero]; omega, none, none, rfl⟩
    · rintro i σ H' hi ⟨_, s3, lp, ls, b, wt, hlp, hll, hb, hwt, o6, o7, rfl⟩
      obtain ⟨td, p, q', d, ha, hv, hd, htd, hp, hq'⟩ := (DR.same s3).at hi
      have hil : i < li.length := by rw [gl.2]; exact hi
      have hv2 := iL_at hil
      have hla := List.getElem?_eq_getElem hil
      have hgi := gI_at hla
      have hab := gl.1 _ (List.getElem_mem hil)
      rw [← hgi] at hla hab
      refine ⟨⟨_, _, _, _, SqL.of (s3 _ _ DR.lst), SqL.of (s3 _ _ hq), hv, hv2⟩, ?_⟩
      generalize gI li i = ab at hla hab hv2 ⊢
      rintro x H4 ⟨t, x1, x2, rfl, hnt, rfl, hx1, hx2⟩
      have ex1 := Option.some.inj ((hx1 _ (SqL.of (s3 _ _ DR.lst))).symm.trans hv)
      have ex2 := Option.some.inj ((hx2 _ (SqL.of (s3 _ _ hq))).symm.trans hv2)
      subst ex1 ex2
      have s4 := same_new (o := .tup [.ref td, .int ab]) hnt
      have ht4 : (upd H' t (.tup [.ref td, .int ab])) t = some (.tup [.ref td, .int ab]) := upd_same
      generalize upd H' t (.tup [.ref td, .int ab]) = H4 at s4 ht4 ⊢
      refine ⟨t, _, rfl, SqT.of ht4, rfl, _, _, rfl, _, _, rfl, rfl, ?_⟩
      have gd := g.2 d (List.mem_of_getElem? hd)
      have gd1 := gd.1.1
      refine ⟨_, rfl, _, rfl, td, _, _, _, rfl, rfl, SqT.of (s4 _ _ htd), atI_nat (j := 0) rfl, _, rfl, _, rfl, p, _, rfl, SqL.of (s4 _ _ hp), fun p1 hp1 => ?_⟩
      rw [cut_take hab.1]
      have s5 := same_upd (o := .lst (iL (d.1.take ab.toNat))) hp1
      refine ⟨p1, _, rfl, SqL.of upd_same, _, _, rfl, rfl, ?_⟩
      refine ⟨_, rfl, _, rfl, _, rfl, _, rfl, _, rfl, lp, _, rfl, SqL.of (s5 _ _ (s4 _ _ hlp)), fun p2 hp2 => ?_⟩
      rw [cut_mid (by omega) hab.1 (by omega) (by omega)]
      have s6 := same_upd (o := .lst (iL ((ls.drop (b : Int).toNat).take (ab.toNat - (b : Int).toNat)))) hp2
      refine ⟨p2, _, rfl, SqL.of upd_same, _, _, rfl, rfl, _, rfl, ?_⟩
      have s46 := s4.trans (s5.trans s6)
      generalize upd (upd H4 p1 (.lst (iL (d.1.take ab.toNat)))) p2 (.lst (iL ((ls.drop (b : Int).toNat).take (ab.toNat - (b : Int).toNat)))) = H6 at s46 ⊢
      have s36 := s3.trans s46
      refine ⟨_, rfl, y, dx, _, rfl, s36 _ _ hy, fl_no _ _ (by decide) (by decide), y, sz, lv, rs, ws, rfl, Y.same s36, fun r1 h1 => ?_⟩
      obtain ⟨an, rfl⟩ : ∃ an : Nat, ab = (an : Int) := ⟨ab.toNat, by omega⟩
      refine ⟨hi, s36.trans (same_upd h1), r1, rs, an, wt + (d.1.take (an : Int).toNat).sum + ((ls.drop (b : Int).toNat).take ((an : Int).toNat - (b : Int).toNat)).sum, upd_same, rfl, by omega, ?_, _, _, rfl⟩
      rw [drop_at hd, drop_at hla] at hwt
      rw [Int.toNat_natCast, Int.toNat_natCast, sum_take _ _ (by omega), sum_mid _ _ _ (by omega), ← hwt]
      show _ = wt + (sumTo (gI d.1) (an : Int).toNat + sumTo (fromB ls b) (an : Int).toNat + watAb rs (an : Int).toNat rs (ds.drop (i + 1)) (li.drop (i + 1)))
      rw [Int.toNat_natCast]
      omega
    · rintro σ H' ⟨_, s3, lp, ls, b, wt, hlp, hll, hb, hwt, o6, o7, rfl⟩
      refine ⟨⟨_, _, SqL.of (s3 _ _ DR.lst), SqL.of (s3 _ _ hq), .inl (by rw [List.length_map, DR.len]; exact Nat.le_refl _)⟩, _, rfl, ?_⟩
      rw [List.drop_length] at hwt
      have e : wt = watAb rs 0 ws ds li := by
        rw [← hwt, watAb_nil]
        omega
      rw [e]
      exact kG g gl H' s3
theorem scWs : FnScope ["yard", "days", "line"] ["yard", "days", "line"] (defScope sWishes) := ⟨rfl, rfl, rfl, by decide +kernel, rfl, by decide +kernel, by decide +kernel⟩
theorem ndWs : (["day", "above"] : List Str).Nodup := by decide +kernel
theorem ok_ws {f fL : Addr} {fd fdL : FuncData} (F : Fun K "wishes_above" "wishes_above" sWishes f fd) (T : Txt K mg C cY cB cD cL cT)
    (FL : Fun K "check_days_and_line" "check_days_and_line" sCheckDL fL fdL) (bL : Binds K fdL ["yard", "days", "line"] []) (mL : mg "check_days_and_line" = some (.ref fL)) (GL : FnOk P w K mg base (CXo P w) 5 fL fdL ["yard", "days", "line"] (spCkDL C cD cL)) :
    FnOk P w K mg base (CXo P w) 6 f fd ["yard", "days", "line"] (spAbove C cD cL vWishes) := by
  refine F.okX scWs (fun vs H Q E h => ?_) (fun cdv A outer s H vs Q E hr h => ?_)
  · obtain ⟨y, sz, lv, l, q, rs, ws, as, ds, li, rfl, _⟩ := h
    rfl
  · obtain ⟨y, sz, lv, l, q, rs, ws, as, ds, li, rfl, Y, hlw, hrl, DR, hd1, hd2, hq, hl, kG, kB, kC⟩ := h
    show let X9 := _; let E9 := _; ∃ t, PSs X9 (defBody sWishes) t ∧ t E9 _ _
    intro X9 E9
    let x1_1 : SB9 X9 (defBody sWishes) 1 := ⟨_, pss_one (ps_ret (pe_callB (call_sum rfl) (by rfl) T.sum boot_sum (pa_cons (pe_comp (g := gTup K 2 (gCons (gName 0) (gCons (gName 1) gNil))) (N := ["day", "above"]) (cap := [none, none]) rfl (.of (by rfl)) (pi_zip (by rfl) T.zip (pa_cons (pv 1) (pa_cons (pv 2) pa_nil)))
        (fun _ _ _ _ => pg_tup (by rfl) (pgs_cons (pg_name (i := 0) ndWs (by rfl) (Or.inl (by rfl)) (Or.inr (by rfl))) (pgs_cons (pg_name (i := 1) ndWs (by rfl) (Or.inl (by rfl)) (Or.inr (by rfl))) pgs_nil))) (fun _ _ _ _ => pts_nil)
        (fun _ _ _ _ => pe_callB (show CallR _ (.builtin "sum") (rSum K) from call_sum rfl) (by rfl) T.sum boot_sum (pa_cons (pe_slice (show SlR _ (rSlL K) from sl_list) (pe_ix (show IxR _ (rIxT K) from ix_tup) (pv 0) pe_int (fun _ _ => rfl)) po_none (po_some (pv 1))) pa_nil))) pa_nil)))⟩
    let tx1_1 : TS := x1_1.1
    have px1_1 : PSs X9 (List.drop 1 (defBody sWishes)) tx1_1 := x1_1.2
    let x1_0 : SB9 X9 (defBody sWishes) 0 := ⟨_, pss_cons (ps_expr (pe_callX GL hr (by rfl) mL FL.kp bL .nil passes_cx (pa_cons (pv 0) (pa_cons (pv 1) (pa_cons (pv 2) pa_nil))))) px1_1⟩
    let tx1_0 : TS := x1_0.1
    have px1_0 : PSs X9 (List.drop 0 (defBody sWishes)) tx1_0 := x1_0.2
    refine ⟨tx1_0, px1_0, ?_⟩
    refine ⟨_, rfl, _, rfl, _, rfl, y, sz, lv, l, q, rs, ws, as, ds, li, rfl, Y, DR, hd1, hd2, hq, hl, fun g gl H1 s1 => ?_, fun g H1 s1 => kB g H1 s1, fun g gl H1 s1 => kC g gl H1 s1⟩
    refine ⟨_, rfl, _, rfl, l, q, rfl, ⟨_, SqL.of (s1 _ _ DR.lst)⟩, ⟨_, SqL.of (s1 _ _ hq)⟩, fun D hD => ?_⟩
    have hDH : H D = none := s1.free hD
    refine comp_by ds.length (sz100 hd1) (fun i ys τ H' => i ≤ ds.length ∧ (∃ zs : List Int, ys = iL zs ∧ zs.length = i ∧ zs.sum + wisAb (ds.drop i) (li.drop i) = wisAb ds li) ∧ Same H H' ∧ H' D = some (.lst ys) ∧ τ.length = 2) ?_ ?_ ?_ ?_
    · refine ⟨Nat.zero_le _, ⟨[], rfl, rfl, ?_⟩, s1.trans (same_new hD), upd_same, rfl⟩
      rw [List.drop_zero, List.drop_zero]
      show (0 : Int) + _ = _
      omega
    · rintro i ys τ H' ⟨hi, ⟨zs, rfl, hzl, _⟩, _, hd, _⟩
      exact ⟨hd, by rw [List.length_map, hzl]; exact Nat.le_refl _⟩
    · rintro i ys τ H' hi ⟨_, ⟨zs, rfl, hzl, hzs⟩, s3, hdD, ht⟩
      obtain ⟨td, p, q', d, ha, hv, hd, htd, hp, hq'⟩ := (DR.same s3).at hi
      have hil : i < li.length := by rw [gl.2]; exact hi
      have hv2 := iL_at hil
      have hla := List.getElem?_eq_getElem hil
      have hgi := gI_at hla
      have hab := gl.1 _ (List.getElem_mem hil)
      rw [← hgi] at hla hab
      refine ⟨⟨_, _, _, _, SqL.of (s3 _ _ DR.lst), SqL.of (s3 _ _ hq), hv, hv2⟩, ?_⟩
      generalize gI li i = ab at hla hab hv2 ⊢
      rintro x H4 ⟨t, x1, x2, rfl, hnt, rfl, hx1, hx2⟩
      have ex1 := Option.some.inj ((hx1 _ (SqL.of (s3 _ _ DR.lst))).symm.trans hv)
      have ex2 := Option.some.inj ((hx2 _ (SqL.of (s3 _ _ hq))).symm.trans hv2)
      subst ex1 ex2
      have s4 := same_new (o := .tup [.ref td, .int ab]) hnt
      have ht4 : (upd H' t (.tup [.ref td, .int ab])) t = some (.tup [.ref td, .int ab]) := upd_same
      generalize upd H' t (.tup [.ref td, .int ab]) = H4 at s4 ht4 ⊢
      obtain ⟨τ0, τ1, rfl⟩ : ∃ a b, τ = [a, b] := by
        match τ, ht with
        | [a, b], _ => exact ⟨a, b, rfl⟩
      refine ⟨t, _, rfl, SqT.of ht4, rfl, _, _, rfl, _, _, rfl, rfl, ?_⟩
      refine yes_if ?_
      have gd := g.2 d (List.mem_of_getElem? hd)
      have gd2 := gd.2.1
      refine ⟨_, rfl, td, _, _, _, rfl, rfl, SqT.of (s4 _ _ htd), atI_nat (j := 1) rfl, _, rfl, _, rfl, q', _, rfl, SqL.of (s4 _ _ hq'), fun p1 hp1 => ?_⟩
      rw [cut_take hab.1]
      have s5 := same_upd (o := .lst (iL (d.2.take ab.toNat))) hp1
      refine ⟨p1, _, rfl, SqL.of upd_same, s5 _ _ (s4 _ _ hdD), hi, ⟨zs ++ [_], iL_snoc zs _, ?_, ?_⟩, fun b o z => ?_, upd_same, rfl⟩
      · rw [List.length_append, hzl]
        rfl
      · rw [drop_at hd, drop_at hla] at hzs
        rw [sum_snoc, sum_take _ _ (by omega), ← hzs]
        show _ = zs.sum + (sumTo (gI d.2) ab.toNat + wisAb (ds.drop (i + 1)) (li.drop (i + 1)))
        omega
      · rw [upd_ne (ne_of_none z hDH)]
        exact s5 _ _ (s4 _ _ (s3 _ _ z))
    · rintro ys τ H' ⟨_, ⟨zs, rfl, hzl, hzs⟩, s3, hdD, ht⟩
      refine ⟨⟨_, _, SqL.of (s3 _ _ DR.lst), SqL.of (s3 _ _ hq), .inl (by rw [List.length_map, DR.len]; exact Nat.le_refl _)⟩, D, zs, rfl, SqL.of hdD, ?_⟩
      rw [List.drop_length] at hzs
      have e : zs.sum = wisAb ds li := by
        rw [← hzs, wisAb_nil]
        omega
      rw [e]
      exact kG g gl H' s3
end
end Z

set_option Elab.async false
set_option linter.all false
set_option maxRecDepth 100000
set_option maxHeartbeats 8000000
namespace Z
open PySem L2
/-! ### lines, day by day -/
def lastB : Nat → List Int → Nat
  | b, [] => b
  | _, a :: li => lastB a.toNat li
def lyB (rs : List Int) : List Int → List Int → List Int
  | ly, [] => ly
  | _, _ :: li => lyB rs rs li
theorem lastB_snoc (a : Int) : ∀ (li : List Int) (b : Nat), lastB b (li ++ [a]) = a.toNat
  | [], _ => rfl
  | c :: li, b => lastB_snoc a li c.toNat
theorem lyB_of (rs : List Int) : ∀ (li ly : List Int), lyB rs ly li = if li.length = 0 then ly else rs
  | [], ly => rfl
  | c :: li, ly => by
    show lyB rs rs li = _
    rw [lyB_of rs li rs]
    simp
theorem watAb_cons (rs : List Int) (b : Nat) (ly : List Int) (d : Day) (ds : List Day) (a : Int) (li : List Int) : watAb rs b ly (d :: ds) (a :: li) = sumTo (gI d.1) a.toNat + sumTo (fromB ly b) a.toNat + watAb rs a.toNat rs ds li := rfl
theorem wisAb_cons (d : Day) (ds : List Day) (a : Int) (li : List Int) : wisAb (d :: ds) (a :: li) = sumTo (gI d.2) a.toNat + wisAb ds li := rfl
theorem watAb_snoc (rs : List Int) (d : Day) (a : Int) : ∀ (ds : List Day) (li : List Int) (b : Nat) (ly : List Int), li.length = ds.length → watAb rs b ly (ds ++ [d]) (li ++ [a]) = watAb rs b ly ds li + sumTo (gI d.1) a.toNat + sumTo (fromB (lyB rs ly li) (lastB b li)) a.toNat
  | [], [], b, ly, _ => by
    rw [List.nil_append, List.nil_append, watAb_cons, watAb_nil, watAb_nil]
    show sumTo (gI d.1) a.toNat + sumTo (fromB ly b) a.toNat + 0 = 0 + sumTo (gI d.1) a.toNat + sumTo (fromB ly b) a.toNat
    omega
  | e :: ds, c :: li, b, ly, h => by
    rw [List.cons_append, List.cons_append, watAb_cons, watAb_cons, watAb_snoc rs d a ds li c.toNat rs (by simpa using h)]
    show _ = sumTo (gI e.1) c.toNat + sumTo (fromB ly b) c.toNat + watAb rs c.toNat rs ds li + sumTo (gI d.1) a.toNat + sumTo (fromB (lyB rs rs li) (lastB c.toNat li)) a.toNat
    omega
  | [], _ :: _, _, _, h => by simp at h
  | _ :: _, [], _, _, h => by simp at h
theorem wisAb_snoc (d : Day) (a : Int) : ∀ (ds : List Day) (li : List Int), li.length = ds.length → wisAb (ds ++ [d]) (li ++ [a]) = wisAb ds li + sumTo (gI d.2) a.toNat
  | [], [], _ => by
    rw [List.nil_append, List.nil_append, wisAb_cons, wisAb_nil]
    omega
  | e :: ds, c :: li, h => by
    rw [List.cons_append, List.cons_append, wisAb_cons, wisAb_cons, wisAb_snoc d a ds li (by simpa using h)]
    omega
  | [], _ :: _, h => by simp at h
  | _ :: _, [], h => by simp at h
/-- the water above a line, less the wishes above it -/
def cost (rs ws : List Int) (ds : List Day) (li : List Int) : Int := watAb rs 0 ws ds li - wisAb ds li
theorem cost_snoc (rs ws : List Int) (d : Day) (a : Int) (ds : List Day) (li : List Int) (h : li.length = ds.length) : cost rs ws (ds ++ [d]) (li ++ [a]) = cost rs ws ds li + (sumTo (gI d.1) a.toNat - sumTo (gI d.2) a.toNat) + sumTo (fromB (if li.length = 0 then ws else rs) (lastB 0 li)) a.toNat := by
  unfold cost
  rw [watAb_snoc rs d a ds li 0 ws h, wisAb_snoc d a ds li h, lyB_of]
  omega
theorem LineOk.snoc {n m : Nat} {li : List Int} {a : Int} (h : LineOk n m li) (ha : 0 ≤ a ∧ a ≤ n) : LineOk n (m + 1) (li ++ [a]) := by
  refine ⟨fun v hv => ?_, by rw [List.length_append, h.2]; rfl⟩
  rcases List.mem_append.mp hv with z | z
  · exact h.1 v z
  · rw [List.mem_singleton.mp z]
    exact ha
theorem LineOk.split {n m : Nat} {li : List Int} (h : LineOk n (m + 1) li) : ∃ (l0 : List Int) (a : Int), li = l0 ++ [a] ∧ LineOk n m l0 ∧ 0 ≤ a ∧ a ≤ n := by
  have hne : li ≠ [] := fun z => by
    have := h.2
    rw [z] at this
    simp at this
  refine ⟨li.dropLast, li.getLast hne, (List.dropLast_concat_getLast hne).symm, ⟨fun v hv => h.1 v (List.dropLast_subset _ hv), ?_⟩, (h.1 _ (List.getLast_mem hne)).1, (h.1 _ (List.getLast_mem hne)).2⟩
  rw [List.length_dropLast, h.2]
  omega
/-- the ends that the program keeps behind i days -/
structure EndsOk (rs ws : List Int) (ds : List Day) (i : Nat) (ts : List Ent) : Prop where
  at' : ∀ (m : Nat) (t : Ent), ts[m]? = some t → LineOk rs.length i t.2.2.2 ∧ lastB 0 t.2.2.2 = m ∧ t.2.1 = cost rs ws (ds.take i) t.2.2.2
  all : ∀ li, LineOk rs.length i li → ∃ t : Ent, ts[lastB 0 li]? = some t ∧ t.2.1 ≤ cost rs ws (ds.take i) li
  len : ts.length ≤ rs.length + 1
  ne : ts ≠ []
theorem EndsOk.start (rs ws : List Int) (ds : List Day) (t q : Addr) : EndsOk rs ws ds 0 [(t, 0, q, [])] := by
  have c0 : cost rs ws (ds.take 0) [] = 0 := by
    unfold cost
    rw [List.take_zero, watAb_nil, wisAb_nil]
    rfl
  refine ⟨fun m e h => ?_, fun li hl => ?_, by simp, by simp⟩
  · match m, h with
    | 0, h =>
      cases h
      exact ⟨⟨by simp, rfl⟩, rfl, c0.symm⟩
    | m + 1, h => simp at h
  · have : li = [] := List.eq_nil_of_length_eq_zero hl.2
    subst this
    exact ⟨_, rfl, by rw [c0]; exact Int.le_refl 0⟩
/-- what an end behind the next day costs -/
def nextE (rs ws : List Int) (d : Day) (i : Nat) (ts : List Ent) (b m : Nat) : Int := (ts[b]?.map (·.2.1)).getD 0 + (sumTo (gI d.1) m - sumTo (gI d.2) m) + sumTo (fromB (if i = 0 then ws else rs) b) m
theorem EndsOk.next {rs ws : List Int} {ds : List Day} {i : Nat} {ts us : List Ent} {d : Day} (O : EndsOk rs ws ds i ts) (hd : ds[i]? = some d) (hl : us.length = rs.length + 1)
    (hu : ∀ (m : Nat) (u : Ent), us[m]? = some u → ∃ (b : Nat) (t : Ent), ts[b]? = some t ∧ u.2.2.2 = t.2.2.2 ++ [(m : Int)] ∧ u.2.1 = nextE rs ws d i ts b m ∧ ∀ b', b' < ts.length → u.2.1 ≤ nextE rs ws d i ts b' m) : EndsOk rs ws ds (i + 1) us := by
  have hi : i < ds.length := (List.getElem?_eq_some_iff.mp hd).1
  have tl : (ds.take i).length = i := by rw [List.length_take]; omega
  have ct : ds.take (i + 1) = ds.take i ++ [d] := take_snoc hd
  refine ⟨fun m u h => ?_, fun li hli => ?_, by omega, fun z => by rw [z] at hl; simp at hl⟩
  · obtain ⟨b, t, hb, e1, e2, _⟩ := hu m u h
    obtain ⟨lo, la, ec⟩ := O.at' b t hb
    have hm : m < us.length := (List.getElem?_eq_some_iff.mp h).1
    rw [e1]
    refine ⟨lo.snoc ⟨by omega, by omega⟩, by rw [lastB_snoc]; omega, ?_⟩
    rw [ct, cost_snoc rs ws d _ _ _ (by rw [lo.2, tl]), e2, lo.2, la, ← ec]
    unfold nextE
    rw [hb, Int.toNat_natCast]
    rfl
  · obtain ⟨l0, a, rfl, lo, a0, a1⟩ := hli.split
    obtain ⟨m, rfl⟩ : ∃ m : Nat, a = (m : Int) := ⟨a.toNat, by omega⟩
    rw [lastB_snoc, Int.toNat_natCast]
    have hm : m < us.length := by omega
    refine ⟨us[m], List.getElem?_eq_getElem hm, ?_⟩
    obtain ⟨b, t, hb, e1, e2, e3⟩ := hu m _ (List.getElem?_eq_getElem hm)
    obtain ⟨t0, ht0, le⟩ := O.all l0 lo
    have := e3 (lastB 0 l0) (List.getElem?_eq_some_iff.mp ht0).1
    unfold nextE at this
    rw [ht0] at this
    rw [ct, cost_snoc rs ws d _ _ _ (by rw [lo.2, tl]), lo.2, Int.toNat_natCast]
    have e4 : ((some t0).map (fun x : Ent => x.2.1)).getD 0 = t0.2.1 := rfl
    rw [e4] at this
    omega
section
variable {P : Program} {w : World} {K : PySem.W.Frag} {mg : Str → Option Value} {base : Heap} {C cY cB cD cL cT : Addr}
/-- entries as they stand -/
structure EntsAt (H : Hp) (el : Addr) (ts : List Ent) (k : Nat) : Prop where
  lst : H el = some (.lst (ts.map fun t => V.ref t.1))
  ent : ∀ t ∈ ts, H t.1 = some (.tup [.int t.2.1, .ref t.2.2.1]) ∧ H t.2.2.1 = some (.lst (iL t.2.2.2)) ∧ t.2.2.2.length = k
theorem EntsAt.same {H H' : Hp} {el : Addr} {ts : List Ent} {k : Nat} (S : EntsAt H el ts k) (e : Same H H') : EntsAt H' el ts k := ⟨e _ _ S.lst, fun t ht => ⟨e _ _ (S.ent t ht).1, e _ _ (S.ent t ht).2.1, (S.ent t ht).2.2⟩⟩
def spLeast : Sp := fun vs H Q _ => ∃ (el td p q lp : Addr) (ts : List Ent) (k : Nat) (ra wi ls : List Int) (m n : Nat), vs = [.ref el, .ref td, .ref lp, .int m] ∧ EntsAt H el ts k ∧ ts ≠ [] ∧ ts.length ≤ n + 1 ∧ H td = some (.tup [.ref p, .ref q]) ∧ H p = some (.lst (iL ra)) ∧ H q = some (.lst (iL wi)) ∧ H lp = some (.lst (iL ls)) ∧ ra.length = n ∧ wi.length = n ∧ ls.length = n ∧ m ≤ n ∧ n ≤ 50 ∧ k ≤ 100 ∧
  ∀ (t' q' : Addr) (b : Nat) (t : Ent) (e' : Int) (H' : Hp), H q' = none → ts[b]? = some t → e' = t.2.1 + (sumTo (gI ra) m - sumTo (gI wi) m) + sumTo (fromB ls b) m → (∀ b' (u : Ent), ts[b']? = some u → e' ≤ u.2.1 + (sumTo (gI ra) m - sumTo (gI wi) m) + sumTo (fromB ls b') m) →
    H' t' = some (.tup [.int e', .ref q']) → H' q' = some (.lst (iL (t.2.2.2 ++ [(m : Int)]))) → Same H H' → Q (.ref t') H'
theorem scLe : FnScope ["ends", "day", "lying", "above", "added", "choices", "before", "end"] ["ends", "day", "lying", "above"] (defScope sLeastEnd) := ⟨rfl, rfl, rfl, by decide +kernel, rfl, by decide +kernel, by decide +kernel⟩
theorem ok_le {f : Addr} {fd : FuncData} (F : Fun K "least_end" "least_end" sLeastEnd f fd) (T : Txt K mg C cY cB cD cL cT) : FnOk P w K mg base CX0 1 f fd ["ends", "day", "lying", "above"] spLeast := by
  refine F.ok scLe (fun vs H Q E h => ?_) (fun cdv A outer s H vs Q E hr h => ?_)
  · obtain ⟨el, td, p, q, lp, ts, k, ra, wi, ls, m, n, rfl, _⟩ := h
    rfl
  · obtain ⟨el, td, p, q, lp, ts, k, ra, wi, ls, m, n, rfl, ES, hne, htn, htd, hp, hq, hlp, lr, lw, ll, hmn, hn50, hk, kk⟩ := h
    have hu := hr.units
    show let X9 := _; let E9 := _; ∃ t, PSs X9 (defBody sLeastEnd) t ∧ t E9 _ _
    intro X9 E9
    let x1_0 : SB9 X9 ((fB9 (defBody sLeastEnd) 2)) 0 := ⟨_, pss_one (ps_expr (pe_bm PySem.F.plainAttrs_list PySem.F.slot_list_append PySem.F.type_list_append mt_append (pv 5) (pa_cons (pe_tup
          (pa_cons (pe_op op_add (pe_op op_add (pe_ix ix_tup (pv 7) pe_int (fun _ _ => rfl)) (pv 4)) (pe_callB (call_sum rfl) (by rfl) T.sum boot_sum (pa_cons (pe_slice sl_list (pv 2) (po_some (pv 6)) (po_some (pv 3))) pa_nil)))
          (pa_cons (pe_op op_cat (pe_ix ix_tup (pv 7) pe_int (fun _ _ => rfl)) (pe_lst (pa_cons (pv 3) pa_nil))) pa_nil))) pa_nil)))⟩
    let tx1_0 : TS := x1_0.1
    have px1_0 : PSs X9 (List.drop 0 ((fB9 (defBody sLeastEnd) 2))) tx1_0 := x1_0.2
    let x2_3 : SB9 X9 (defBody sLeastEnd) 3 := ⟨_, pss_one (ps_ret (pe_callB (call_minP rfl hu) (by rfl) T.min boot_min (pa_cons (pv 5) pa_nil)))⟩
    let tx2_3 : TS := x2_3.1
    have px2_3 : PSs X9 (List.drop 3 (defBody sLeastEnd)) tx2_3 := x2_3.2
    let x2_2 : SB9 X9 (defBody sLeastEnd) 2 := ⟨_, pss_cons (ps_for PassesOwn.never rfl (pi_enum (by rfl) T.enu (pa_cons (pv 0) pa_nil)) (pg_tup rfl (pgs_cons (pg_name (i := 6) scLe.nd rfl (Or.inl rfl)) (pgs_cons (pg_name (i := 7) scLe.nd rfl (Or.inl rfl)) pgs_nil))) px1_0) px2_3⟩
    let tx2_2 : TS := x2_2.1
    have px2_2 : PSs X9 (List.drop 2 (defBody sLeastEnd)) tx2_2 := x2_2.2
    let x2_1 : SB9 X9 (defBody sLeastEnd) 1 := ⟨_, pss_cons (ps_set (i := 5) scLe.nd rfl (Or.inl rfl) (pe_lst pa_nil)) px2_2⟩
    let tx2_1 : TS := x2_1.1
    have px2_1 : PSs X9 (List.drop 1 (defBody sLeastEnd)) tx2_1 := x2_1.2
    let x2_0 : SB9 X9 (defBody sLeastEnd) 0 := ⟨_, pss_cons (ps_set (i := 4) scLe.nd rfl (Or.inl rfl) (pe_op op_sub (pe_callB (call_sum rfl) (by rfl) T.sum boot_sum (pa_cons (pe_slice sl_list (pe_ix ix_tup (pv 1) pe_int (fun _ _ => rfl)) po_none (po_some (pv 3))) pa_nil)) (pe_callB (call_sum rfl) (by rfl) T.sum boot_sum (pa_cons (pe_slice sl_list (pe_ix ix_tup (pv 1) pe_int (fun _ _ => rfl)) po_none (po_some (pv 3))) pa_nil)))) px2_1⟩
    let tx2_0 : TS := x2_0.1
    have px2_0 : PSs X9 (List.drop 0 (defBody sLeastEnd)) tx2_0 := x2_0.2
    refine ⟨tx2_0, px2_0, ?_⟩
    -- added
    refine ⟨_, rfl, td, _, _, _, rfl, rfl, SqT.of htd, atI_nat (j := 0) rfl, _, rfl, _, rfl, p, _, rfl, SqL.of hp, fun a1 ha1 => ?_⟩
    rw [cut_take (by omega)]
    have s1 := same_upd (o := .lst (iL (ra.take (m : Int).toNat))) ha1
    refine ⟨a1, _, rfl, SqL.of upd_same, _, rfl, td, _, _, _, rfl, rfl, SqT.of (s1 _ _ htd), atI_nat (j := 1) rfl, _, rfl, _, rfl, q, _, rfl, SqL.of (s1 _ _ hq), fun a2 ha2 => ?_⟩
    rw [cut_take (by omega)]
    have s2 := same_upd (o := .lst (iL (wi.take (m : Int).toNat))) ha2
    refine ⟨a2, _, rfl, SqL.of upd_same, _, _, rfl, rfl, ?_⟩
    rw [Int.toNat_natCast, sum_take _ _ (by omega), sum_take _ _ (by omega)]
    have s12 := s1.trans s2
    rw [Int.toNat_natCast] at s12
    generalize upd (upd H a1 (.lst (iL (ra.take m)))) a2 (.lst (iL (wi.take m))) = H2 at s12 ⊢
    -- choices
    refine ⟨Nat.zero_le _, fun cl hcl => ?_⟩
    have s3 := s12.trans (same_upd (o := .lst []) hcl)
    have hcl0 : H cl = none := s12.free hcl
    have hcl3 : (upd H2 cl (.lst [])) cl = some (.lst []) := upd_same
    generalize upd H2 cl (.lst []) = H3 at s3 hcl3 ⊢
    refine ⟨_, rfl, el, rfl, ⟨_, SqL.of (s3 _ _ ES.lst)⟩, ?_⟩
    refine for_it ts.length (fun i σ H' => i ≤ ts.length ∧ Same H H' ∧ (∃ us : List Ent, us.length = i ∧ EntsAt H' cl us (k + 1) ∧ (∀ j (u : Ent), us[j]? = some u → H u.2.2.1 = none ∧ u.2.2.1 ≠ cl ∧ ∃ t : Ent, ts[j]? = some t ∧ u.2.2.2 = t.2.2.2 ++ [(m : Int)] ∧ u.2.1 = t.2.1 + (sumTo (gI ra) m - sumTo (gI wi) m) + sumTo (fromB ls j) m)) ∧
      ∃ o6 o7, σ = [some (.ref el), some (.ref td), some (.ref lp), some (.int (m : Int)), some (.int (sumTo (gI ra) m - sumTo (gI wi) m)), some (.ref cl), o6, o7]) ?_ ?_ ?_
    · exact ⟨Nat.zero_le _, s3, ⟨[], rfl, ⟨hcl3, by simp⟩, fun j u h => by simp at h⟩, none, none, rfl⟩
    · rintro i σ H' hi ⟨_, s4, ⟨us, hul, US, uok⟩, o6, o7, rfl⟩
      have hel := s4 _ _ ES.lst
      have hti : ts[i]? = some ts[i] := List.getElem?_eq_getElem hi
      generalize ts[i] = t at hti
      have hv : (ts.map fun t => V.ref t.1)[i]? = some (.ref t.1) := by rw [List.getElem?_map, hti]; rfl
      obtain ⟨ht1, ht2, ht3⟩ := ES.ent t (List.mem_of_getElem? hti)
      refine ⟨⟨_, _, SqL.of hel, hv⟩, ?_⟩
      rintro x H5 ⟨tt, v, rfl, hnt, rfl, hvv⟩
      have ev := Option.some.inj ((hvv _ (SqL.of hel)).symm.trans hv)
      subst ev
      have s5 := same_new (o := .tup [.int (i : Int), .ref t.1]) hnt
      have htt : (upd H' tt (.tup [.int (i : Int), .ref t.1])) tt = some (.tup [.int (i : Int), .ref t.1]) := upd_same
      have s45 := s4.trans s5
      have US5 := US.same s5
      generalize upd H' tt (.tup [.int (i : Int), .ref t.1]) = H5 at s5 htt s45 US5 ⊢
      refine ⟨tt, _, rfl, SqT.of htt, rfl, _, _, rfl, _, _, rfl, rfl, ?_⟩
      refine ⟨_, rfl, .inl ⟨rfl, _, SqL.of US5.lst⟩, _, rfl, t.1, _, _, _, rfl, rfl, SqT.of (s45 _ _ ht1), atI_nat (j := 0) rfl, _, rfl, _, _, rfl, rfl, _, rfl, _, rfl, _, rfl, _, rfl, _, rfl, lp, _, rfl, SqL.of (s45 _ _ hlp), fun p1 hp1 => ?_⟩
      rw [cut_mid (by omega) (by omega) (by omega) (by omega), Int.toNat_natCast, Int.toNat_natCast]
      have s6 := same_upd (o := .lst (iL ((ls.drop i).take (m - i)))) hp1
      refine ⟨p1, _, rfl, SqL.of upd_same, _, _, rfl, rfl, ?_⟩
      rw [sum_mid _ _ _ (by omega)]
      refine ⟨_, rfl, t.1, _, _, _, rfl, rfl, SqT.of (s6 _ _ (s45 _ _ ht1)), atI_nat (j := 1) rfl, _, rfl, (by show 1 ≤ sizeLine; decide), fun p2 hp2 => ?_⟩
      have s7 := same_upd (o := .lst [.int (m : Int)]) hp2
      refine ⟨t.2.2.1, p2, _, _, rfl, rfl, s7 _ _ (s6 _ _ (s45 _ _ ht2)), upd_same, ?_, fun p3 hp3 => ⟨(by show 2 ≤ sizeLine; decide), fun t3 ht3' => ?_⟩⟩
      · rw [List.length_map, ht3]
        show k + 1 ≤ sizeLine
        exact Nat.le_trans (Nat.succ_le_succ hk) (by decide)
      have s8 := same_upd (o := .lst (iL t.2.2.2 ++ [.int (m : Int)])) hp3
      have s9 := same_upd (o := .tup [.int (t.2.1 + (sumTo (gI ra) m - sumTo (gI wi) m) + sumTo (fromB ls i) m), .ref p3]) ht3'
      have s59 := s6.trans (s7.trans (s8.trans s9))
      have hp39 := s9 _ _ (upd_same (H := upd (upd H5 p1 (.lst (iL ((ls.drop i).take (m - i))))) p2 (.lst [.int (m : Int)])) (a := p3) (o := .lst (iL t.2.2.2 ++ [.int (m : Int)])))
      have ht39 : (upd (upd (upd (upd H5 p1 (.lst (iL ((ls.drop i).take (m - i))))) p2 (.lst [.int (m : Int)])) p3 (.lst (iL t.2.2.2 ++ [.int (m : Int)]))) t3 (.tup [.int (t.2.1 + (sumTo (gI ra) m - sumTo (gI wi) m) + sumTo (fromB ls i) m), .ref p3])) t3 = some (.tup [.int (t.2.1 + (sumTo (gI ra) m - sumTo (gI wi) m) + sumTo (fromB ls i) m), .ref p3]) := upd_same
      have hp3H5 : H5 p3 = none := (s6.trans s7).free hp3
      have hp3H : H p3 = none := s45.free hp3H5
      generalize upd (upd (upd (upd H5 p1 (.lst (iL ((ls.drop i).take (m - i))))) p2 (.lst [.int (m : Int)])) p3 (.lst (iL t.2.2.2 ++ [.int (m : Int)]))) t3 (.tup [.int (t.2.1 + (sumTo (gI ra) m - sumTo (gI wi) m) + sumTo (fromB ls i) m), .ref p3]) = H9 at s59 hp39 ht39 ⊢
      rw [iL_snoc] at hp39
      have n1 : cl ≠ p3 := ne_of_none US5.lst hp3H5
      have n2 : cl ≠ t3 := ne_of (s59 _ _ US5.lst) ht39 (by nofun)
      refine ⟨cl, _, _, rfl, rfl, s59 _ _ US5.lst, small1000 (by rw [List.length_map]; omega), hi, fun b o z => ?_, ⟨us ++ [(t3, t.2.1 + (sumTo (gI ra) m - sumTo (gI wi) m) + sumTo (fromB ls i) m, p3, t.2.2.2 ++ [(m : Int)])], ?_, ⟨?_, fun u hu' => ?_⟩, fun j u e => ?_⟩, _, _, rfl⟩
      · rw [upd_ne (ne_of_none z hcl0)]
        exact s59 _ _ (s45 _ _ z)
      · rw [List.length_append, hul]
        rfl
      · rw [upd_same, List.map_append]
        rfl
      · rcases List.mem_append.mp hu' with z | z
        · obtain ⟨i', hi', e⟩ := List.mem_iff_getElem.mp z
          have nn := (uok i' u (by rw [← e]; exact List.getElem?_eq_getElem hi')).2.1
          have ee := US5.ent u z
          exact ⟨by rw [upd_ne (ne_of ee.1 US5.lst (by nofun))]; exact s59 _ _ ee.1, by rw [upd_ne nn]; exact s59 _ _ ee.2.1, ee.2.2⟩
        · rw [List.mem_singleton.mp z]
          refine ⟨by rw [upd_ne n2.symm]; exact ht39, by rw [upd_ne n1.symm]; exact hp39, ?_⟩
          show (t.2.2.2 ++ [(m : Int)]).length = k + 1
          rw [List.length_append, ht3]
          rfl
      · by_cases hj : j < us.length
        · rw [List.getElem?_append_left hj] at e
          exact uok j u e
        · have : j = us.length := by
            have := (List.getElem?_eq_some_iff.mp e).1
            rw [List.length_append] at this
            have : j < us.length + 1 := this
            omega
          subst this
          rw [List.getElem?_append_right (Nat.le_refl _), Nat.sub_self] at e
          cases e
          rw [hul]
          exact ⟨hp3H, n1.symm, t, hti, rfl, rfl⟩
    · rintro σ H' ⟨_, s4, ⟨us, hul, US, uok⟩, o6, o7, rfl⟩
      refine ⟨⟨_, SqL.of (s4 _ _ ES.lst), by rw [List.length_map]; exact Nat.le_refl _⟩, ?_⟩
      have une : us ≠ [] := fun z => by
        rw [z] at hul
        exact hne (List.eq_nil_of_length_eq_zero hul.symm)
      refine ⟨_, rfl, cl, us, k + 1, rfl, SqL.of US.lst, une, US.ent, fun u hu' hmin => ?_⟩
      obtain ⟨b, hb, e⟩ := List.mem_iff_getElem.mp hu'
      have hbu : us[b]? = some u := by rw [← e]; exact List.getElem?_eq_getElem hb
      obtain ⟨fq, _, t, ht, e1, e2⟩ := uok b u hbu
      have ue := US.ent u hu'
      refine kk u.1 u.2.2.1 b t u.2.1 H' fq ht e2 (fun b' t' hb' => ?_) ue.1 (by rw [← e1]; exact ue.2.1) s4
      have hb2 : b' < us.length := by rw [hul]; exact (List.getElem?_eq_some_iff.mp hb').1
      obtain ⟨_, _, t2, ht2, _, e3⟩ := uok b' _ (List.getElem?_eq_getElem hb2)
      rw [hb'] at ht2
      cases ht2
      rw [← e3]
      exact hmin _ (List.getElem_mem hb2)
end
end Z

set_option Elab.async false
set_option linter.all false
set_option maxRecDepth 100000
set_option maxHeartbeats 8000000
namespace Z
open PySem L2
section
variable {P : Program} {w : World} {K : PySem.W.Frag} {mg : Str → Option Value} {base : Heap} {C cY cB cD cL cT : Addr}
/-- a line that no other undercuts -/
def Tight (rs ws : List Int) (ds : List Day) (li : List Int) : Prop := LineOk rs.length ds.length li ∧ ∀ l2, LineOk rs.length ds.length l2 → cost rs ws ds li ≤ cost rs ws ds l2
def spTight : Sp := fun vs H Q _ => ∃ (rp wp l : Addr) (rs ws : List Int) (as : List A3) (ds : List Day), vs = [.ref rp, .ref wp, .ref l] ∧ H rp = some (.lst (iL rs)) ∧ H wp = some (.lst (iL ws)) ∧ DaysR H l as ds ∧ ws.length = rs.length ∧ rs.length ≤ 4 ∧ ds.length ≤ 50 ∧ (∀ d ∈ ds, d.1.length = rs.length ∧ d.2.length = rs.length) ∧
  ∀ (q : Addr) (li : List Int) (H' : Hp), H q = none → H' q = some (.lst (iL li)) → Tight rs ws ds li → Same H H' → Q (.ref q) H'
theorem scTi : FnScope ["rooms", "waters", "days", "ends", "lying", "day"] ["rooms", "waters", "days"] (defScope sTightest) := ⟨rfl, rfl, rfl, by decide +kernel, rfl, by decide +kernel, by decide +kernel⟩
theorem ndTi : (["above", "ends", "day", "lying"] : List Str).Nodup := by decide +kernel
theorem ok_ti {f fL : Addr} {fd fdL : FuncData} (F : Fun K "tightest_line" "tightest_line" sTightest f fd) (T : Txt K mg C cY cB cD cL cT) (FL : Fun K "least_end" "least_end" sLeastEnd fL fdL) (bL : Binds K fdL ["ends", "day", "lying", "above"] []) (mL : mg "least_end" = some (.ref fL)) :
    FnOk P w K mg base CX0 2 f fd ["rooms", "waters", "days"] spTight := by
  have GL : FnOk P w K mg base CX0 1 fL fdL ["ends", "day", "lying", "above"] spLeast := ok_le FL T
  refine F.ok scTi (fun vs H Q E h => ?_) (fun cdv A outer s H vs Q E hr h => ?_)
  · obtain ⟨rp, wp, l, rs, ws, as, ds, rfl, _⟩ := h
    rfl
  · obtain ⟨rp, wp, l, rs, ws, as, ds, rfl, hrp, hwp, DR, hlw, h4, hd50, hrow, kk⟩ := h
    have hu := hr.units
    show let X9 := _; let E9 := _; ∃ t, PSs X9 (defBody sTightest) t ∧ t E9 _ _
    intro X9 E9
    let x1_1 : SB9 X9 ((fB9 (defBody sTightest) 2)) 1 := ⟨_, pss_one (ps_set (i := 4) scTi.nd rfl (Or.inr rfl) (pv 0))⟩
    let tx1_1 : TS := x1_1.1
    have px1_1 : PSs X9 (List.drop 1 ((fB9 (defBody sTightest) 2))) tx1_1 := x1_1.2
    let x1_0 : SB9 X9 ((fB9 (defBody sTightest) 2)) 0 := ⟨_, pss_cons (ps_set (i := 3) scTi.nd rfl (Or.inr rfl) (pe_comp (N := ["above", "ends", "day", "lying"]) (cap := [none, some 3, some 5, some 4]) rfl (.of (by rfl)) (pi_range1 (by rfl) T.range (pa_cons (pe_op op_add (pe_callB call_len_seq (by rfl) T.len PySem.boot_len (pa_cons (pv 0) pa_nil)) pe_int) pa_nil))
            (fun _ _ _ _ => pg_name (i := 0) ndTi rfl (Or.inl rfl)) (fun _ _ _ _ => pts_nil)
            (fun _ _ _ _ => pe_call GL hr (by rfl) mL FL.kp bL .nil pass0 (pa_cons (pv 1) (pa_cons (pv 2) (pa_cons (pv 3) (pa_cons (pv 0) pa_nil))))))) px1_1⟩
    let tx1_0 : TS := x1_0.1
    have px1_0 : PSs X9 (List.drop 0 ((fB9 (defBody sTightest) 2))) tx1_0 := x1_0.2
    let x2_3 : SB9 X9 (defBody sTightest) 3 := ⟨_, pss_one (ps_ret (pe_ix ix_tup (pe_callB (call_minP rfl hu) (by rfl) T.min boot_min (pa_cons (pv 3) pa_nil)) pe_int (fun _ _ => rfl)))⟩
    let tx2_3 : TS := x2_3.1
    have px2_3 : PSs X9 (List.drop 3 (defBody sTightest)) tx2_3 := x2_3.2
    let x2_2 : SB9 X9 (defBody sTightest) 2 := ⟨_, pss_cons (ps_for PassesOwn.never rfl (pi_list (pv 2)) (pg_name (i := 5) scTi.nd rfl (Or.inr rfl)) px1_0) px2_3⟩
    let tx2_2 : TS := x2_2.1
    have px2_2 : PSs X9 (List.drop 2 (defBody sTightest)) tx2_2 := x2_2.2
    let x2_1 : SB9 X9 (defBody sTightest) 1 := ⟨_, pss_cons (ps_set (i := 4) scTi.nd rfl (Or.inr rfl) (pv 1)) px2_2⟩
    let tx2_1 : TS := x2_1.1
    have px2_1 : PSs X9 (List.drop 1 (defBody sTightest)) tx2_1 := x2_1.2
    let x2_0 : SB9 X9 (defBody sTightest) 0 := ⟨_, pss_cons (ps_set (i := 3) scTi.nd rfl (Or.inr rfl) (pe_lst (pa_cons (pe_tup (pa_cons pe_int (pa_cons (pe_lst pa_nil) pa_nil))) pa_nil))) px2_1⟩
    let tx2_0 : TS := x2_0.1
    have px2_0 : PSs X9 (List.drop 0 (defBody sTightest)) tx2_0 := x2_0.2
    refine ⟨tx2_0, px2_0, ?_⟩
    -- ends
    refine ⟨Nat.zero_le _, fun la hla => ⟨(by show 2 ≤ sizeLine; decide), fun t0 ht0 => ⟨(by show 1 ≤ sizeLine; decide), fun el hel => ?_⟩⟩⟩
    have s1 := same_upd (o := .lst []) hla
    have s2 := same_upd (o := .tup [.int 0, .ref la]) ht0
    have s3 := same_upd (o := .lst [.ref t0]) hel
    have s13 := s1.trans (s2.trans s3)
    have hla3 := s3 _ _ (s2 _ _ (upd_same (H := H) (a := la) (o := .lst [])))
    have ht3 := s3 _ _ (upd_same (H := upd H la (.lst [])) (a := t0) (o := .tup [.int 0, .ref la]))
    have hel3 : (upd (upd (upd H la (.lst [])) t0 (.tup [.int 0, .ref la])) el (.lst [.ref t0])) el = some (.lst [.ref t0]) := upd_same
    generalize upd (upd (upd H la (.lst [])) t0 (.tup [.int 0, .ref la])) el (.lst [.ref t0]) = H3 at s13 hla3 ht3 hel3 ⊢
    refine ⟨_, rfl, _, rfl, l, rfl, ⟨_, SqL.of (s13 _ _ DR.lst)⟩, ?_⟩
    have hasl : (as.map fun a => V.ref a.1).length = ds.length := by rw [List.length_map, DR.len]
    refine for_list (xs := as.map fun a => V.ref a.1) (fun i σ H' => Same H H' ∧ ∃ (el lp : Addr) (ts : List Ent), EntsAt H' el ts i ∧ EndsOk rs ws ds i ts ∧ (∀ t ∈ ts, H t.2.2.1 = none) ∧ H' lp = some (.lst (iL (if i = 0 then ws else rs))) ∧
      ∃ o5, σ = [some (.ref rp), some (.ref wp), some (.ref l), some (.ref el), some (.ref lp), o5]) ?_ ?_ ?_ ?_
    · refine ⟨s13, el, wp, [(t0, 0, la, [])], ⟨hel3, fun t ht => ?_⟩, EndsOk.start rs ws ds t0 la, fun t ht => ?_, s13 _ _ hwp, none, rfl⟩
      · rw [List.mem_singleton.mp ht]
        exact ⟨ht3, hla3, rfl⟩
      · rw [List.mem_singleton.mp ht]
        exact hla
    · rintro i σ H' _ ⟨s4, _⟩
      exact SqL.of (s4 _ _ DR.lst)
    · rintro i x σ H' hx ⟨s4, el, lp, ts, ES, EO, fts, hlp, o5, rfl⟩
      have hid : i < ds.length := by
        have := (List.getElem?_eq_some_iff.mp hx).1
        omega
      obtain ⟨td, p, q, d, ha, hv, hd, htd, hp, hq⟩ := (DR.same s4).at hid
      rw [hv] at hx
      cases hx
      obtain ⟨l1, l2⟩ := hrow d (List.mem_of_getElem? hd)
      have eln : ((iL rs).length : Int) = (rs.length : Int) := by rw [List.length_map]
      have hll : (if i = 0 then ws else rs).length = rs.length := by
        split
        · exact hlw
        · rfl
      refine ⟨_, rfl, rp, _, rfl, .inl (SqL.of (s4 _ _ hrp)), _, _, rfl, rfl, _, rfl, by omega, by omega, fun D hD => ?_⟩
      have en : (((iL rs).length : Int) + 1).toNat = rs.length + 1 := by omega
      rw [en]
      refine comp_by (rs.length + 1) (sz100 (by omega)) (fun j ys τ H4 => j ≤ rs.length + 1 ∧ Same H' H4 ∧ (∃ us : List Ent, ys = (us.map fun t => V.ref t.1) ∧ us.length = j ∧ EntsAt H4 D us (i + 1) ∧ (∀ (m : Nat) (u : Ent), us[m]? = some u → H u.2.2.1 = none ∧ u.2.2.1 ≠ D ∧ ∃ (b : Nat) (t : Ent), ts[b]? = some t ∧ u.2.2.2 = t.2.2.2 ++ [(m : Int)] ∧ u.2.1 = nextE rs ws d i ts b m ∧ ∀ b', b' < ts.length → u.2.1 ≤ nextE rs ws d i ts b' m)) ∧
        ∃ o, τ = [o, some (.ref el), some (.ref td), some (.ref lp)]) ?_ ?_ ?_ ?_
      · exact ⟨Nat.zero_le _, same_new hD, ⟨[], rfl, rfl, ⟨upd_same, by simp⟩, fun m u h => by simp at h⟩, none, rfl⟩
      · rintro j ys τ H4 ⟨hj, s5, ⟨us, rfl, hul, US, _⟩, _⟩
        exact ⟨US.lst, by rw [List.length_map, hul]; exact Nat.le_refl _⟩
      · rintro j ys τ H4 hj ⟨_, s5, ⟨us, rfl, hul, US, uok⟩, o, rfl⟩
        refine ⟨hj, ?_⟩
        rintro x H6 ⟨rfl, rfl⟩
        have e0 : (0 : Int) + (j : Int) = (j : Int) := by omega
        rw [e0]
        refine name_yes_if ?_
        refine ⟨_, rfl, _, rfl, _, rfl, _, rfl, el, td, p, q, lp, ts, i, d.1, d.2, _, j, rs.length, rfl, ES.same s5, EO.ne, EO.len, s5 _ _ htd, s5 _ _ hp, s5 _ _ hq, s5 _ _ hlp, l1, l2, hll, by omega, by omega, by omega, fun t' q' b t e' H7 fq hb he hmin ht' hq' s7 => ?_⟩
        have s47 := s5.trans s7
        have hD7 := s7 _ _ US.lst
        have nq : q' ≠ D := (ne_of_none US.lst fq).symm
        have nt : t' ≠ D := ne_of ht' hD7 (by nofun)
        have eE : e' = nextE rs ws d i ts b j := by
          rw [he]
          unfold nextE
          rw [hb]
          rfl
        refine ⟨hD7, hj, fun b o z => ?_, ⟨us ++ [(t', e', q', t.2.2.2 ++ [(j : Int)])], ?_, ?_, ⟨?_, fun u hu' => ?_⟩, fun m u e => ?_⟩, _, rfl⟩
        · rw [upd_ne (ne_of_none z hD)]
          exact s47 _ _ z
        · rw [List.map_append]
          rfl
        · rw [List.length_append, hul]
          rfl
        · rw [upd_same, List.map_append]
          rfl
        · rcases List.mem_append.mp hu' with z | z
          · obtain ⟨i', hi', e⟩ := List.mem_iff_getElem.mp z
            have nn := (uok i' u (by rw [← e]; exact List.getElem?_eq_getElem hi')).2.1
            have ee := US.ent u z
            exact ⟨by rw [upd_ne (ne_of ee.1 US.lst (by nofun))]; exact s7 _ _ ee.1, by rw [upd_ne nn]; exact s7 _ _ ee.2.1, ee.2.2⟩
          · rw [List.mem_singleton.mp z]
            refine ⟨by rw [upd_ne nt]; exact ht', by rw [upd_ne nq]; exact hq', ?_⟩
            show (t.2.2.2 ++ [(j : Int)]).length = i + 1
            rw [List.length_append, (ES.ent t (List.mem_of_getElem? hb)).2.2]
            rfl
        · by_cases hjm : m < us.length
          · rw [List.getElem?_append_left hjm] at e
            exact uok m u e
          · have : m = us.length := by
              have := (List.getElem?_eq_some_iff.mp e).1
              rw [List.length_append] at this
              have : m < us.length + 1 := this
              omega
            subst this
            rw [List.getElem?_append_right (Nat.le_refl _), Nat.sub_self] at e
            cases e
            rw [hul]
            refine ⟨(s4.trans s5).free fq, nq, b, t, hb, rfl, eE, fun b' hb' => ?_⟩
            have := hmin b' _ (List.getElem?_eq_getElem hb')
            show e' ≤ nextE rs ws d i ts b' j
            unfold nextE
            rw [List.getElem?_eq_getElem hb']
            exact this
      rintro ys τ H4 ⟨_, s5, ⟨us, rfl, hul, US, uok⟩, o, rfl⟩
      refine ⟨Nat.le_refl _, ?_⟩
      have s45 := s4.trans s5
      refine ⟨_, rfl, s45, D, rp, us, US, EO.next hd hul fun m u e => (uok m u e).2.2, fun t ht => ?_, ?_, _, rfl⟩
      · obtain ⟨i', hi', e⟩ := List.mem_iff_getElem.mp ht
        exact (uok i' t (by rw [← e]; exact List.getElem?_eq_getElem hi')).1
      · rw [if_neg (by omega)]
        exact s45 _ _ hrp
    · rintro σ H' ⟨s4, el, lp, ts, ES, EO, fts, hlp, o5, rfl⟩
      rw [hasl] at ES EO
      refine ⟨_, rfl, el, ts, ds.length, rfl, SqL.of ES.lst, EO.ne, ES.ent, fun t ht hmin => ?_⟩
      have te := ES.ent t ht
      refine ⟨t.1, _, _, _, rfl, rfl, SqT.of te.1, atI_nat (j := 1) rfl, ?_⟩
      obtain ⟨m, hm, e⟩ := List.mem_iff_getElem.mp ht
      have hmt : ts[m]? = some t := by rw [← e]; exact List.getElem?_eq_getElem hm
      obtain ⟨lo, la', ec⟩ := EO.at' m t hmt
      rw [List.take_length] at ec
      refine kk t.2.2.1 t.2.2.2 H' (fts t ht) te.2.1 ⟨lo, fun l2 hl2 => ?_⟩ s4
      obtain ⟨t2, ht2, le⟩ := EO.all l2 hl2
      rw [List.take_length] at le
      have := hmin t2 (List.mem_of_getElem? ht2)
      omega
/-- all wishes -/
def wished (ds : List Day) : Int := (ds.map fun d => d.2.sum).sum
def spMost (C cD : Addr) : Sp := fun vs H Q E => ∃ (y sz lv l : Addr) (rs ws : List Int) (as : List A3) (ds : List Day), vs = [.ref y, .ref l] ∧ YardAt C H y sz lv rs ws ∧ ws.length = rs.length ∧ rs.length ≤ 4 ∧ DaysR H l as ds ∧ ds.length ≤ 100 ∧ (∀ d ∈ ds, d.1.length ≤ 100 ∧ d.2.length ≤ 100) ∧
  (DaysOk rs.length ds → ∀ (t q : Addr) (li : List Int) (H' : Hp), H q = none → H' q = some (.lst (iL li)) → H' t = some (.tup [.int (cost rs ws ds li + wished ds), .ref q]) → Tight rs ws ds li → Same H H' → Q (.ref t) H') ∧ (¬ DaysOk rs.length ds → ∀ H', Same H H' → E (.ref cD) none H')
theorem scMo : FnScope ["yard", "days", "line", "wished"] ["yard", "days"] (defScope sMost) := ⟨rfl, rfl, rfl, by decide +kernel, rfl, by decide +kernel, by decide +kernel⟩
theorem ndMo : (["day"] : List Str).Nodup := by decide +kernel
theorem ok_mo {f fS fT fW fI fRo fWa : Addr} {fd fdS fdT fdW fdI fdRo fdWa : FuncData} (F : Fun K "most" "most" sMost f fd) (T : Txt K mg C cY cB cD cL cT)
    (FS : Fun K "check_days" "check_days" sCheckDays fS fdS) (bS : Binds K fdS ["tanks", "days"] []) (mS : mg "check_days" = some (.ref fS)) (GS : FnOk P w K mg base (CXo P w) 4 fS fdS ["tanks", "days"] (spCkDays cD))
    (FT : Fun K "tightest_line" "tightest_line" sTightest fT fdT) (bT : Binds K fdT ["rooms", "waters", "days"] []) (mT : mg "tightest_line" = some (.ref fT)) (GT : FnOk P w K mg base CX0 2 fT fdT ["rooms", "waters", "days"] spTight)
    (FW : Fun K "water_above" "water_above" sWater fW fdW) (bW : Binds K fdW ["yard", "days", "line"] []) (mW : mg "water_above" = some (.ref fW)) (GW : FnOk P w K mg base (CXo P w) 6 fW fdW ["yard", "days", "line"] (spAbove C cD cL vWater))
    (FI : Fun K "wishes_above" "wishes_above" sWishes fI fdI) (bI : Binds K fdI ["yard", "days", "line"] []) (mI : mg "wishes_above" = some (.ref fI)) (GI : FnOk P w K mg base (CXo P w) 6 fI fdI ["yard", "days", "line"] (spAbove C cD cL vWishes))
    (eRo : Meth K C "rooms" fRo) (bRo : Binds K fdRo ["self"] []) (GRo : FnOk P w K mg base CX0 1 fRo fdRo ["self"] (spRooms C)) (eWa : Meth K C "waters" fWa) (bWa : Binds K fdWa ["self"] []) (GWa : FnOk P w K mg base CX0 1 fWa fdWa ["self"] (spWaters C)) :
    FnOk P w K mg base (CXo P w) 7 f fd ["yard", "days"] (spMost C cD) := by
  refine F.okX scMo (fun vs H Q E h => ?_) (fun cdv A outer s H vs Q E hr h => ?_)
  · obtain ⟨y, sz, lv, l, rs, ws, as, ds, rfl, _⟩ := h
    rfl
  · obtain ⟨y, sz, lv, l, rs, ws, as, ds, rfl, Y, hlw, h4, DR, hd1, hd2, kG, kB⟩ := h
    have hr1 := hr.mono (show 1 ≤ 6 by decide)
    have hr2 := hr.mono (show 2 ≤ 6 by decide)
    have hr4 := hr.mono (show 4 ≤ 6 by decide)
    show let X9 := _; let E9 := _; ∃ t, PSs X9 (defBody sMost) t ∧ t E9 _ _
    intro X9 E9
    let x1_3 : SB9 X9 (defBody sMost) 3 := ⟨_, pss_one (ps_ret (pe_tup (pa_cons (pe_op op_sub (pe_op op_add (pe_callX GW hr (by rfl) mW FW.kp bW .nil passes_cx (pa_cons (pv 0) (pa_cons (pv 1) (pa_cons (pv 2) pa_nil)))) (pv 3)) (pe_callX GI hr (by rfl) mI FI.kp bI .nil passes_cx (pa_cons (pv 0) (pa_cons (pv 1) (pa_cons (pv 2) pa_nil))))) (pa_cons (pv 2) pa_nil))))⟩
    let tx1_3 : TS := x1_3.1
    have px1_3 : PSs X9 (List.drop 3 (defBody sMost)) tx1_3 := x1_3.2
    let x1_2 : SB9 X9 (defBody sMost) 2 := ⟨_, pss_cons (ps_set (i := 3) scMo.nd rfl (Or.inl rfl) (pe_callB (call_sum rfl) (by rfl) T.sum boot_sum (pa_cons (pe_comp (N := ["day"]) (cap := [none]) rfl (.of (by rfl)) (pi_list (pv 1)) (fun _ _ _ _ => pg_name (i := 0) ndMo rfl (Or.inl rfl)) (fun _ _ _ _ => pts_nil)
        (fun _ _ _ _ => pe_callB (show CallR _ (.builtin "sum") (rSum K) from call_sum rfl) (by rfl) T.sum boot_sum (pa_cons (pe_ix (show IxR _ (rIxT K) from ix_tup) (pv 0) pe_int (fun _ _ => rfl)) pa_nil))) pa_nil))) px1_3⟩
    let tx1_2 : TS := x1_2.1
    have px1_2 : PSs X9 (List.drop 2 (defBody sMost)) tx1_2 := x1_2.2
    let x1_1 : SB9 X9 (defBody sMost) 1 := ⟨_, pss_cons (ps_set (i := 2) scMo.nd rfl (Or.inl rfl) (pe_call GT hr2 (by rfl) mT FT.kp bT .nil pass0 (pa_cons (pe_meth0 (pv 0) T.cl eRo GRo hr1 bRo .nil pass0) (pa_cons (pe_meth0 (pv 0) T.cl eWa GWa hr1 bWa .nil pass0) (pa_cons (pv 1) pa_nil))))) px1_2⟩
    let tx1_1 : TS := x1_1.1
    have px1_1 : PSs X9 (List.drop 1 (defBody sMost)) tx1_1 := x1_1.2
    let x1_0 : SB9 X9 (defBody sMost) 0 := ⟨_, pss_cons (ps_expr (pe_callX GS hr4 (by rfl) mS FS.kp bS .nil passes_cx (pa_cons (pe_callB call_len_seq (by rfl) T.len PySem.boot_len (pa_cons (pe_meth0 (pv 0) T.cl eRo GRo hr1 bRo .nil pass0) pa_nil)) (pa_cons (pv 1) pa_nil)))) px1_1⟩
    let tx1_0 : TS := x1_0.1
    have px1_0 : PSs X9 (List.drop 0 (defBody sMost)) tx1_0 := x1_0.2
    refine ⟨tx1_0, px1_0, ?_⟩
    obtain ⟨dx, hy⟩ := Y.ob
    refine ⟨_, rfl, y, dx, _, rfl, hy, fl_no _ _ (by decide) (by decide), y, sz, lv, rs, ws, rfl, Y, fun r1 h1 => ?_⟩
    have s1 := same_upd (o := .lst (iL rs)) h1
    refine ⟨r1, _, rfl, .inl (SqL.of upd_same), _, rfl, rs.length, l, as, ds, (by rw [List.length_map]; rfl), DR.same s1, hd1, hd2, fun g H2 s2 => ?_, fun g H2 s2 => kB g H2 (s1.trans s2)⟩
    have s12 := s1.trans s2
    have hrow : ∀ d ∈ ds, d.1.length = rs.length ∧ d.2.length = rs.length := fun d hd => ⟨(g.2 d hd).1.1, (g.2 d hd).2.1⟩
    have hd8 := g.1
    -- line
    refine ⟨_, rfl, y, dx, _, rfl, s12 _ _ hy, fl_no _ _ (by decide) (by decide), y, sz, lv, rs, ws, rfl, Y.same s12, fun r2 h2 => ?_⟩
    have s3 := same_upd (o := .lst (iL rs)) h2
    have s13 := s12.trans s3
    refine ⟨_, rfl, y, dx, _, rfl, s13 _ _ hy, fl_no _ _ (by decide) (by decide), y, sz, lv, rs, ws, rfl, Y.same s13, fun w2 hw2 => ?_⟩
    have s4 := same_upd (o := .lst (iL ws)) hw2
    have s14 := s13.trans s4
    refine ⟨_, rfl, r2, w2, l, rs, ws, as, ds, rfl, s4 _ _ upd_same, upd_same, DR.same s14, hlw, h4, by omega, hrow, fun q li H5 fq hq5 hti s5 => ?_⟩
    have s15 := s14.trans s5
    -- wished
    refine ⟨_, rfl, l, rfl, ⟨_, SqL.of (s15 _ _ DR.lst)⟩, fun D hD => ?_⟩
    refine comp_by ds.length (sz100 hd1) (fun i ys τ H' => i ≤ ds.length ∧ ys = iL ((ds.take i).map fun d => d.2.sum) ∧ H' = upd H5 D (.lst ys) ∧ ∃ o, τ = [o]) ?_ ?_ ?_ ?_
    · exact ⟨Nat.zero_le _, rfl, rfl, none, rfl⟩
    · rintro i ys τ H' ⟨hi, rfl, rfl, _⟩
      exact ⟨upd_same, by rw [List.length_map, List.length_map, List.length_take]; exact Nat.min_le_left _ _⟩
    · rintro i ys τ H' hi ⟨_, rfl, rfl, o, rfl⟩
      have s6 := same_new (o := .lst (iL ((ds.take i).map fun d => d.2.sum))) hD
      obtain ⟨t, p, q', d, ha, hv, hd, ht, hp, hq'⟩ := (DR.same s15).at hi
      have hl6 := s6 _ _ (s15 _ _ DR.lst)
      refine ⟨⟨_, _, SqL.of hl6, hv⟩, ?_⟩
      rintro x H3 ⟨rfl, hx⟩
      have ex := Option.some.inj ((hx _ (SqL.of hl6)).symm.trans hv)
      subst ex
      refine name_yes_if ?_
      refine ⟨_, rfl, t, _, _, _, rfl, rfl, SqT.of (s6 _ _ ht), atI_nat (j := 1) rfl, q', d.2, rfl, SqL.of (s6 _ _ hq'), upd_same, hi, ?_, ?_, _, rfl⟩
      · rw [take_snoc hd, List.map_append, iL_snoc]
        rfl
      · rw [upd_upd]
    rintro ys τ H' ⟨_, rfl, rfl, o, rfl⟩
    rw [List.take_length]
    have s6 := same_new (o := .lst (iL (ds.map fun d => d.2.sum))) hD
    have s16 := s15.trans s6
    refine ⟨⟨_, SqL.of (s16 _ _ DR.lst), by rw [List.length_map, DR.len]; exact Nat.le_refl _⟩, D, _, rfl, SqL.of upd_same, ?_⟩
    have hq6 := s6 _ _ hq5
    generalize upd H5 D (.lst (iL (ds.map fun d => d.2.sum))) = H6 at s6 s16 hq6 ⊢
    have fqH : H q = none := s14.free fq
    have lok := hti.1
    have hll : li.length ≤ 100 := by rw [lok.2]; omega
    -- the pair
    refine ⟨_, rfl, _, rfl, _, rfl, y, sz, lv, l, q, rs, ws, as, ds, li, rfl, Y.same s16, hlw, by omega, DR.same s16, hd1, hd2, hq6, hll, fun _ _ H7 s7 => ?_, fun z => absurd g z, fun _ z => absurd lok z⟩
    have s17 := s16.trans s7
    refine ⟨_, rfl, _, _, rfl, rfl, _, rfl, _, rfl, _, rfl, y, sz, lv, l, q, rs, ws, as, ds, li, rfl, Y.same s17, hlw, by omega, DR.same s17, hd1, hd2, s7 _ _ hq6, hll, fun _ _ H8 s8 => ?_, fun z => absurd g z, fun _ z => absurd lok z⟩
    refine ⟨_, _, rfl, rfl, _, rfl, (by show 2 ≤ sizeLine; decide), fun t ht => ?_⟩
    have e : vWater rs ws ds li + (ds.map fun d => d.2.sum).sum - vWishes rs ws ds li = cost rs ws ds li + wished ds := by
      unfold vWater vWishes cost wished
      omega
    have s9 := same_upd (o := .tup [.int (vWater rs ws ds li + (ds.map fun d => d.2.sum).sum - vWishes rs ws ds li), .ref q]) ht
    exact kG g t q li _ fqH (s9 _ _ (s8 _ _ (s7 _ _ hq6))) (by rw [← e]; exact upd_same) hti (s17.trans (s8.trans s9))
end
end Z

set_option Elab.async false
set_option linter.all false
set_option maxRecDepth 100000
set_option maxHeartbeats 8000000
namespace Z
open PySem L2
/-! ### a yard and its days, times numbers -/
def mulL (c : Int) (l : List Int) : List Int := l.map (c * ·)
theorem sumTo_mul {f g : Nat → Int} {c : Int} (h : ∀ i, f i = c * g i) : ∀ n, sumTo f n = c * sumTo g n
  | 0 => (Int.mul_zero c).symm
  | n + 1 => by
    show sumTo f n + f n = c * (sumTo g n + g n)
    rw [sumTo_mul h n, h n, Int.mul_add]
def mulD (t b : Int) (ds : List Day) : List Day := ds.map fun d => (mulL b d.1, mulL t d.2)
/-- at t / b the line breaks, and no line breaks more -/
structure Brk (rs ws : List Int) (ds : List Day) (t b : Int) (li : List Int) : Prop where
  ok : LineOk rs.length ds.length li
  lt : b * watAb rs 0 ws ds li < t * wisAb ds li
  least : ∀ l2, LineOk rs.length ds.length l2 → b * watAb rs 0 ws ds li - t * wisAb ds li ≤ b * watAb rs 0 ws ds l2 - t * wisAb ds l2
def Kept (rs ws : List Int) (ds : List Day) (t b : Int) : Prop := ∀ l2, LineOk rs.length ds.length l2 → t * wisAb ds l2 ≤ b * watAb rs 0 ws ds l2
theorem sumTo_nn {f : Nat → Int} (h : ∀ i, 0 ≤ f i) : ∀ n, 0 ≤ sumTo f n
  | 0 => Int.le_refl 0
  | n + 1 => by
    have := sumTo_nn h n
    have := h n
    show 0 ≤ sumTo f n + f n
    omega
theorem sumTo_up {f : Nat → Int} (h : ∀ i, 0 ≤ f i) (i : Nat) : ∀ k, sumTo f i ≤ sumTo f (i + k)
  | 0 => Int.le_refl _
  | k + 1 => by
    have := sumTo_up h i k
    have := h (i + k)
    show sumTo f i ≤ sumTo f (i + k) + f (i + k)
    omega
/-! ### the numbers of a share -/
structure Parts (W D t b : Int) : Prop where
  b0 : 0 < b
  t0 : 0 ≤ t
  ex : ∃ g : Int, 0 < g ∧ W = g * t ∧ D = g * b
  co : Nat.Coprime t.toNat b.toNat
/-- what a share tells: the fraction, and the line that bounds it -/
def Told (rs ws : List Int) (ds : List Day) (t b : Int) (o : Option (List Int)) : Prop := match o with
  | none => t = 1 ∧ b = 1
  | some li => LineOk rs.length ds.length li ∧ Parts (watAb rs 0 ws ds li) (wisAb ds li) t b ∧ t < b ∧ watAb rs 0 ws ds li < wisAb ds li ∧ 0 ≤ watAb rs 0 ws ds li
structure ShareOk (rs ws : List Int) (ds : List Day) (t b : Int) (o : Option (List Int)) : Prop where
  told : Told rs ws ds t b o
  kept : Kept rs ws ds t b
end Z

set_option Elab.async false
set_option linter.all false
set_option maxRecDepth 100000
set_option maxHeartbeats 8000000
namespace Z
open PySem L2
/-! ### no plan beats a line -/
def drAb : List Day → List Int → Int
  | p :: ps, a :: li => sumTo (gI p.1) a.toNat + drAb ps li
  | [], _ => 0
  | _ :: _, [] => 0
theorem fl_sum (ls ra dr kp : List Int) : ∀ n, flAt ls ra dr kp n = sumTo (gI ls) n + sumTo (gI ra) n - sumTo (gI dr) n - sumTo (gI kp) n
  | 0 => rfl
  | n + 1 => by
    show flAt ls ra dr kp n + gI ls n + gI ra n - gI dr n - gI kp n = sumTo (gI ls) n + gI ls n + (sumTo (gI ra) n + gI ra n) - (sumTo (gI dr) n + gI dr n) - (sumTo (gI kp) n + gI kp n)
    rw [fl_sum ls ra dr kp n]
    omega
theorem hold_fl {rs ls ra wi dr kp : List Int} (h : HoldsDay rs ls ra wi dr kp) : ∀ n, n ≤ rs.length → 0 ≤ flAt ls ra dr kp n
  | 0, _ => Int.le_refl 0
  | n + 1, hn => (h n (by omega)).2
theorem hold_kp {rs ls ra wi dr kp : List Int} (h : HoldsDay rs ls ra wi dr kp) (hk : kp.length = rs.length) (i : Nat) : 0 ≤ gI kp i ∧ gI kp i ≤ gI rs i := by
  by_cases hi : i < rs.length
  · exact (h i hi).1.2
  · rw [gI_out (l := kp) (by omega), gI_out (l := rs) (by omega)]
    exact ⟨Int.le_refl 0, Int.le_refl 0⟩
theorem sum_part {ls ly : List Int} {b : Nat} (h : ∀ i, gI ls i ≤ gI ly i) : ∀ a, sumTo (gI ls) a ≤ sumTo (fromB ly b) a + sumTo (gI ls) (min a b)
  | 0 => by
    rw [Nat.zero_min]
    show (0 : Int) ≤ 0 + 0
    omega
  | a + 1 => by
    have ih := sum_part (b := b) h a
    have ha := h a
    show sumTo (gI ls) a + gI ls a ≤ sumTo (fromB ly b) a + fromB ly b a + sumTo (gI ls) (min (a + 1) b)
    by_cases hb : b ≤ a
    · rw [show min (a + 1) b = b by omega]
      rw [show min a b = b by omega] at ih
      unfold fromB at ih ⊢
      rw [if_pos hb]
      omega
    · rw [show min (a + 1) b = a + 1 by omega]
      rw [show min a b = a by omega] at ih
      show _ ≤ _ + (sumTo (gI ls) a + gI ls a)
      unfold fromB at ih ⊢
      rw [if_neg hb]
      omega
theorem plan_line {rs : List Int} : ∀ {ls : List Int} {ds ps : List Day} {li ly : List Int} {b : Nat}, PHolds rs ls ds ps → (∀ v ∈ li, 0 ≤ v ∧ v ≤ (rs.length : Int)) → li.length = ds.length → NN ls → (∀ i, gI ls i ≤ gI ly i) → drAb ps li ≤ watAb rs b ly ds li + sumTo (gI ls) b
  | ls, [], [], [], ly, b, _, _, _, nl, _ => by
    have := sumTo_nn nl b
    rw [watAb_nil]
    show (0 : Int) ≤ _
    omega
  | ls, d :: ds, p :: ps, a :: li, ly, b, h, hl, hlen, nl, hy => by
    obtain ⟨h1, h2, h3, h4⟩ := h
    have ha := hl a List.mem_cons_self
    have ih := plan_line (li := li) (ly := rs) (b := a.toNat) h4 (fun v hv => hl v (List.mem_cons_of_mem _ hv)) (by simpa using hlen) (fun i => (hold_kp h3 h2 i).1) (fun i => (hold_kp h3 h2 i).2)
    have f := hold_fl h3 a.toNat (by omega)
    rw [fl_sum] at f
    have m := sum_part (b := b) hy a.toNat
    have u := sumTo_up nl (min a.toNat b) (b - min a.toNat b)
    rw [show min a.toNat b + (b - min a.toNat b) = b by omega] at u
    rw [watAb_cons]
    show sumTo (gI p.1) a.toNat + drAb ps li ≤ _
    omega
  | _, [], _ :: _, _, _, _, h, _, _, _, _ => h.elim
  | _, _ :: _, [], _, _, _, h, _, _, _, _ => h.elim
  | _, [], [], _ :: _, _, _, _, _, h, _, _ => by simp at h
  | _, _ :: _, _ :: _, [], _, _, _, _, h, _, _ => by simp at h
theorem sum_rest {f g : Nat → Int} {n : Nat} (h : ∀ i, i < n → f i ≤ g i) (a : Nat) : ∀ k, a + k ≤ n → sumTo f (a + k) - sumTo f a ≤ sumTo g (a + k) - sumTo g a
  | 0, _ => by
    rw [Nat.add_zero]
    omega
  | k + 1, hk => by
    have := sum_rest h a k (by omega)
    have := h (a + k) (by omega)
    show sumTo f (a + k) + f (a + k) - sumTo f a ≤ sumTo g (a + k) + g (a + k) - sumTo g a
    omega
theorem plan_below {rs : List Int} : ∀ {ls : List Int} {ds ps : List Day} {li : List Int}, PHolds rs ls ds ps → (∀ v ∈ li, 0 ≤ v ∧ v ≤ (rs.length : Int)) → li.length = ds.length → (∀ d ∈ ds, d.2.length = rs.length) → (ps.map fun p => p.1.sum).sum ≤ drAb ps li + wished ds - wisAb ds li
  | ls, [], [], [], _, _, _, _ => by
    rw [wisAb_nil]
    show (0 : Int) ≤ 0 + 0 - 0
    omega
  | ls, d :: ds, p :: ps, a :: li, h, hl, hlen, hd => by
    obtain ⟨h1, h2, h3, h4⟩ := h
    have ha := hl a List.mem_cons_self
    have ih := plan_below (li := li) h4 (fun v hv => hl v (List.mem_cons_of_mem _ hv)) (by simpa using hlen) fun e he => hd e (List.mem_cons_of_mem _ he)
    have r := sum_rest (f := gI p.1) (g := gI d.2) (n := rs.length) (fun i hi => (h3 i hi).1.1.2) a.toNat (rs.length - a.toNat) (by omega)
    have hd2 := hd d List.mem_cons_self
    rw [show a.toNat + (rs.length - a.toNat) = rs.length by omega] at r
    have e1 := sum_eq p.1
    have e2 := sum_eq d.2
    rw [h1] at e1
    rw [hd2] at e2
    rw [wisAb_cons, List.map_cons, List.sum_cons]
    show _ ≤ sumTo (gI p.1) a.toNat + drAb ps li + (d.2.sum + wished ds) - _
    omega
  | _, [], _ :: _, _, h, _, _, _ => h.elim
  | _, _ :: _, [], _, h, _, _, _ => h.elim
  | _, [], [], _ :: _, _, _, h, _ => by simp at h
  | _, _ :: _, _ :: _, [], _, _, h, _ => by simp at h
theorem plan_most {rs ws : List Int} {ds ps : List Day} {li : List Int} (h : PHolds rs ws ds ps) (hl : LineOk rs.length ds.length li) (hw : NN ws) (hd : ∀ d ∈ ds, d.2.length = rs.length) : (ps.map fun p => p.1.sum).sum ≤ cost rs ws ds li + wished ds := by
  have a1 := plan_below h hl.1 hl.2 hd
  have a2 := plan_line (b := 0) (ly := ws) h hl.1 hl.2 hw fun i => Int.le_refl _
  have e : sumTo (gI ws) 0 = 0 := rfl
  unfold cost
  omega
theorem plan_above {rs ws : List Int} {ds ps : List Day} {li : List Int} (h : PHolds rs ws ds ps) (hl : LineOk rs.length ds.length li) (hw : NN ws) : drAb ps li ≤ watAb rs 0 ws ds li := by
  have a2 := plan_line (b := 0) (ly := ws) h hl.1 hl.2 hw fun i => Int.le_refl _
  have e : sumTo (gI ws) 0 = 0 := rfl
  omega
/-- what a plan draws above a line, summed day by day -/
theorem drAb_sum : ∀ (ps : List Day) (li : List Int), li.length = ps.length → (∀ p ∈ ps, ∀ v ∈ li, v.toNat ≤ p.1.length) → drAb ps li = ((List.range ps.length).map fun i => (((ps.map Prod.fst).getD i []).take (gI li i).toNat).sum).sum
  | [], [], _, _ => rfl
  | p :: ps, a :: li, hl, h => by
    have ih := drAb_sum ps li (by simpa using hl) fun q hq v hv => h q (List.mem_cons_of_mem _ hq) v (List.mem_cons_of_mem _ hv)
    rw [List.length_cons, List.range_succ_eq_map, List.map_cons, List.sum_cons, List.map_map]
    show sumTo (gI p.1) a.toNat + drAb ps li = (p.1.take a.toNat).sum + _
    rw [sum_take p.1 _ (h p List.mem_cons_self a List.mem_cons_self), ih]
    rfl
  | [], _ :: _, h, _ => by simp at h
  | _ :: _, [], h, _ => by simp at h
/-! ### plans made day by day -/
def endP : List Int → List Day → List Int
  | ls, [] => ls
  | _, p :: ps => endP p.2 ps
theorem endP_snoc (p : Day) : ∀ (ls : List Int) (ps : List Day), endP ls (ps ++ [p]) = p.2
  | _, [] => rfl
  | _, q :: ps => endP_snoc p q.2 ps
theorem PHolds.snoc {rs : List Int} {d p : Day} : ∀ {ls : List Int} {ds ps : List Day}, PHolds rs ls ds ps → p.1.length = rs.length → p.2.length = rs.length → HoldsDay rs (endP ls ps) d.1 d.2 p.1 p.2 → PHolds rs ls (ds ++ [d]) (ps ++ [p])
  | ls, [], [], _, h1, h2, h3 => ⟨h1, h2, h3, trivial⟩
  | ls, e :: ds, q :: ps, h, h1, h2, h3 => ⟨h.1, h.2.1, h.2.2.1, PHolds.snoc h.2.2.2 h1 h2 h3⟩
  | _, [], _ :: _, h, _, _, _ => h.elim
  | _, _ :: _, [], h, _, _, _ => h.elim
theorem PHolds.rows {rs : List Int} : ∀ {ls : List Int} {ds ps : List Day}, PHolds rs ls ds ps → ∀ p ∈ ps, p.1.length = rs.length
  | _, [], [], _, _, hp => by cases hp
  | _, d :: ds, q :: ps, h, p, hp => by
    rcases List.mem_cons.mp hp with z | z
    · rw [z]
      exact h.1
    · exact PHolds.rows h.2.2.2 p z
  | _, [], _ :: _, h, _, _ => h.elim
  | _, _ :: _, [], h, _, _ => h.elim
theorem gI_app {l xs : List Int} {i : Nat} (h : i < l.length) : gI (l ++ xs) i = gI l i := by
  unfold gI
  rw [List.getD_eq_getElem?_getD, List.getD_eq_getElem?_getD, List.getElem?_append_left h]
theorem gI_end {l : List Int} {v : Int} : gI (l ++ [v]) l.length = v := by
  unfold gI
  rw [List.getD_eq_getElem?_getD, List.getElem?_append_right (Nat.le_refl _), Nat.sub_self]
  rfl
theorem fl_app {ls ra dr kp xs ys : List Int} : ∀ {i : Nat}, i ≤ dr.length → i ≤ kp.length → flAt ls ra (dr ++ xs) (kp ++ ys) i = flAt ls ra dr kp i
  | 0, _, _ => rfl
  | i + 1, h1, h2 => by
    show flAt ls ra (dr ++ xs) (kp ++ ys) i + gI ls i + gI ra i - gI (dr ++ xs) i - gI (kp ++ ys) i = flAt ls ra dr kp i + gI ls i + gI ra i - gI dr i - gI kp i
    rw [fl_app (by omega) (by omega), gI_app (by omega), gI_app (by omega)]
theorem fl_end {ls ra dr kp : List Int} {u v : Int} {j : Nat} (h1 : dr.length = j) (h2 : kp.length = j) : flAt ls ra (dr ++ [u]) (kp ++ [v]) (j + 1) = flAt ls ra dr kp j + gI ls j + gI ra j - u - v := by
  show flAt ls ra (dr ++ [u]) (kp ++ [v]) j + gI ls j + gI ra j - gI (dr ++ [u]) j - gI (kp ++ [v]) j = _
  rw [fl_app (by omega) (by omega)]
  have e1 : gI (dr ++ [u]) j = u := by rw [← h1]; exact gI_end
  have e2 : gI (kp ++ [v]) j = v := by rw [← h2]; exact gI_end
  rw [e1, e2]
def UpTo (rs ls ra wi dr kp : List Int) (j : Nat) : Prop := ∀ i, i < j → TankOk rs ls ra wi dr kp i
theorem UpTo.snoc {rs ls ra wi dr kp : List Int} {u v : Int} {j : Nat} (h : UpTo rs ls ra wi dr kp j) (h1 : dr.length = j) (h2 : kp.length = j) (hu : 0 ≤ u ∧ u ≤ gI wi j) (hv : 0 ≤ v ∧ v ≤ gI rs j) (hf : 0 ≤ flAt ls ra dr kp j + gI ls j + gI ra j - u - v) : UpTo rs ls ra wi (dr ++ [u]) (kp ++ [v]) (j + 1) := fun i hi => by
  by_cases hij : i < j
  · have := h i hij
    unfold TankOk at this ⊢
    rw [gI_app (by omega), gI_app (by omega), fl_app (by omega) (by omega)]
    exact this
  · have : i = j := by omega
    subst this
    unfold TankOk
    have e1 : gI (dr ++ [u]) i = u := by rw [← h1]; exact gI_end
    have e2 : gI (kp ++ [v]) i = v := by rw [← h2]; exact gI_end
    rw [e1, e2, fl_end h1 h2]
    exact ⟨⟨hu, hv⟩, hf⟩
theorem ite_join2 {c : Prop} [Decidable c] {A B : Prop} {PP : Int → Int → Prop} (R : Int → Int → Prop) (h1 : (∀ u v, R u v → PP u v) → A) (h2 : (∀ u v, R u v → PP u v) → B) (h3 : ∀ u v, R u v → PP u v) : if c then A else B := by
  by_cases h : c
  · rw [if_pos h]; exact h1 h3
  · rw [if_neg h]; exact h2 h3
end Z

set_option Elab.async false
set_option linter.all false
set_option maxRecDepth 100000
set_option maxHeartbeats 8000000
namespace Z
open PySem L2
section
variable {P : Program} {w : World} {K : PySem.W.Frag} {mg : Str → Option Value} {base : Heap} {C cY cB cD cL cT : Addr}
def spPlan7 (K : PySem.W.Frag) : Sp := fun vs H Q _ => ∃ (a rp wp l : Addr) (ns rs ws : List Int) (as : List A3) (ds : List Day) (way : Int), vs = [.ref a, .ref rp, .ref wp, .ref l, .int way] ∧ SqL K H a (iL ns) ∧ ns.length ≤ 63 ∧ H rp = some (.lst (iL rs)) ∧ H wp = some (.lst (iL ws)) ∧ DaysR H l as ds ∧ NN rs ∧ NN ws ∧ ws.length = rs.length ∧ rs.length ≤ 4 ∧ DaysOk rs.length ds ∧
  ∀ (pl : Addr) (bs : List A3) (ps : List Day) (H' : Hp), DaysR H' pl bs ps → PHolds rs ws ds ps → Same H H' → Q (.ref pl) H'
theorem scPb : FnScope ["script", "rooms", "waters", "days", "way", "held", "plan", "number", "drawn", "kept", "over", "k", "spot", "water", "some", "stays"] ["script", "rooms", "waters", "days", "way"] (defScope sPlanBy) := ⟨rfl, rfl, rfl, by decide +kernel, rfl, by decide +kernel, by decide +kernel⟩
theorem ok_pb {f fD : Addr} {fd fdD : FuncData} (F : Fun K "_law_plan_by" "_law_plan_by" sPlanBy f fd) (T : Txt K mg C cY cB cD cL cT) (FD : Fun K "_law_drawn" "_law_drawn" sDrawn fD fdD) (bD : Binds K fdD ["script", "k", "many"] []) (mD : mg "_law_drawn" = some (.ref fD)) :
    FnOk P w K mg base CX0 2 f fd ["script", "rooms", "waters", "days", "way"] (spPlan7 K) := by
  have GD : FnOk P w K mg base CX0 1 fD fdD ["script", "k", "many"] (spDrawn K) := ok_dr FD T
  refine F.ok scPb (fun vs H Q E h => ?_) (fun cdv A outer s H vs Q E hr h => ?_)
  · obtain ⟨a, rp, wp, l, ns, rs, ws, as, ds, way, rfl, _⟩ := h
    rfl
  · obtain ⟨a, rp, wp, l, ns, rs, ws, as, ds, way, rfl, hs, hl, hrp, hwp, DR, n1, n2, hlw, h4, dok, kk⟩ := h
    show let X9 := _; let E9 := _; ∃ t, PSs X9 (defBody sPlanBy) t ∧ t E9 _ _
    intro X9 E9
    let x1_7 : SB9 X9 ((fB9 ((fB9 (defBody sPlanBy) 2)) 3)) 7 := ⟨_, pss_one (ps_set (i := 10) scPb.nd rfl (Or.inl rfl) (pe_op op_sub (pe_op op_sub (pv 13) (pv 14)) (pv 15)))⟩
    let tx1_7 : TS := x1_7.1
    have px1_7 : PSs X9 (List.drop 7 ((fB9 ((fB9 (defBody sPlanBy) 2)) 3))) tx1_7 := x1_7.2
    let x1_6 : SB9 X9 ((fB9 ((fB9 (defBody sPlanBy) 2)) 3)) 6 := ⟨_, pss_cons (ps_expr (pe_bm PySem.F.plainAttrs_list PySem.F.slot_list_append PySem.F.type_list_append mt_append (pv 9) (pa_cons (pv 15) pa_nil))) px1_7⟩
    let tx1_6 : TS := x1_6.1
    have px1_6 : PSs X9 (List.drop 6 ((fB9 ((fB9 (defBody sPlanBy) 2)) 3))) tx1_6 := x1_6.2
    let x1_5 : SB9 X9 ((fB9 ((fB9 (defBody sPlanBy) 2)) 3)) 5 := ⟨_, pss_cons (ps_expr (pe_bm PySem.F.plainAttrs_list PySem.F.slot_list_append PySem.F.type_list_append mt_append (pv 8) (pa_cons (pv 14) pa_nil))) px1_6⟩
    let tx1_5 : TS := x1_5.1
    have px1_5 : PSs X9 (List.drop 5 ((fB9 ((fB9 (defBody sPlanBy) 2)) 3))) tx1_5 := x1_5.2
    let x1_4 : SB9 X9 ((fB9 ((fB9 (defBody sPlanBy) 2)) 3)) 4 := ⟨_, pss_cons (ps_if (pt_cmpR op_gt (pv 4) pe_int (nomark _))
            (pss_cons (ps_set (i := 14) scPb.nd rfl (Or.inl rfl) (pe_op op_sub (pv 14) (pe_op op_fdiv (pe_call GD hr (by rfl) mD FD.kp bD .nil pass0 (pa_cons (pv 0) (pa_cons (pv 12) (pa_cons (pe_op op_add (pv 14) pe_int) pa_nil)))) pe_int)))
            (pss_one (ps_set (i := 15) scPb.nd rfl (Or.inl rfl) (pe_call GD hr (by rfl) mD FD.kp bD .nil pass0 (pa_cons (pv 0) (pa_cons (pe_op op_add (pv 12) pe_int) (pa_cons (pe_op op_add (pe_callB (call_min2 rfl) (by rfl) T.min boot_min (pa_cons (pe_op op_sub (pv 13) (pv 14)) (pa_cons (pe_ix ix_list (pv 1) (pv 11) (fun _ _ => rfl)) pa_nil))) pe_int) pa_nil))))))) pss_nil) px1_5⟩
    let tx1_4 : TS := x1_4.1
    have px1_4 : PSs X9 (List.drop 4 ((fB9 ((fB9 (defBody sPlanBy) 2)) 3))) tx1_4 := x1_4.2
    let x1_3 : SB9 X9 ((fB9 ((fB9 (defBody sPlanBy) 2)) 3)) 3 := ⟨_, pss_cons (ps_set (i := 15) scPb.nd rfl (Or.inl rfl) (pe_callB (call_min2 rfl) (by rfl) T.min boot_min (pa_cons (pe_op op_sub (pv 13) (pv 14)) (pa_cons (pe_ix ix_list (pv 1) (pv 11) (fun _ _ => rfl)) pa_nil)))) px1_4⟩
    let tx1_3 : TS := x1_3.1
    have px1_3 : PSs X9 (List.drop 3 ((fB9 ((fB9 (defBody sPlanBy) 2)) 3))) tx1_3 := x1_3.2
    let x1_2 : SB9 X9 ((fB9 ((fB9 (defBody sPlanBy) 2)) 3)) 2 := ⟨_, pss_cons (ps_set (i := 14) scPb.nd rfl (Or.inl rfl) (pe_callB (call_min2 rfl) (by rfl) T.min boot_min (pa_cons (pv 13) (pa_cons (pe_ix ix_list (pe_ix ix_tup (pe_ix ix_list (pv 3) (pv 7) (fun _ _ => rfl)) pe_int (fun _ _ => rfl)) (pv 11) (fun _ _ => rfl)) pa_nil)))) px1_3⟩
    let tx1_2 : TS := x1_2.1
    have px1_2 : PSs X9 (List.drop 2 ((fB9 ((fB9 (defBody sPlanBy) 2)) 3))) tx1_2 := x1_2.2
    let x1_1 : SB9 X9 ((fB9 ((fB9 (defBody sPlanBy) 2)) 3)) 1 := ⟨_, pss_cons (ps_set (i := 13) scPb.nd rfl (Or.inl rfl) (pe_op op_add (pe_op op_add (pe_ix ix_list (pv 5) (pv 11) (fun _ _ => rfl)) (pe_ix ix_list (pe_ix ix_tup (pe_ix ix_list (pv 3) (pv 7) (fun _ _ => rfl)) pe_int (fun _ _ => rfl)) (pv 11) (fun _ _ => rfl))) (pv 10))) px1_2⟩
    let tx1_1 : TS := x1_1.1
    have px1_1 : PSs X9 (List.drop 1 ((fB9 ((fB9 (defBody sPlanBy) 2)) 3))) tx1_1 := x1_1.2
    let x1_0 : SB9 X9 ((fB9 ((fB9 (defBody sPlanBy) 2)) 3)) 0 := ⟨_, pss_cons (ps_set (i := 12) scPb.nd rfl (Or.inl rfl) (pe_op op_add (pe_op op_add pe_int (pe_op op_mul pe_int (pv 7))) (pe_op op_mul pe_int (pv 11)))) px1_1⟩
    let tx1_0 : TS := x1_0.1
    have px1_0 : PSs X9 (List.drop 0 ((fB9 ((fB9 (defBody sPlanBy) 2)) 3))) tx1_0 := x1_0.2
    let x2_5 : SB9 X9 ((fB9 (defBody sPlanBy) 2)) 5 := ⟨_, pss_one (ps_set (i := 5) scPb.nd rfl (Or.inl rfl) (pe_callTy call_list_of (by rfl) T.list boot_lst (pa_cons (pv 9) pa_nil)))⟩
    let tx2_5 : TS := x2_5.1
    have px2_5 : PSs X9 (List.drop 5 ((fB9 (defBody sPlanBy) 2))) tx2_5 := x2_5.2
    let x2_4 : SB9 X9 ((fB9 (defBody sPlanBy) 2)) 4 := ⟨_, pss_cons (ps_expr (pe_bm PySem.F.plainAttrs_list PySem.F.slot_list_append PySem.F.type_list_append mt_append (pv 6) (pa_cons (pe_tup (pa_cons (pv 8) (pa_cons (pv 9) pa_nil))) pa_nil))) px2_5⟩
    let tx2_4 : TS := x2_4.1
    have px2_4 : PSs X9 (List.drop 4 ((fB9 (defBody sPlanBy) 2))) tx2_4 := x2_4.2
    let x2_3 : SB9 X9 ((fB9 (defBody sPlanBy) 2)) 3 := ⟨_, pss_cons (ps_for PassesOwn.never rfl (pi_range1 (by rfl) T.range (pa_cons (pe_callB call_len_seq (by rfl) T.len PySem.boot_len (pa_cons (pv 1) pa_nil)) pa_nil)) (pg_name (i := 11) scPb.nd rfl (Or.inl rfl)) px1_0) px2_4⟩
    let tx2_3 : TS := x2_3.1
    have px2_3 : PSs X9 (List.drop 3 ((fB9 (defBody sPlanBy) 2))) tx2_3 := x2_3.2
    let x2_2 : SB9 X9 ((fB9 (defBody sPlanBy) 2)) 2 := ⟨_, pss_cons (ps_set (i := 10) scPb.nd rfl (Or.inl rfl) pe_int) px2_3⟩
    let tx2_2 : TS := x2_2.1
    have px2_2 : PSs X9 (List.drop 2 ((fB9 (defBody sPlanBy) 2))) tx2_2 := x2_2.2
    let x2_1 : SB9 X9 ((fB9 (defBody sPlanBy) 2)) 1 := ⟨_, pss_cons (ps_set (i := 9) scPb.nd rfl (Or.inl rfl) (pe_lst pa_nil)) px2_2⟩
    let tx2_1 : TS := x2_1.1
    have px2_1 : PSs X9 (List.drop 1 ((fB9 (defBody sPlanBy) 2))) tx2_1 := x2_1.2
    let x2_0 : SB9 X9 ((fB9 (defBody sPlanBy) 2)) 0 := ⟨_, pss_cons (ps_set (i := 8) scPb.nd rfl (Or.inl rfl) (pe_lst pa_nil)) px2_1⟩
    let tx2_0 : TS := x2_0.1
    have px2_0 : PSs X9 (List.drop 0 ((fB9 (defBody sPlanBy) 2))) tx2_0 := x2_0.2
    let x3_3 : SB9 X9 (defBody sPlanBy) 3 := ⟨_, pss_one (ps_ret (pv 6))⟩
    let tx3_3 : TS := x3_3.1
    have px3_3 : PSs X9 (List.drop 3 (defBody sPlanBy)) tx3_3 := x3_3.2
    let x3_2 : SB9 X9 (defBody sPlanBy) 2 := ⟨_, pss_cons (ps_for PassesOwn.never rfl (pi_range1 (by rfl) T.range (pa_cons (pe_callB call_len_seq (by rfl) T.len PySem.boot_len (pa_cons (pv 3) pa_nil)) pa_nil)) (pg_name (i := 7) scPb.nd rfl (Or.inl rfl)) px2_0) px3_3⟩
    let tx3_2 : TS := x3_2.1
    have px3_2 : PSs X9 (List.drop 2 (defBody sPlanBy)) tx3_2 := x3_2.2
    let x3_1 : SB9 X9 (defBody sPlanBy) 1 := ⟨_, pss_cons (ps_set (i := 6) scPb.nd rfl (Or.inl rfl) (pe_lst pa_nil)) px3_2⟩
    let tx3_1 : TS := x3_1.1
    have px3_1 : PSs X9 (List.drop 1 (defBody sPlanBy)) tx3_1 := x3_1.2
    let x3_0 : SB9 X9 (defBody sPlanBy) 0 := ⟨_, pss_cons (ps_set (i := 5) scPb.nd rfl (Or.inl rfl) (pe_callTy call_list_of (by rfl) T.list boot_lst (pa_cons (pv 2) pa_nil))) px3_1⟩
    let tx3_0 : TS := x3_0.1
    have px3_0 : PSs X9 (List.drop 0 (defBody sPlanBy)) tx3_0 := x3_0.2
    refine ⟨tx3_0, px3_0, ?_⟩
    have el1 : ((as.map fun a => V.ref a.1).length : Int) = (ds.length : Int) := by rw [List.length_map, DR.len]
    have elr : ((iL rs).length : Int) = (rs.length : Int) := by rw [List.length_map]
    have hd8 := dok.1
    refine ⟨_, rfl, wp, _, rfl, .inl (SqL.of hwp), fun hp0 hhp => ⟨Nat.zero_le _, fun pl hpl => ?_⟩⟩
    have s1 := (same_upd (o := .lst (iL ws)) hhp).trans (same_upd (o := .lst []) hpl)
    have hpl0 : H pl = none := (same_upd (o := .lst (iL ws)) hhp).free hpl
    have hh1 := (same_upd (o := .lst []) hpl) _ _ (upd_same (H := H) (a := hp0) (o := .lst (iL ws)))
    have hpl1 : (upd (upd H hp0 (.lst (iL ws))) pl (.lst [])) pl = some (.lst []) := upd_same
    have nhp0 : hp0 ≠ pl := ne_of_none (upd_same (H := H) (a := hp0) (o := .lst (iL ws))) hpl
    generalize upd (upd H hp0 (.lst (iL ws))) pl (.lst []) = H1 at s1 hh1 hpl1 ⊢
    refine ⟨_, rfl, l, _, rfl, .inl (SqL.of (s1 _ _ DR.lst)), _, rfl, by omega, by omega, ?_⟩
    have en : ((as.map fun a => V.ref a.1).length : Int).toNat = ds.length := by omega
    rw [en]
    refine for_range (n := ds.length) (fun i σ H' => Same H H' ∧ ∃ (hp : Addr) (hd : List Int) (bs : List A3) (ps : List Day), H' hp = some (.lst (iL hd)) ∧ hp ≠ pl ∧ hd.length = rs.length ∧ NN hd ∧ hd = endP ws ps ∧ ps.length = i ∧ PHolds rs ws (ds.take i) ps ∧ DaysAt H' pl bs ps ∧ (∀ x ∈ bs, pl ≠ x.2.1 ∧ pl ≠ x.2.2) ∧
      ∃ o7 o8 o9 o10 o11 o12 o13 o14 o15, σ = [some (.ref a), some (.ref rp), some (.ref wp), some (.ref l), some (.int way), some (.ref hp), some (.ref pl), o7, o8, o9, o10, o11, o12, o13, o14, o15]) ?_ ?_ ?_
    · exact ⟨s1, hp0, ws, [], [], hh1, nhp0, hlw, n2, rfl, rfl, trivial, ⟨rfl, hpl1, by simp, fun i a d h => by simp at h, List.nodup_nil⟩, by simp, none, none, none, none, none, none, none, none, none, rfl⟩
    · rintro i σ H' hi ⟨s2, hp, hd, bs, ps, hh2, nhp, hdl, nnh, hend, hpsl, PH, DP, ap, o7, o8, o9, o10, o11, o12, o13, o14, o15, rfl⟩
      have e0 : (0 : Int) + (i : Int) = (i : Int) := by omega
      rw [e0]
      obtain ⟨td, p, q, d, ha, hv, hdd, htd, hp1, hq1⟩ := (DR.same s2).at hi
      have dk := dok.2 d (List.mem_of_getElem? hdd)
      have l1 := dk.1.1
      have l2 := dk.2.1
      have nd1 := dk.nn.1
      have nd2 := dk.nn.2
      have a1 := atI_nat hv
      -- drawn, kept
      refine ⟨Nat.zero_le _, fun dA hdA => ⟨Nat.zero_le _, fun kA hkA => ?_⟩⟩
      have ndk : dA ≠ kA := ne_of_none (upd_same (H := H') (a := dA) (o := .lst [])) hkA
      have hkA' : H' kA = none := (same_upd (o := .lst []) hdA).free hkA
      have s3 := (same_upd (o := .lst []) hdA).trans (same_upd (o := .lst []) hkA)
      have hd3 := (same_upd (o := .lst []) hkA) _ _ (upd_same (H := H') (a := dA) (o := .lst []))
      have hk3 : (upd (upd H' dA (.lst [])) kA (.lst [])) kA = some (.lst []) := upd_same
      generalize upd (upd H' dA (.lst [])) kA (.lst []) = H3 at s3 hd3 hk3 ⊢
      refine ⟨_, rfl, rp, _, rfl, .inl (SqL.of (s3 _ _ (s2 _ _ hrp))), _, rfl, by omega, by omega, ?_⟩
      have enr : ((iL rs).length : Int).toNat = rs.length := by omega
      rw [enr]
      refine for_range (n := rs.length) (fun j σ H4 => Same H' H4 ∧ ∃ (dr kp : List Int) (ov : Int), H4 dA = some (.lst (iL dr)) ∧ H4 kA = some (.lst (iL kp)) ∧ dr.length = j ∧ kp.length = j ∧ (∀ v ∈ kp, 0 ≤ v) ∧ 0 ≤ ov ∧ ov = flAt hd d.1 dr kp j ∧ UpTo rs hd d.1 d.2 dr kp j ∧
        ∃ o11 o12 o13 o14 o15, σ = [some (.ref a), some (.ref rp), some (.ref wp), some (.ref l), some (.int way), some (.ref hp), some (.ref pl), some (.int (i : Int)), some (.ref dA), some (.ref kA), some (.int ov), o11, o12, o13, o14, o15]) ?_ ?_ ?_
      · exact ⟨s3, [], [], 0, hd3, hk3, rfl, rfl, by simp, by omega, rfl, fun _ z => absurd z (Nat.not_lt_zero _), _, _, _, _, _, rfl⟩
      · rintro j σ H4 hj ⟨s4, dr, kp, ov, hd4, hk4, hdr, hkp, nkp, nov, eov, up, p11, p12, p13, p14, p15, rfl⟩
        have e1 : (0 : Int) + (j : Int) = (j : Int) := by omega
        rw [e1]
        have s24 := s2.trans s4
        have hs4 := s24.seq hs
        have b3 := atI_nat (iL_at (l := d.2) (i := j) (by omega))
        have b4 := atI_nat (iL_at (l := hd) (i := j) (by omega))
        have b5 := atI_nat (iL_at (l := d.1) (i := j) (by omega))
        have b6 := atI_nat (iL_at (l := rs) (i := j) (by omega))
        have c1 := nnh j
        have c2 := nd1 j
        have c3 := nd2 j
        have c4 := n1 j
        -- spot
        refine ⟨_, rfl, _, _, rfl, rfl, .inl ⟨by decide, by decide⟩, _, _, rfl, rfl, _, rfl, _, _, rfl, rfl, .inl ⟨by decide, by decide⟩, _, _, rfl, rfl, ?_⟩
        -- water
        refine ⟨_, rfl, _, rfl, hp, _, _, _, rfl, rfl, SqL.of (s4 _ _ hh2), b4, _, rfl, _, rfl, l, _, _, _, rfl, rfl, SqL.of (s24 _ _ DR.lst), a1, td, _, _, _, rfl, rfl, SqT.of (s4 _ _ htd), atI_nat (j := 0) rfl, _, rfl, p, _, _, _, rfl, rfl, SqL.of (s4 _ _ hp1), b5, _, _, rfl, rfl, _, rfl, _, _, rfl, rfl, ?_⟩
        -- some
        refine ⟨_, rfl, _, rfl, _, rfl, l, _, _, _, rfl, rfl, SqL.of (s24 _ _ DR.lst), a1, td, _, _, _, rfl, rfl, SqT.of (s4 _ _ htd), atI_nat (j := 1) rfl, _, rfl, q, _, _, _, rfl, rfl, SqL.of (s4 _ _ hq1), b3, _, _, rfl, ?_⟩
        rw [py_min]
        -- stays
        refine ⟨_, rfl, _, rfl, _, _, rfl, rfl, _, rfl, _, rfl, rp, _, _, _, rfl, rfl, SqL.of (s24 _ _ hrp), b6, _, _, rfl, ?_⟩
        rw [py_min]
        refine ⟨_, rfl, _, _, rfl, rfl, _, rfl, ?_⟩
        refine' ite_join2 (R := fun u v => (0 ≤ u ∧ u ≤ min (gI hd j + gI d.1 j + ov) (gI d.2 j)) ∧ (0 ≤ v ∧ v ≤ min (gI hd j + gI d.1 j + ov - u) (gI rs j))) (fun rest => ?_) (fun rest => ?_) (fun sm st hst => ?_)
        rotate_left
        · refine ⟨_, rfl, _, rfl, _, rfl, _, rfl, _, _, rfl, rfl, a, ns, _, _, rfl, hs4, hl, by omega, by omega, by omega, fun r r0 r1 => ?_⟩
          refine ⟨_, _, rfl, rfl, ⟨by decide, by decide⟩, _, _, rfl, rfl, ?_⟩
          obtain ⟨u, hu⟩ : ∃ u, min (gI hd j + gI d.1 j + ov) (gI d.2 j) - r / 2 = u := ⟨_, rfl⟩
          show gName 14 (V.int (min (gI hd j + gI d.1 j + ov) (gI d.2 j) - r / 2)) _ _ _
          rw [hu]
          refine ⟨_, rfl, _, rfl, _, _, rfl, rfl, _, rfl, _, rfl, _, _, rfl, rfl, _, rfl, _, rfl, rp, _, _, _, rfl, rfl, SqL.of (s24 _ _ hrp), b6, _, _, rfl, ?_⟩
          rw [py_min]
          refine ⟨_, _, rfl, rfl, a, ns, _, _, rfl, hs4, hl, by omega, by omega, by omega, fun r2 r20 r21 => ?_⟩
          exact rest u r2 ⟨⟨by omega, by omega⟩, by omega, by omega⟩
        · exact rest _ _ ⟨⟨by omega, by omega⟩, by omega, by omega⟩
        -- append
        refine ⟨_, rfl, .inl ⟨rfl, _, SqL.of hd4⟩, _, rfl, dA, _, _, rfl, rfl, hd4, small1000 (by rw [List.length_map]; omega), ?_⟩
        refine ⟨_, rfl, .inl ⟨rfl, _, SqL.of (by rw [upd_ne ndk.symm]; exact hk4)⟩, _, rfl, kA, _, _, rfl, rfl, (by rw [upd_ne ndk.symm]; exact hk4), small1000 (by rw [List.length_map]; omega), ?_⟩
        rw [iL_snoc, iL_snoc]
        refine ⟨_, rfl, _, rfl, _, _, rfl, rfl, _, rfl, _, _, rfl, rfl, fun b o z => ?_, dr ++ [sm], kp ++ [st], _, ?_, upd_same, ?_, ?_, ?_, ?_, ?_, up.snoc hdr hkp ⟨by omega, by omega⟩ ⟨by omega, by omega⟩ (by omega), _, _, _, _, _, rfl⟩
        · rw [upd_ne (ne_of_none z hkA'), upd_ne (ne_of_none z hdA)]
          exact s4 _ _ z
        · rw [upd_ne ndk, upd_same]
        · rw [List.length_append, hdr]
          rfl
        · rw [List.length_append, hkp]
          rfl
        · intro x hx
          rcases List.mem_append.mp hx with z | z
          · exact nkp x z
          · rw [List.mem_singleton.mp z]
            exact hst.2.1
        · omega
        · rw [fl_end hdr hkp]
          omega
      · rintro σ H4 ⟨s4, dr, kp, ov, hd4, hk4, hdr, hkp, nkp, nov, eov, up, p11, p12, p13, p14, p15, rfl⟩
        have DP4 := DP.same s4
        -- plan.append
        refine ⟨_, rfl, .inl ⟨rfl, _, SqL.of DP4.lst⟩, _, rfl, _, rfl, (by show 2 ≤ sizeLine; decide), fun t ht => ?_⟩
        have s5 := same_upd (o := .tup [.ref dA, .ref kA]) ht
        refine ⟨pl, _, _, rfl, rfl, s5 _ _ DP4.lst, small1000 (by rw [List.length_map, DP4.len]; omega), ?_⟩
        have npd : pl ≠ dA := ne_of_none DP.lst hdA
        have npk : pl ≠ kA := ne_of_none DP.lst hkA'
        have npt : pl ≠ t := ne_of_none DP4.lst ht
        have hk5 : (upd (upd H4 t (.tup [.ref dA, .ref kA])) pl (.lst ((bs.map fun a => V.ref a.1) ++ [.ref t]))) kA = some (.lst (iL kp)) := by
          rw [upd_ne npk.symm]
          exact s5 _ _ hk4
        have hd5 : (upd (upd H4 t (.tup [.ref dA, .ref kA])) pl (.lst ((bs.map fun a => V.ref a.1) ++ [.ref t]))) dA = some (.lst (iL dr)) := by
          rw [upd_ne npd.symm]
          exact s5 _ _ hd4
        have DP5 := DP.more hdA hkA' ndk (H' := upd (upd H4 t (.tup [.ref dA, .ref kA])) pl (.lst ((bs.map fun a => V.ref a.1) ++ [.ref t]))) upd_same (by rw [upd_ne npt.symm, upd_same]) hd5 hk5 (fun b o z hb => by rw [upd_ne hb]; exact s5 _ _ (s4 _ _ z)) ap
        have s25 : Same H (upd (upd H4 t (.tup [.ref dA, .ref kA])) pl (.lst ((bs.map fun a => V.ref a.1) ++ [.ref t]))) := fun b o z => by
          rw [upd_ne (ne_of_none z hpl0)]
          exact s5 _ _ (s4 _ _ (s2 _ _ z))
        generalize upd (upd H4 t (.tup [.ref dA, .ref kA])) pl (.lst ((bs.map fun a => V.ref a.1) ++ [.ref t])) = H5 at hk5 hd5 DP5 s25 ⊢
        -- held
        refine ⟨_, rfl, kA, _, rfl, .inl (SqL.of hk5), fun h2 hh2' => ?_⟩
        have s6 := same_upd (o := .lst (iL kp)) hh2'
        refine ⟨s25.trans s6, h2, kp, bs ++ [(t, dA, kA)], ps ++ [(dr, kp)], upd_same, (ne_of_none DP5.lst hh2').symm, by omega, NN.of nkp, (endP_snoc (dr, kp) ws ps).symm, by rw [List.length_append, hpsl]; rfl, ?_, DP5.same s6, fun x hx => ?_, _, _, _, _, _, _, _, _, _, rfl⟩
        · rw [take_snoc hdd]
          refine PH.snoc hdr hkp ?_
          rw [← hend]
          exact up
        · rcases List.mem_append.mp hx with z | z
          · exact ap x z
          · rw [List.mem_singleton.mp z]
            exact ⟨npd, npk⟩
    · rintro σ H' ⟨s2, hp, hd, bs, ps, hh2, nhp, hdl, nnh, hend, hpsl, PH, DP, ap, o7, o8, o9, o10, o11, o12, o13, o14, o15, rfl⟩
      rw [List.take_length] at PH
      exact ⟨_, rfl, kk pl bs ps H' DP.r PH s2⟩
end
end Z

set_option Elab.async false
set_option linter.all false
set_option maxRecDepth 100000
set_option maxHeartbeats 8000000
namespace Z
open PySem L2
theorem ite_f7 {c : Prop} [Decidable c] {A B : Prop} (h : ¬ c) (b : B) : if c then A else B := by rw [if_neg h]; exact b
section
variable {P : Program} {w : World} {K : PySem.W.Frag} {mg : Str → Option Value} {base : Heap} {C cY cB cD cL cT : Addr}
theorem scLw : FnScope ["script", "made", "lived", "yard", "many", "days", "total", "greatest", "lines", "line", "way", "plan", "above"] ["script"] (defScope sLaw) := ⟨rfl, rfl, rfl, by decide +kernel, rfl, by decide +kernel, by decide +kernel⟩
theorem ndDy : (["day"] : List Str).Nodup := by decide +kernel
theorem ndLp : (["lap", "days", "many", "script"] : List Str).Nodup := by decide +kernel
theorem ndKl : (["k", "script", "lap", "many"] : List Str).Nodup := by decide +kernel
theorem ndNu : (["number", "plan", "line"] : List Str).Nodup := by decide +kernel
theorem ok_lw {f fY fB fL fM fP fH fDb fD fW fI : Addr} {fd fdY fdB fdL fdM fdP fdH fdDb fdD fdW fdI : FuncData} (F : Fun K "law" "law" sLaw f fd) (T : Txt K mg C cY cB cD cL cT)
    (FY : Fun K "_law_yard_by" "_law_yard_by" sYardBy fY fdY) (bY : Binds K fdY ["script", "base"] []) (mY : mg "_law_yard_by" = some (.ref fY)) (GY : FnOk P w K mg base CX0 2 fY fdY ["script", "base"] (spYardBy K))
    (FB : Fun K "_law_days_by" "_law_days_by" sDaysBy fB fdB) (bB : Binds K fdB ["script", "base", "many", "bound"] []) (mB : mg "_law_days_by" = some (.ref fB)) (GB : FnOk P w K mg base CX0 2 fB fdB ["script", "base", "many", "bound"] (spDaysBy K))
    (FL : Fun K "_law_lived" "_law_lived" sLived fL fdL) (bL : Binds K fdL ["script", "rooms", "waters"] []) (mL : mg "_law_lived" = some (.ref fL)) (GL : FnOk P w K mg base CX0 6 fL fdL ["script", "rooms", "waters"] (spLived K C))
    (FM : Fun K "most" "most" sMost fM fdM) (bM : Binds K fdM ["yard", "days"] []) (mM : mg "most" = some (.ref fM)) (GM : FnOk P w K mg base (CXo P w) 7 fM fdM ["yard", "days"] (spMost C cD))
    (FP : Fun K "_law_plan_by" "_law_plan_by" sPlanBy fP fdP) (bP : Binds K fdP ["script", "rooms", "waters", "days", "way"] []) (mP : mg "_law_plan_by" = some (.ref fP)) (GP : FnOk P w K mg base CX0 2 fP fdP ["script", "rooms", "waters", "days", "way"] (spPlan7 K))
    (FH : Fun K "holds" "holds" sHolds fH fdH) (bH : Binds K fdH ["yard", "days", "plan"] []) (mH : mg "holds" = some (.ref fH)) (GH : FnOk P w K mg base (CXo P w) 5 fH fdH ["yard", "days", "plan"] (spHolds C cD))
    (FE : Fun K "drawn_by" "drawn_by" sDrawnBy fDb fdDb) (bE : Binds K fdDb ["plan"] []) (mE : mg "drawn_by" = some (.ref fDb)) (GE : FnOk P w K mg base CX0 1 fDb fdDb ["plan"] spDrawnBy)
    (FD : Fun K "_law_drawn" "_law_drawn" sDrawn fD fdD) (bD : Binds K fdD ["script", "k", "many"] []) (mD : mg "_law_drawn" = some (.ref fD)) (GD : FnOk P w K mg base CX0 1 fD fdD ["script", "k", "many"] (spDrawn K))
    (FW : Fun K "water_above" "water_above" sWater fW fdW) (bW : Binds K fdW ["yard", "days", "line"] []) (mW : mg "water_above" = some (.ref fW)) (GW : FnOk P w K mg base (CXo P w) 6 fW fdW ["yard", "days", "line"] (spAbove C cD cL vWater))
    (FI : Fun K "wishes_above" "wishes_above" sWishes fI fdI) (bI : Binds K fdI ["yard", "days", "line"] []) (mI : mg "wishes_above" = some (.ref fI)) (GI : FnOk P w K mg base (CXo P w) 6 fI fdI ["yard", "days", "line"] (spAbove C cD cL vWishes)) :
    FnOk P w K mg base CX0 8 f fd ["script"] (spLaw K) := by
  refine F.ok scLw (fun vs H Q E h => ?_) (fun cdv A outer s H vs Q E hr h => ?_)
  · obtain ⟨a, ns, rfl, _⟩ := h
    rfl
  · obtain ⟨a, ns, rfl, hs, hl, k⟩ := h
    have hr1 := hr.mono (show 1 ≤ 7 by decide)
    have hr2 := hr.mono (show 2 ≤ 7 by decide)
    have hr5 := hr.mono (show 5 ≤ 7 by decide)
    have hr6 := hr.mono (show 6 ≤ 7 by decide)
    show let X9 := _; let E9 := _; ∃ t, PSs X9 (defBody sLaw) t ∧ t E9 _ _
    intro X9 E9
    let x1_0 : SB9 X9 ((fB9 (defBody sLaw) 9)) 0 := ⟨_, pss_one (ps_if (pt_cmpR op_lt (pe_op op_sub (pe_op op_add (pe_callX GW hr6 (by rfl) mW FW.kp bW .nil passes_no (pa_cons (pv 3) (pa_cons (pv 5) (pa_cons (pv 9) pa_nil)))) (pv 6)) (pe_callX GI hr6 (by rfl) mI FI.kp bI .nil passes_no (pa_cons (pv 3) (pa_cons (pv 5) (pa_cons (pv 9) pa_nil))))) (pv 7) (nomark _)) (pss_one (ps_ret pe_bl)) pss_nil)⟩
    let tx1_0 : TS := x1_0.1
    have px1_0 : PSs X9 (List.drop 0 ((fB9 (defBody sLaw) 9))) tx1_0 := x1_0.2
    let x2_1 : SB9 X9 ((fB9 ((fB9 (defBody sLaw) 10)) 3)) 1 := ⟨_, pss_one (ps_if (pt_cmpR op_gt (pv 12) (pe_callX GW hr6 (by rfl) mW FW.kp bW .nil passes_no (pa_cons (pv 3) (pa_cons (pv 5) (pa_cons (pv 9) pa_nil)))) (nomark _)) (pss_one (ps_ret pe_bl)) pss_nil)⟩
    let tx2_1 : TS := x2_1.1
    have px2_1 : PSs X9 (List.drop 1 ((fB9 ((fB9 (defBody sLaw) 10)) 3))) tx2_1 := x2_1.2
    let x2_0 : SB9 X9 ((fB9 ((fB9 (defBody sLaw) 10)) 3)) 0 := ⟨_, pss_cons (ps_set (i := 12) scLw.nd rfl (Or.inl rfl) (pe_callB (call_sum rfl) (by rfl) T.sum boot_sum (pa_cons (pe_comp (N := ["number", "plan", "line"]) (cap := [none, some 11, some 9]) rfl (.of (by rfl)) (pi_range1 (by rfl) T.range (pa_cons (pe_callB call_len_seq (by rfl) T.len PySem.boot_len (pa_cons (pv 5) pa_nil)) pa_nil))
            (fun _ _ _ _ => pg_name (i := 0) ndNu rfl (Or.inl rfl)) (fun _ _ _ _ => pts_nil)
            (fun _ _ _ _ => pe_callB (show CallR _ (.builtin "sum") (rSum K) from call_sum rfl) (by rfl) T.sum boot_sum (pa_cons (pe_slice (show SlR _ (rSlL K) from sl_list) (pe_ix (show IxR _ (rIxT K) from ix_tup) (pe_ix (show IxR _ (rIxL K) from ix_list) (pv 1) (pv 0) (fun _ _ => rfl)) pe_int (fun _ _ => rfl)) po_none (po_some (pe_ix (show IxR _ (rIxL K) from ix_list) (pv 2) (pv 0) (fun _ _ => rfl)))) pa_nil))) pa_nil))) px2_1⟩
    let tx2_0 : TS := x2_0.1
    have px2_0 : PSs X9 (List.drop 0 ((fB9 ((fB9 (defBody sLaw) 10)) 3))) tx2_0 := x2_0.2
    let x3_3 : SB9 X9 ((fB9 (defBody sLaw) 10)) 3 := ⟨_, pss_one (ps_for PassesOwn.never rfl (pi_list (pv 8)) (pg_name (i := 9) scLw.nd rfl (Or.inr rfl)) px2_0)⟩
    let tx3_3 : TS := x3_3.1
    have px3_3 : PSs X9 (List.drop 3 ((fB9 (defBody sLaw) 10))) tx3_3 := x3_3.2
    let x3_2 : SB9 X9 ((fB9 (defBody sLaw) 10)) 2 := ⟨_, pss_cons (ps_if (pt_cmpR op_ne (pe_call GE hr1 (by rfl) mE FE.kp bE .nil pass0 (pa_cons (pv 11) pa_nil)) (pe_callB (call_sum rfl) (by rfl) T.sum boot_sum (pa_cons (pe_comp (N := ["day"]) (cap := [none]) rfl (.of (by rfl)) (pi_list (pv 11)) (fun _ _ _ _ => pg_name (i := 0) ndDy rfl (Or.inl rfl)) (fun _ _ _ _ => pts_nil)
          (fun _ _ _ _ => pe_callB (show CallR _ (.builtin "sum") (rSum K) from call_sum rfl) (by rfl) T.sum boot_sum (pa_cons (pe_ix (show IxR _ (rIxT K) from ix_tup) (pv 0) pe_int (fun _ _ => rfl)) pa_nil))) pa_nil)) (nomark _)) (pss_one (ps_ret pe_bl)) pss_nil) px3_3⟩
    let tx3_2 : TS := x3_2.1
    have px3_2 : PSs X9 (List.drop 2 ((fB9 (defBody sLaw) 10))) tx3_2 := x3_2.2
    let x3_1 : SB9 X9 ((fB9 (defBody sLaw) 10)) 1 := ⟨_, pss_cons (ps_if (pw_or (pt_cmpR op_isnotB (pe_callX GH hr5 (by rfl) mH FH.kp bH .nil passes_no (pa_cons (pv 3) (pa_cons (pv 5) (pa_cons (pv 11) pa_nil)))) pe_bl (nomark _))
          (pw_or1 (pt_cmpR op_gt (pe_call GE hr1 (by rfl) mE FE.kp bE .nil pass0 (pa_cons (pv 11) pa_nil)) (pv 7) (nomark _)))).pt (pss_one (ps_ret pe_bl)) pss_nil) px3_2⟩
    let tx3_1 : TS := x3_1.1
    have px3_1 : PSs X9 (List.drop 1 ((fB9 (defBody sLaw) 10))) tx3_1 := x3_1.2
    let x3_0 : SB9 X9 ((fB9 (defBody sLaw) 10)) 0 := ⟨_, pss_cons (ps_set (i := 11) scLw.nd rfl (Or.inr rfl) (pe_call GP hr2 (by rfl) mP FP.kp bP .nil pass0 (pa_cons (pv 0) (pa_cons (pe_ix ix_tup (pv 1) pe_int (fun _ _ => rfl)) (pa_cons (pe_ix ix_tup (pv 1) pe_int (fun _ _ => rfl)) (pa_cons (pv 5) (pa_cons (pv 10) pa_nil))))))) px3_1⟩
    let tx3_0 : TS := x3_0.1
    have px3_0 : PSs X9 (List.drop 0 ((fB9 (defBody sLaw) 10))) tx3_0 := x3_0.2
    let x4_11 : SB9 X9 (defBody sLaw) 11 := ⟨_, pss_one (ps_ret pe_bl)⟩
    let tx4_11 : TS := x4_11.1
    have px4_11 : PSs X9 (List.drop 11 (defBody sLaw)) tx4_11 := x4_11.2
    let x4_10 : SB9 X9 (defBody sLaw) 10 := ⟨_, pss_cons (ps_for PassesOwn.never rfl (pi_range1 (by rfl) T.range (pa_cons pe_int pa_nil)) (pg_name (i := 10) scLw.nd rfl (Or.inl rfl)) px3_0) px4_11⟩
    let tx4_10 : TS := x4_10.1
    have px4_10 : PSs X9 (List.drop 10 (defBody sLaw)) tx4_10 := x4_10.2
    let x4_9 : SB9 X9 (defBody sLaw) 9 := ⟨_, pss_cons (ps_for PassesOwn.never rfl (pi_list (pv 8)) (pg_name (i := 9) scLw.nd rfl (Or.inr rfl)) px1_0) px4_10⟩
    let tx4_9 : TS := x4_9.1
    have px4_9 : PSs X9 (List.drop 9 (defBody sLaw)) tx4_9 := x4_9.2
    let x4_8 : SB9 X9 (defBody sLaw) 8 := ⟨_, pss_cons (ps_setCC (i := 8) scLw.nd rfl (Or.inl rfl) (N := ["lap", "days", "many", "script"]) (cap := [none, some 5, some 4, some 0]) rfl (.of (by rfl)) (pi_range1 (by rfl) T.range (pa_cons pe_int pa_nil))
          (fun _ _ _ _ => pg_name (i := 0) ndLp rfl (Or.inr rfl)) (fun _ _ _ _ => pts_nil)
          (fun _ _ _ _ => pe_comp (N := ["k", "script", "lap", "many"]) (cap := [none, some 3, some 0, some 2]) rfl (.of (by rfl)) (pi_range1 (by rfl) T.range (pa_cons (pe_callB (show CallR _ (.builtin "len") (rLen K) from call_len_seq) (by rfl) T.len PySem.boot_len (pa_cons (pv 1) pa_nil)) pa_nil))
            (fun _ _ _ _ => pg_name (i := 0) ndKl rfl (Or.inl rfl)) (fun _ _ _ _ => pts_nil)
            (fun _ _ _ _ => pe_call GD hr1 (by rfl) mD FD.kp bD .nil pass0 (pa_cons (pv 1) (pa_cons (pe_op op_add (pe_op op_add pe_int (pe_op op_mul pe_int (pv 2))) (pv 0)) (pa_cons (pe_op op_add (pv 3) pe_int) pa_nil)))))) px4_9⟩
    let tx4_8 : TS := x4_8.1
    have px4_8 : PSs X9 (List.drop 8 (defBody sLaw)) tx4_8 := x4_8.2
    let x4_7 : SB9 X9 (defBody sLaw) 7 := ⟨_, pss_cons (ps_set (i := 7) scLw.nd rfl (Or.inl rfl) (pe_ix ix_tup (pe_callX GM hr (by rfl) mM FM.kp bM .nil passes_no (pa_cons (pv 3) (pa_cons (pv 5) pa_nil))) pe_int (fun _ _ => rfl))) px4_8⟩
    let tx4_7 : TS := x4_7.1
    have px4_7 : PSs X9 (List.drop 7 (defBody sLaw)) tx4_7 := x4_7.2
    let x4_6 : SB9 X9 (defBody sLaw) 6 := ⟨_, pss_cons (ps_set (i := 6) scLw.nd rfl (Or.inl rfl) (pe_callB (call_sum rfl) (by rfl) T.sum boot_sum (pa_cons (pe_comp (N := ["day"]) (cap := [none]) rfl (.of (by rfl)) (pi_list (pv 5)) (fun _ _ _ _ => pg_name (i := 0) ndDy rfl (Or.inl rfl)) (fun _ _ _ _ => pts_nil)
        (fun _ _ _ _ => pe_callB (show CallR _ (.builtin "sum") (rSum K) from call_sum rfl) (by rfl) T.sum boot_sum (pa_cons (pe_ix (show IxR _ (rIxT K) from ix_tup) (pv 0) pe_int (fun _ _ => rfl)) pa_nil))) pa_nil))) px4_7⟩
    let tx4_6 : TS := x4_6.1
    have px4_6 : PSs X9 (List.drop 6 (defBody sLaw)) tx4_6 := x4_6.2
    let x4_5 : SB9 X9 (defBody sLaw) 5 := ⟨_, pss_cons (ps_set (i := 5) scLw.nd rfl (Or.inr rfl) (pe_call GB hr2 (by rfl) mB FB.kp bB .nil pass0 (pa_cons (pv 0) (pa_cons pe_int (pa_cons (pv 4) (pa_cons pe_int pa_nil)))))) px4_6⟩
    let tx4_5 : TS := x4_5.1
    have px4_5 : PSs X9 (List.drop 5 (defBody sLaw)) tx4_5 := x4_5.2
    let x4_4 : SB9 X9 (defBody sLaw) 4 := ⟨_, pss_cons (ps_set (i := 4) scLw.nd rfl (Or.inr rfl) (pe_callB call_len_seq (by rfl) T.len PySem.boot_len (pa_cons (pe_ix ix_tup (pv 1) pe_int (fun _ _ => rfl)) pa_nil))) px4_5⟩
    let tx4_4 : TS := x4_4.1
    have px4_4 : PSs X9 (List.drop 4 (defBody sLaw)) tx4_4 := x4_4.2
    let x4_3 : SB9 X9 (defBody sLaw) 3 := ⟨_, pss_cons (ps_set (i := 3) scLw.nd rfl (Or.inl rfl) (pe_ix ix_tup (pv 2) pe_int (fun _ _ => rfl))) px4_4⟩
    let tx4_3 : TS := x4_3.1
    have px4_3 : PSs X9 (List.drop 3 (defBody sLaw)) tx4_3 := x4_3.2
    let x4_2 : SB9 X9 (defBody sLaw) 2 := ⟨_, pss_cons (ps_set (i := 1) scLw.nd rfl (Or.inl rfl) (pe_tup (pa_cons (pe_ix ix_tup (pv 1) pe_int (fun _ _ => rfl)) (pa_cons (pe_ix ix_tup (pv 2) pe_int (fun _ _ => rfl)) pa_nil)))) px4_3⟩
    let tx4_2 : TS := x4_2.1
    have px4_2 : PSs X9 (List.drop 2 (defBody sLaw)) tx4_2 := x4_2.2
    let x4_1 : SB9 X9 (defBody sLaw) 1 := ⟨_, pss_cons (ps_set (i := 2) scLw.nd rfl (Or.inl rfl) (pe_call GL hr6 (by rfl) mL FL.kp bL .nil pass0 (pa_cons (pv 0) (pa_cons (pe_ix ix_tup (pv 1) pe_int (fun _ _ => rfl)) (pa_cons (pe_ix ix_tup (pv 1) pe_int (fun _ _ => rfl)) pa_nil))))) px4_2⟩
    let tx4_1 : TS := x4_1.1
    have px4_1 : PSs X9 (List.drop 1 (defBody sLaw)) tx4_1 := x4_1.2
    let x4_0 : SB9 X9 (defBody sLaw) 0 := ⟨_, pss_cons (ps_set (i := 1) scLw.nd rfl (Or.inl rfl) (pe_call GY hr2 (by rfl) mY FY.kp bY .nil pass0 (pa_cons (pv 0) (pa_cons pe_int pa_nil)))) px4_1⟩
    let tx4_0 : TS := x4_0.1
    have px4_0 : PSs X9 (List.drop 0 (defBody sLaw)) tx4_0 := x4_0.2
    refine ⟨tx4_0, px4_0, ?_⟩
    -- made
    refine ⟨_, rfl, a, ns, 0, rfl, hs, hl, by decide, by decide, fun m r u rs ws H1 fm fr fu nru hm hr0 hu0 g0 s1 => ?_⟩
    -- lived
    refine ⟨_, rfl, _, rfl, m, _, _, _, rfl, rfl, SqT.of hm, atI_nat (j := 0) rfl, _, rfl, m, _, _, _, rfl, rfl, SqT.of hm, atI_nat (j := 1) rfl, a, r, u, ns, rs, ws, rfl, s1.seq hs, hl, hr0, hu0, g0, fun t y sz lv hp held H2 ft ht Y hh g s2 => ?_⟩
    -- made
    refine ⟨_, rfl, m, _, _, _, rfl, rfl, SqT.of (s2 _ _ hm), atI_nat (j := 0) rfl, _, rfl, t, _, _, _, rfl, rfl, SqT.of ht, atI_nat (j := 1) rfl, (by show 2 ≤ sizeLine; decide), fun m2 hm2 => ?_⟩
    have s3 := same_upd (o := .tup [.ref r, .ref hp]) hm2
    have hm2' : (upd H2 m2 (.tup [.ref r, .ref hp])) m2 = some (.tup [.ref r, .ref hp]) := upd_same
    have ht3 := s3 _ _ ht
    have Y3 := Y.same s3
    have hr3 := s3 _ _ (s2 _ _ hr0)
    have hh3 := s3 _ _ hh
    have s13 := s1.trans (s2.trans s3)
    generalize upd H2 m2 (.tup [.ref r, .ref hp]) = H3 at s3 hm2' ht3 Y3 hr3 hh3 s13 ⊢
    -- yard, many
    have hn4 := g.n4
    have hn1 := g.n1
    have elr : ((iL rs).length : Int) = (rs.length : Int) := by rw [List.length_map]
    refine ⟨_, rfl, t, _, _, _, rfl, rfl, SqT.of ht3, atI_nat (j := 0) rfl, ?_⟩
    refine ⟨_, rfl, m2, _, _, _, rfl, rfl, SqT.of hm2', atI_nat (j := 0) rfl, r, _, rfl, .inl (SqL.of hr3), ?_⟩
    rw [elr]
    -- days
    refine ⟨_, rfl, _, rfl, a, ns, 20, rs.length, 8, rfl, s13.seq hs, hl, by decide, by decide, hn4, by decide, fun l as ds H4 fl0 fas ln DA hdl dok s4 => ?_⟩
    have dok' : DaysOk rs.length ds := ⟨hdl, dok⟩
    have hrow : ∀ d ∈ ds, d.1.length ≤ 100 ∧ d.2.length ≤ 100 := fun d hd => by
      have h1 := (dok d hd).1.1
      have h2 := (dok d hd).2.1
      omega
    have hdn : ∀ d ∈ ds, d.2.length = rs.length := fun d hd => (dok d hd).2.1
    have s14 := s13.trans s4
    have DR := DA.r
    have Y4 := Y3.same s4
    -- total
    refine ⟨_, rfl, l, rfl, ⟨_, SqL.of DR.lst⟩, fun D hD => ?_⟩
    refine comp_by ds.length (sz100 (by omega)) (fun i ys τ H' => i ≤ ds.length ∧ ys = iL ((ds.take i).map fun d => d.2.sum) ∧ H' = upd H4 D (.lst ys) ∧ ∃ o, τ = [o]) ?_ ?_ ?_ ?_
    · exact ⟨Nat.zero_le _, rfl, rfl, none, rfl⟩
    · rintro i ys τ H' ⟨hi, rfl, rfl, _⟩
      exact ⟨upd_same, by rw [List.length_map, List.length_map, List.length_take]; exact Nat.min_le_left _ _⟩
    · rintro i ys τ H' hi ⟨_, rfl, rfl, o, rfl⟩
      have s6 := same_new (o := .lst (iL ((ds.take i).map fun d => d.2.sum))) hD
      obtain ⟨t', p, q', d, ha, hv, hd, ht', hp', hq'⟩ := DR.at hi
      have hl6 := s6 _ _ DR.lst
      refine ⟨⟨_, _, SqL.of hl6, hv⟩, ?_⟩
      rintro x H3 ⟨rfl, hx⟩
      have ex := Option.some.inj ((hx _ (SqL.of hl6)).symm.trans hv)
      subst ex
      refine name_yes_if ?_
      refine ⟨_, rfl, t', _, _, _, rfl, rfl, SqT.of (s6 _ _ ht'), atI_nat (j := 1) rfl, q', d.2, rfl, SqL.of (s6 _ _ hq'), upd_same, hi, ?_, ?_, _, rfl⟩
      · rw [take_snoc hd, List.map_append, iL_snoc]
        rfl
      · rw [upd_upd]
    rintro ys τ H' ⟨_, rfl, rfl, o, rfl⟩
    rw [List.take_length]
    have s5 := same_new (o := .lst (iL (ds.map fun d => d.2.sum))) hD
    have s15 := s14.trans s5
    refine ⟨⟨_, SqL.of (s5 _ _ DR.lst), by rw [List.length_map, DR.len]; exact Nat.le_refl _⟩, D, _, rfl, SqL.of upd_same, ?_⟩
    have DR5 := DR.same s5
    have Y5 := Y4.same s5
    have hm5 := s5 _ _ (s4 _ _ hm2')
    have hr5' := s5 _ _ (s4 _ _ hr3)
    have hh5 := s5 _ _ (s4 _ _ hh3)
    clear hD
    generalize upd H4 D (.lst (iL (ds.map fun d => d.2.sum))) = H5 at s5 s15 DR5 Y5 hm5 hr5' hh5 ⊢
    -- greatest
    refine ⟨_, rfl, _, rfl, y, sz, lv, l, rs, held, as, ds, rfl, Y5, g.eq, hn4, DR5, by omega, hrow, fun _ t7 q li H7 fq7 hq7 ht7 hti s7 => ⟨t7, _, _, _, rfl, rfl, SqT.of ht7, atI_nat (j := 0) rfl, ?_⟩, fun z => absurd dok' z⟩
    have s17 := s15.trans s7
    have DR7 := DR5.same s7
    have Y7 := Y5.same s7
    have hm7 := s7 _ _ hm5
    have hr7 := s7 _ _ hr5'
    have hh7 := s7 _ _ hh5
    have hs7 := s17.seq hs
    have eld : ((as.map fun a => V.ref a.1).length : Int) = (ds.length : Int) := by rw [List.length_map, DR.len]
    have en : ((as.map fun a => V.ref a.1).length : Int).toNat = ds.length := by omega
    -- lines
    refine ⟨_, rfl, by decide, by decide, fun D hD => ?_⟩
    refine comp_by 3 (sz100 (by decide)) (fun j ys τ H9 => Same H7 H9 ∧ H9 D = some (.lst ys) ∧ (∃ qs : List (Addr × List Int), ys = qs.map (fun x => V.ref x.1) ∧ qs.length = j ∧ ∀ x ∈ qs, H9 x.1 = some (.lst (iL x.2)) ∧ x.1 ≠ D ∧ LineOk rs.length ds.length x.2) ∧ ∃ o, τ = [o, some (.ref l), some (.int (rs.length : Int)), some (.ref a)]) ?_ ?_ ?_ ?_
    · exact ⟨same_new hD, upd_same, ⟨[], rfl, rfl, by simp⟩, none, rfl⟩
    · rintro j ys τ H9 ⟨_, hD9, ⟨qs, rfl, hql, _⟩, _⟩
      exact ⟨hD9, by rw [List.length_map, hql]; exact Nat.le_refl _⟩
    · rintro j ys τ H9 hj ⟨s9, hD9, ⟨qs, rfl, hql, hqs⟩, o, rfl⟩
      refine ⟨hj, ?_⟩
      rintro x HY ⟨rfl, rfl⟩
      refine name_yes_if ?_
      have hs9 := s9.seq hs7
      refine ⟨_, rfl, l, _, rfl, .inl (SqL.of (s9 _ _ DR7.lst)), _, rfl, by omega, by omega, fun p hp' => ?_⟩
      rw [en]
      refine comp_by ds.length (sz100 (by omega)) (fun i ys τ HB => i ≤ ds.length ∧ (∃ ra : List Int, ys = iL ra ∧ ra.length = i ∧ ∀ v ∈ ra, 0 ≤ v ∧ v ≤ (rs.length : Int)) ∧ HB = upd HY p (.lst ys) ∧ ∃ o, τ = [o, some (.ref a), some (.int (0 + (j : Int))), some (.int (rs.length : Int))]) ?_ ?_ ?_ ?_
      · exact ⟨Nat.zero_le _, ⟨[], rfl, rfl, by simp⟩, rfl, none, rfl⟩
      · rintro i ys τ HB ⟨hi, ⟨ra, rfl, hrl, _⟩, rfl, _⟩
        exact ⟨upd_same, by rw [List.length_map, hrl]; exact Nat.le_refl _⟩
      · rintro i ys τ HB hi ⟨_, ⟨ra, rfl, hrl, hnn⟩, rfl, o, rfl⟩
        refine ⟨hi, ?_⟩
        rintro x HX ⟨rfl, rfl⟩
        refine name_yes_if ?_
        have sp := same_upd (o := .lst (iL ra)) hp'
        refine ⟨_, rfl, _, rfl, _, _, rfl, rfl, .inl ⟨by decide, by decide⟩, _, _, rfl, rfl, _, rfl, _, _, rfl, rfl, _, rfl, _, _, rfl, rfl, a, ns, _, _, rfl, sp.seq hs9, hl, by omega, by omega, by omega, fun v v0 v1 => ⟨upd_same, hi, ⟨ra ++ [v], iL_snoc ra v, ?_, ?_⟩, ?_, _, rfl⟩⟩
        · rw [List.length_append, hrl]
          rfl
        · intro v' hv'
          rcases List.mem_append.mp hv' with z | z
          · exact hnn v' z
          · rw [List.mem_singleton.mp z]
            omega
        · rw [upd_upd]
      rintro ys τ HB ⟨_, ⟨ra, rfl, hrl, hra⟩, rfl, o, rfl⟩
      refine ⟨Nat.le_refl _, ?_⟩
      have npD : p ≠ D := (ne_of_none hD9 hp').symm
      have sp := same_upd (o := .lst (iL ra)) hp'
      refine ⟨sp _ _ hD9, fun b o z => ?_, upd_same, ⟨qs ++ [(p, ra)], ?_, ?_, fun x hx => ?_⟩, _, rfl⟩
      · rw [upd_ne (ne_of_none z hD)]
        exact sp _ _ (s9 _ _ z)
      · rw [List.map_append]
        rfl
      · rw [List.length_append, hql]
        rfl
      · rcases List.mem_append.mp hx with z | z
        · have := hqs x z
          exact ⟨by rw [upd_ne this.2.1]; exact sp _ _ this.1, this.2⟩
        · rw [List.mem_singleton.mp z]
          exact ⟨by rw [upd_ne npD]; exact upd_same, npD, hra, hrl⟩
    rintro ys τ H8 ⟨s8, hD8, ⟨qs, rfl, hql, hqs⟩, o, rfl⟩
    refine ⟨Nat.le_refl _, ?_⟩
    have DR8 := DR7.same s8
    have Y8 := Y7.same s8
    have hm8 := s8 _ _ hm7
    have hr8 := s8 _ _ hr7
    have hh8 := s8 _ _ hh7
    have hs8 := s8.seq hs7
    clear hD
    -- the lines bound the most
    refine ⟨_, rfl, D, rfl, ⟨_, SqL.of hD8⟩, ?_⟩
    refine for_list (xs := qs.map fun x => V.ref x.1) (fun i σ H' => Same H8 H' ∧ ∃ o9 o10 o11 o12, σ = [some (.ref a), some (.ref m2), some (.ref t), some (.ref y), some (.int (rs.length : Int)), some (.ref l), some (.int (ds.map fun d => d.2.sum).sum), some (.int (cost rs held ds li + wished ds)), some (.ref D), o9, o10, o11, o12]) ?_ ?_ ?_ ?_
    · exact ⟨same_refl, none, none, none, none, rfl⟩
    · rintro i σ H' _ ⟨s9, _⟩
      exact SqL.of (s9 _ _ hD8)
    · rintro i x σ H' hx ⟨s9, o9, o10, o11, o12, rfl⟩
      obtain ⟨ln, hln, rfl⟩ := List.mem_map.mp (List.mem_of_getElem? hx)
      obtain ⟨hq8, _, lok⟩ := hqs ln hln
      have hll := lok.2
      refine ⟨_, rfl, _, rfl, _, rfl, y, sz, lv, l, ln.1, rs, held, as, ds, ln.2, rfl, Y8.same s9, g.eq, by omega, DR8.same s9, by omega, hrow, s9 _ _ hq8, by omega, fun _ _ HA sA => ?_, fun z => absurd dok' z, fun _ z => absurd lok z⟩
      have s9A := s9.trans sA
      refine ⟨_, rfl, _, _, rfl, rfl, _, rfl, _, rfl, _, rfl, y, sz, lv, l, ln.1, rs, held, as, ds, ln.2, rfl, Y8.same s9A, g.eq, by omega, DR8.same s9A, by omega, hrow, s9A _ _ hq8, by omega, fun _ _ HB sB => ?_, fun z => absurd dok' z, fun _ z => absurd lok z⟩
      refine ⟨_, _, rfl, rfl, _, rfl, _, _, rfl, rfl, _, rfl, ?_⟩
      refine ite_f7 (fun z => ?_) ?_
      · have z : watAb rs 0 held ds ln.2 + wished ds - wisAb ds ln.2 < cost rs held ds li + wished ds := of_decide_eq_true z
        have := hti.2 ln.2 lok
        have e : cost rs held ds ln.2 = watAb rs 0 held ds ln.2 - wisAb ds ln.2 := rfl
        omega
      exact ⟨s9A.trans sB, _, _, _, _, rfl⟩
    rintro σ H' ⟨s9, o9, o10, o11, o12, rfl⟩
    -- the plans
    refine ⟨_, rfl, by decide, by decide, ?_⟩
    refine for_range (n := 2) (fun i σ H' => Same H8 H' ∧ ∃ o9 o10 o11 o12, σ = [some (.ref a), some (.ref m2), some (.ref t), some (.ref y), some (.int (rs.length : Int)), some (.ref l), some (.int (ds.map fun d => d.2.sum).sum), some (.int (cost rs held ds li + wished ds)), some (.ref D), o9, o10, o11, o12]) ?_ ?_ ?_
    · exact ⟨s9, _, _, _, _, rfl⟩
    · clear s9 o9 o10 o11 o12
      rintro i σ HG hi ⟨s9, o9, o10, o11, o12, rfl⟩
      have hm9 := s9 _ _ hm8
      refine ⟨_, rfl, _, rfl, m2, _, _, _, rfl, rfl, SqT.of hm9, atI_nat (j := 0) rfl, _, rfl, m2, _, _, _, rfl, rfl, SqT.of hm9, atI_nat (j := 1) rfl, _, rfl, _, rfl, a, r, hp, l, ns, rs, held, as, ds, _, rfl, s9.seq hs8, hl, s9 _ _ hr8, s9 _ _ hh8, DR8.same s9, g.nn.1, g.nn.2, g.eq, hn4, dok', fun pl bs ps HA DP PH sA => ?_⟩
      have s9A := s9.trans sA
      have hpl := PH.len
      have pm := plan_most PH hti.1 g.nn.2 hdn
      -- holds
      refine ⟨_, rfl, _, rfl, _, rfl, y, sz, lv, l, pl, rs, held, as, bs, ds, ps, rfl, Y8.same s9A, DR8.same s9A, DP, g.eq, by omega, by omega, hrow, fun _ b hb HB sB => ?_, fun z => absurd dok' z⟩
      have eb := hb.mpr PH
      subst eb
      refine ⟨true, true, rfl, rfl, _, rfl, ite_f7 (by decide) ?_⟩
      have DPB := DP.same sB
      refine ⟨_, rfl, pl, bs, ps, rfl, DPB, by omega, fun HC sC => ⟨_, rfl, _, _, rfl, rfl, _, rfl, ?_⟩⟩
      refine ite_f7 (fun z => Int.not_lt.mpr pm (of_decide_eq_true z)) ?_
      have DPC := DPB.same sC
      -- drawn_by
      refine ⟨_, rfl, pl, bs, ps, rfl, DPC, by omega, fun HD sD => ?_⟩
      have DPD := DPC.same sD
      have s9D := s9A.trans (sB.trans (sC.trans sD))
      refine ⟨_, rfl, pl, rfl, ⟨_, SqL.of DPD.lst⟩, fun D2 hD2 => ?_⟩
      refine comp_by ps.length (sz100 (by omega)) (fun i ys τ H' => i ≤ ps.length ∧ ys = iL ((ps.take i).map fun p => p.1.sum) ∧ H' = upd HD D2 (.lst ys) ∧ ∃ o, τ = [o]) ?_ ?_ ?_ ?_
      · exact ⟨Nat.zero_le _, rfl, rfl, none, rfl⟩
      · rintro i ys τ H' ⟨hi, rfl, rfl, _⟩
        exact ⟨upd_same, by rw [List.length_map, List.length_map, List.length_take]; exact Nat.min_le_left _ _⟩
      · rintro i ys τ H' hi ⟨_, rfl, rfl, o, rfl⟩
        have s6 := same_new (o := .lst (iL ((ps.take i).map fun p => p.1.sum))) hD2
        obtain ⟨t', p, q', d, ha, hv, hd, ht', hp', hq'⟩ := DPD.at hi
        have hl6 := s6 _ _ DPD.lst
        refine ⟨⟨_, _, SqL.of hl6, hv⟩, ?_⟩
        rintro x HX ⟨rfl, hx⟩
        have ex := Option.some.inj ((hx _ (SqL.of hl6)).symm.trans hv)
        subst ex
        refine name_yes_if ?_
        refine ⟨_, rfl, t', _, _, _, rfl, rfl, SqT.of (s6 _ _ ht'), atI_nat (j := 0) rfl, p, d.1, rfl, SqL.of (s6 _ _ hp'), upd_same, hi, ?_, ?_, _, rfl⟩
        · rw [take_snoc hd, List.map_append, iL_snoc]
          rfl
        · rw [upd_upd]
      rintro ys τ H' ⟨_, rfl, rfl, o, rfl⟩
      rw [List.take_length]
      have sE := same_new (o := .lst (iL (ps.map fun p => p.1.sum))) hD2
      refine ⟨⟨_, SqL.of (sE _ _ DPD.lst), by rw [List.length_map, DPD.len]; exact Nat.le_refl _⟩, D2, _, rfl, SqL.of upd_same, rfl, _, rfl, iteNS rfl ?_⟩
      have DPE := DPD.same sE
      have s9E := s9D.trans sE
      clear hD2
      generalize upd HD D2 (.lst (iL (ps.map fun p => p.1.sum))) = HE at sE DPE s9E ⊢
      -- each line
      have hDE := s9E _ _ hD8
      refine ⟨_, rfl, D, rfl, ⟨_, SqL.of hDE⟩, ?_⟩
      refine for_list (xs := qs.map fun x => V.ref x.1) (fun i σ H' => Same HE H' ∧ ∃ o9 o10 o12, σ = [some (.ref a), some (.ref m2), some (.ref t), some (.ref y), some (.int (rs.length : Int)), some (.ref l), some (.int (ds.map fun d => d.2.sum).sum), some (.int (cost rs held ds li + wished ds)), some (.ref D), o9, o10, some (.ref pl), o12]) ?_ ?_ ?_ ?_
      · exact ⟨same_refl, _, _, _, rfl⟩
      · rintro i σ H' _ ⟨sF, _⟩
        exact SqL.of (sF _ _ hDE)
      · rintro i x σ HF hx ⟨sF, o9, o10, o12, rfl⟩
        obtain ⟨ln, hln, rfl⟩ := List.mem_map.mp (List.mem_of_getElem? hx)
        obtain ⟨hq8, _, lok⟩ := hqs ln hln
        have hll := lok.2
        have s9F := s9E.trans sF
        have DPF := DPE.same sF
        have DRF := DR8.same s9F
        have hqF := s9F _ _ hq8
        -- above
        refine ⟨_, rfl, l, _, rfl, .inl (SqL.of DRF.lst), _, rfl, by omega, by omega, fun D3 hD3 => ?_⟩
        rw [en]
        refine comp_by ds.length (sz100 (by omega)) (fun j ys τ H4 => j ≤ ds.length ∧ ys = iL ((List.range j).map fun i => (((ps.map Prod.fst).getD i []).take (gI ln.2 i).toNat).sum) ∧ Same HF H4 ∧ H4 D3 = some (.lst ys) ∧ ∃ o, τ = [o, some (.ref pl), some (.ref ln.1)]) ?_ ?_ ?_ ?_
        · exact ⟨Nat.zero_le _, rfl, same_new hD3, upd_same, none, rfl⟩
        · rintro j ys τ H4 ⟨hj, rfl, _, h3, _⟩
          exact ⟨h3, by rw [List.length_map, List.length_map, List.length_range]; exact Nat.le_refl _⟩
        · rintro j ys τ H4 hj ⟨_, rfl, sG, hG, o, rfl⟩
          refine ⟨hj, ?_⟩
          rintro x HX ⟨rfl, rfl⟩
          refine name_yes_if ?_
          have e0 : (0 : Int) + (j : Int) = (j : Int) := by omega
          rw [e0]
          obtain ⟨tp, p, q', d, ha, hv, hd, htp, hp', hq'⟩ := (DPF.same sG).at (i := j) (by omega)
          have hli : j < ln.2.length := by omega
          have hab : 0 ≤ gI ln.2 j := by
            rw [gI_at (List.getElem?_eq_getElem hli)]
            exact (lok.1 _ (List.getElem_mem hli)).1
          refine ⟨_, rfl, _, rfl, pl, _, _, _, rfl, rfl, SqL.of (sG _ _ DPF.lst), atI_nat hv, tp, _, _, _, rfl, rfl, SqT.of htp, atI_nat (j := 0) rfl, _, rfl, _, rfl, ln.1, _, _, _, rfl, rfl, SqL.of (sG _ _ hqF), atI_nat (iL_at hli), _, rfl, p, _, rfl, SqL.of hp', fun p1 hp1 => ?_⟩
          rw [cut_take hab]
          have sp := same_upd (o := .lst (iL (d.1.take (gI ln.2 j).toNat))) hp1
          refine ⟨p1, _, rfl, SqL.of upd_same, sp _ _ hG, hj, ?_, fun b o z => ?_, upd_same, _, rfl⟩
          · rw [List.range_succ, List.map_append, iL_snoc]
            have ed : (ps.map Prod.fst).getD j [] = d.1 := by
              rw [List.getD_eq_getElem?_getD, List.getElem?_map, hd]
              rfl
            show _ = iL (_ ++ [(((ps.map Prod.fst).getD j []).take (gI ln.2 j).toNat).sum])
            rw [ed]
          · rw [upd_ne (ne_of_none z hD3)]
            exact sp _ _ (sG _ _ z)
        rintro ys τ HM ⟨_, rfl, sG, hG, o, rfl⟩
        refine ⟨Nat.le_refl _, D3, _, rfl, SqL.of hG, ?_⟩
        have s9G := s9F.trans sG
        -- the test
        refine ⟨_, rfl, _, rfl, _, rfl, _, rfl, y, sz, lv, l, ln.1, rs, held, as, ds, ln.2, rfl, Y8.same s9G, g.eq, by omega, DR8.same s9G, by omega, hrow, s9G _ _ hq8, by omega, fun _ _ HN sN => ?_, fun z => absurd dok' z, fun _ z => absurd lok z⟩
        refine ⟨_, _, rfl, rfl, _, rfl, ?_⟩
        refine ite_f7 (fun z => ?_) ?_
        · have z := of_decide_eq_true z
          have pa := plan_above PH lok g.nn.2
          rw [drAb_sum ps ln.2 (by omega) fun p hp v hv => ?_, hpl] at pa
          · exact Int.not_lt.mpr pa z
          · have := lok.1 v hv
            have := PH.rows p hp
            omega
        exact ⟨sF.trans (sG.trans sN), _, _, _, rfl⟩
      · rintro σ HF ⟨sF, o9, o10, o12, rfl⟩
        exact ⟨s9E.trans sF, _, _, _, _, rfl⟩
    · rintro σ H' ⟨s9, o9, o10, o11, o12, rfl⟩
      exact k H'
end
end Z

set_option Elab.async false
set_option linter.all false
set_option maxRecDepth 100000
set_option maxHeartbeats 8000000
namespace Z
open PySem L2
theorem all_mk {l : PySem.W.OpenLaw} {w : World} {K : PySem.W.Frag} {h : Heap} {mg : Str → Option Value} {fa C cY cB cD cL cT : Addr} (X : K.In h) (G : h.Ns mainGlobals mg) (hfa : mg "law" = some (.ref fa))
    {f_is_whole f_are_whole f_check_day f_check_days f_check_line f_check_days_and_line f_water_above f_wishes_above f_least_end f_tightest_line f_has_form f_day_holds f_holds f_drawn_by f_most f_check_yard f_m_init f_m_rooms f_m_waters f_m_day f_law_drawn f_law_yard_by f_law_days_by f_law_run f_law_lived f_law_plan_by f_law : Addr} {od_is_whole an_is_whole od_are_whole an_are_whole od_check_day an_check_day od_check_days an_check_days od_check_line an_check_line od_check_days_and_line an_check_days_and_line od_water_above an_water_above od_wishes_above an_wishes_above od_least_end an_least_end od_tightest_line an_tightest_line od_has_form an_has_form od_day_holds an_day_holds od_holds an_holds od_drawn_by an_drawn_by od_most an_most od_check_yard an_check_yard od_m_init an_m_init od_m_rooms an_m_rooms od_m_waters an_m_waters od_m_day an_m_day od_law_drawn an_law_drawn od_law_yard_by an_law_yard_by od_law_days_by an_law_days_by od_law_run an_law_run od_law_lived an_law_lived od_law_plan_by an_law_plan_by od_law an_law : Option Addr} {sl_is_whole sl_are_whole sl_check_day sl_check_days sl_check_line sl_check_days_and_line sl_water_above sl_wishes_above sl_least_end sl_tightest_line sl_has_form sl_day_holds sl_holds sl_drawn_by sl_most sl_check_yard sl_m_init sl_m_rooms sl_m_waters sl_m_day sl_law_drawn sl_law_yard_by sl_law_days_by sl_law_run sl_law_lived sl_law_plan_by sl_law : Array (Option Value)} {oc_is_whole kV_is_whole dc_is_whole pm_is_whole cd_is_whole ct_is_whole oc_are_whole kV_are_whole dc_are_whole pm_are_whole cd_are_whole ct_are_whole oc_check_day kV_check_day dc_check_day pm_check_day cd_check_day ct_check_day oc_check_days kV_check_days dc_check_days pm_check_days cd_check_days ct_check_days oc_check_line kV_check_line dc_check_line pm_check_line cd_check_line ct_check_line oc_check_days_and_line kV_check_days_and_line dc_check_days_and_line pm_check_days_and_line cd_check_days_and_line ct_check_days_and_line oc_water_above kV_water_above dc_water_above pm_water_above cd_water_above ct_water_above oc_wishes_above kV_wishes_above dc_wishes_above pm_wishes_above cd_wishes_above ct_wishes_above oc_least_end kV_least_end dc_least_end pm_least_end cd_least_end ct_least_end oc_tightest_line kV_tightest_line dc_tightest_line pm_tightest_line cd_tightest_line ct_tightest_line oc_has_form kV_has_form dc_has_form pm_has_form cd_has_form ct_has_form oc_day_holds kV_day_holds dc_day_holds pm_day_holds cd_day_holds ct_day_holds oc_holds kV_holds dc_holds pm_holds cd_holds ct_holds oc_drawn_by kV_drawn_by dc_drawn_by pm_drawn_by cd_drawn_by ct_drawn_by oc_most kV_most dc_most pm_most cd_most ct_most oc_check_yard kV_check_yard dc_check_yard pm_check_yard cd_check_yard ct_check_yard oc_m_init kV_m_init dc_m_init pm_m_init cd_m_init ct_m_init oc_m_rooms kV_m_rooms dc_m_rooms pm_m_rooms cd_m_rooms ct_m_rooms oc_m_waters kV_m_waters dc_m_waters pm_m_waters cd_m_waters ct_m_waters oc_m_day kV_m_day dc_m_day pm_m_day cd_m_day ct_m_day oc_law_drawn kV_law_drawn dc_law_drawn pm_law_drawn cd_law_drawn ct_law_drawn oc_law_yard_by kV_law_yard_by dc_law_yard_by pm_law_yard_by cd_law_yard_by ct_law_yard_by oc_law_days_by kV_law_days_by dc_law_days_by pm_law_days_by cd_law_days_by ct_law_days_by oc_law_run kV_law_run dc_law_run pm_law_run cd_law_run ct_law_run oc_law_lived kV_law_lived dc_law_lived pm_law_lived cd_law_lived ct_law_lived oc_law_plan_by kV_law_plan_by dc_law_plan_by pm_law_plan_by cd_law_plan_by ct_law_plan_by oc_law kV_law dc_law pm_law cd_law ct_law : Value} {t_m50 t_m4 t_m30 t_m8 : Tok}
    (aC : PySem.W.nsIn K mainGlobals "Yard" = some (some (.ref C)))
    (acY : PySem.W.nsIn K mainGlobals "YardError" = some (some (.ref cY)))
    (acB : PySem.W.nsIn K mainGlobals "BadYard" = some (some (.ref cB)))
    (acD : PySem.W.nsIn K mainGlobals "BadDays" = some (some (.ref cD)))
    (acL : PySem.W.nsIn K mainGlobals "BadLine" = some (some (.ref cL)))
    (a_m50 : PySem.W.nsIn K mainGlobals "MOST_ROOM" = some (some (.int 50 t_m50)))
    (a_m4 : PySem.W.nsIn K mainGlobals "MOST_TANKS" = some (some (.int 4 t_m4)))
    (a_m30 : PySem.W.nsIn K mainGlobals "MOST_IN_A_DAY" = some (some (.int 30 t_m30)))
    (a_m8 : PySem.W.nsIn K mainGlobals "MOST_DAYS" = some (some (.int 8 t_m8)))
    (a_is_whole : PySem.W.nsIn K mainGlobals "is_whole" = some (some (.ref f_is_whole)))
    (l_is_whole : K.lookup f_is_whole = some ⟨oc_is_whole, od_is_whole, .func (PySem.W.fnOf "is_whole" "is_whole" (defArgs sIsWhole) (defBody sIsWhole) (defScope sIsWhole) .none kV_is_whole dc_is_whole pm_is_whole an_is_whole cd_is_whole ct_is_whole), sl_is_whole⟩)
    (c_is_whole : PySem.W.codeIn K cd_is_whole "is_whole" = true)
    (k_is_whole : PySem.W.keepIn K (.ref f_is_whole) = true)
    (a_are_whole : PySem.W.nsIn K mainGlobals "are_whole" = some (some (.ref f_are_whole)))
    (l_are_whole : K.lookup f_are_whole = some ⟨oc_are_whole, od_are_whole, .func (PySem.W.fnOf "are_whole" "are_whole" (defArgs sAreWhole) (defBody sAreWhole) (defScope sAreWhole) .none kV_are_whole dc_are_whole pm_are_whole an_are_whole cd_are_whole ct_are_whole), sl_are_whole⟩)
    (c_are_whole : PySem.W.codeIn K cd_are_whole "are_whole" = true)
    (k_are_whole : PySem.W.keepIn K (.ref f_are_whole) = true)
    (a_check_day : PySem.W.nsIn K mainGlobals "check_day" = some (some (.ref f_check_day)))
    (l_check_day : K.lookup f_check_day = some ⟨oc_check_day, od_check_day, .func (PySem.W.fnOf "check_day" "check_day" (defArgs sCheckDay) (defBody sCheckDay) (defScope sCheckDay) .none kV_check_day dc_check_day pm_check_day an_check_day cd_check_day ct_check_day), sl_check_day⟩)
    (c_check_day : PySem.W.codeIn K cd_check_day "check_day" = true)
    (k_check_day : PySem.W.keepIn K (.ref f_check_day) = true)
    (a_check_days : PySem.W.nsIn K mainGlobals "check_days" = some (some (.ref f_check_days)))
    (l_check_days : K.lookup f_check_days = some ⟨oc_check_days, od_check_days, .func (PySem.W.fnOf "check_days" "check_days" (defArgs sCheckDays) (defBody sCheckDays) (defScope sCheckDays) .none kV_check_days dc_check_days pm_check_days an_check_days cd_check_days ct_check_days), sl_check_days⟩)
    (c_check_days : PySem.W.codeIn K cd_check_days "check_days" = true)
    (k_check_days : PySem.W.keepIn K (.ref f_check_days) = true)
    (a_check_line : PySem.W.nsIn K mainGlobals "check_line" = some (some (.ref f_check_line)))
    (l_check_line : K.lookup f_check_line = some ⟨oc_check_line, od_check_line, .func (PySem.W.fnOf "check_line" "check_line" (defArgs sCheckLine) (defBody sCheckLine) (defScope sCheckLine) .none kV_check_line dc_check_line pm_check_line an_check_line cd_check_line ct_check_line), sl_check_line⟩)
    (c_check_line : PySem.W.codeIn K cd_check_line "check_line" = true)
    (k_check_line : PySem.W.keepIn K (.ref f_check_line) = true)
    (a_check_days_and_line : PySem.W.nsIn K mainGlobals "check_days_and_line" = some (some (.ref f_check_days_and_line)))
    (l_check_days_and_line : K.lookup f_check_days_and_line = some ⟨oc_check_days_and_line, od_check_days_and_line, .func (PySem.W.fnOf "check_days_and_line" "check_days_and_line" (defArgs sCheckDL) (defBody sCheckDL) (defScope sCheckDL) .none kV_check_days_and_line dc_check_days_and_line pm_check_days_and_line an_check_days_and_line cd_check_days_and_line ct_check_days_and_line), sl_check_days_and_line⟩)
    (c_check_days_and_line : PySem.W.codeIn K cd_check_days_and_line "check_days_and_line" = true)
    (k_check_days_and_line : PySem.W.keepIn K (.ref f_check_days_and_line) = true)
    (a_water_above : PySem.W.nsIn K mainGlobals "water_above" = some (some (.ref f_water_above)))
    (l_water_above : K.lookup f_water_above = some ⟨oc_water_above, od_water_above, .func (PySem.W.fnOf "water_above" "water_above" (defArgs sWater) (defBody sWater) (defScope sWater) .none kV_water_above dc_water_above pm_water_above an_water_above cd_water_above ct_water_above), sl_water_above⟩)
    (c_water_above : PySem.W.codeIn K cd_water_above "water_above" = true)
    (k_water_above : PySem.W.keepIn K (.ref f_water_above) = true)
    (a_wishes_above : PySem.W.nsIn K mainGlobals "wishes_above" = some (some (.ref f_wishes_above)))
    (l_wishes_above : K.lookup f_wishes_above = some ⟨oc_wishes_above, od_wishes_above, .func (PySem.W.fnOf "wishes_above" "wishes_above" (defArgs sWishes) (defBody sWishes) (defScope sWishes) .none kV_wishes_above dc_wishes_above pm_wishes_above an_wishes_above cd_wishes_above ct_wishes_above), sl_wishes_above⟩)
    (c_wishes_above : PySem.W.codeIn K cd_wishes_above "wishes_above" = true)
    (k_wishes_above : PySem.W.keepIn K (.ref f_wishes_above) = true)
    (a_least_end : PySem.W.nsIn K mainGlobals "least_end" = some (some (.ref f_least_end)))
    (l_least_end : K.lookup f_least_end = some ⟨oc_least_end, od_least_end, .func (PySem.W.fnOf "least_end" "least_end" (defArgs sLeastEnd) (defBody sLeastEnd) (defScope sLeastEnd) .none kV_least_end dc_least_end pm_least_end an_least_end cd_least_end ct_least_end), sl_least_end⟩)
    (c_least_end : PySem.W.codeIn K cd_least_end "least_end" = true)
    (k_least_end : PySem.W.keepIn K (.ref f_least_end) = true)
    (a_tightest_line : PySem.W.nsIn K mainGlobals "tightest_line" = some (some (.ref f_tightest_line)))
    (l_tightest_line : K.lookup f_tightest_line = some ⟨oc_tightest_line, od_tightest_line, .func (PySem.W.fnOf "tightest_line" "tightest_line" (defArgs sTightest) (defBody sTightest) (defScope sTightest) .none kV_tightest_line dc_tightest_line pm_tightest_line an_tightest_line cd_tightest_line ct_tightest_line), sl_tightest_line⟩)
    (c_tightest_line : PySem.W.codeIn K cd_tightest_line "tightest_line" = true)
    (k_tightest_line : PySem.W.keepIn K (.ref f_tightest_line) = true)
    (a_has_form : PySem.W.nsIn K mainGlobals "has_form" = some (some (.ref f_has_form)))
    (l_has_form : K.lookup f_has_form = some ⟨oc_has_form, od_has_form, .func (PySem.W.fnOf "has_form" "has_form" (defArgs sHasForm) (defBody sHasForm) (defScope sHasForm) .none kV_has_form dc_has_form pm_has_form an_has_form cd_has_form ct_has_form), sl_has_form⟩)
    (c_has_form : PySem.W.codeIn K cd_has_form "has_form" = true)
    (k_has_form : PySem.W.keepIn K (.ref f_has_form) = true)
    (a_day_holds : PySem.W.nsIn K mainGlobals "day_holds" = some (some (.ref f_day_holds)))
    (l_day_holds : K.lookup f_day_holds = some ⟨oc_day_holds, od_day_holds, .func (PySem.W.fnOf "day_holds" "day_holds" (defArgs sDayHolds) (defBody sDayHolds) (defScope sDayHolds) .none kV_day_holds dc_day_holds pm_day_holds an_day_holds cd_day_holds ct_day_holds), sl_day_holds⟩)
    (c_day_holds : PySem.W.codeIn K cd_day_holds "day_holds" = true)
    (k_day_holds : PySem.W.keepIn K (.ref f_day_holds) = true)
    (a_holds : PySem.W.nsIn K mainGlobals "holds" = some (some (.ref f_holds)))
    (l_holds : K.lookup f_holds = some ⟨oc_holds, od_holds, .func (PySem.W.fnOf "holds" "holds" (defArgs sHolds) (defBody sHolds) (defScope sHolds) .none kV_holds dc_holds pm_holds an_holds cd_holds ct_holds), sl_holds⟩)
    (c_holds : PySem.W.codeIn K cd_holds "holds" = true)
    (k_holds : PySem.W.keepIn K (.ref f_holds) = true)
    (a_drawn_by : PySem.W.nsIn K mainGlobals "drawn_by" = some (some (.ref f_drawn_by)))
    (l_drawn_by : K.lookup f_drawn_by = some ⟨oc_drawn_by, od_drawn_by, .func (PySem.W.fnOf "drawn_by" "drawn_by" (defArgs sDrawnBy) (defBody sDrawnBy) (defScope sDrawnBy) .none kV_drawn_by dc_drawn_by pm_drawn_by an_drawn_by cd_drawn_by ct_drawn_by), sl_drawn_by⟩)
    (c_drawn_by : PySem.W.codeIn K cd_drawn_by "drawn_by" = true)
    (k_drawn_by : PySem.W.keepIn K (.ref f_drawn_by) = true)
    (a_most : PySem.W.nsIn K mainGlobals "most" = some (some (.ref f_most)))
    (l_most : K.lookup f_most = some ⟨oc_most, od_most, .func (PySem.W.fnOf "most" "most" (defArgs sMost) (defBody sMost) (defScope sMost) .none kV_most dc_most pm_most an_most cd_most ct_most), sl_most⟩)
    (c_most : PySem.W.codeIn K cd_most "most" = true)
    (k_most : PySem.W.keepIn K (.ref f_most) = true)
    (a_check_yard : PySem.W.nsIn K mainGlobals "check_yard" = some (some (.ref f_check_yard)))
    (l_check_yard : K.lookup f_check_yard = some ⟨oc_check_yard, od_check_yard, .func (PySem.W.fnOf "check_yard" "check_yard" (defArgs sCheck) (defBody sCheck) (defScope sCheck) .none kV_check_yard dc_check_yard pm_check_yard an_check_yard cd_check_yard ct_check_yard), sl_check_yard⟩)
    (c_check_yard : PySem.W.codeIn K cd_check_yard "check_yard" = true)
    (k_check_yard : PySem.W.keepIn K (.ref f_check_yard) = true)
    (a_m_init : PySem.W.findIn K (.ref C) "__init__" = some (some (.ref f_m_init)))
    (i_m_init : PySem.W.isFn K (.ref f_m_init) = true)
    (l_m_init : K.lookup f_m_init = some ⟨oc_m_init, od_m_init, .func (PySem.W.fnOf "__init__" "Yard.__init__" (defArgs sInit) (defBody sInit) (defScope sInit) .none kV_m_init dc_m_init pm_m_init an_m_init cd_m_init ct_m_init), sl_m_init⟩)
    (c_m_init : PySem.W.codeIn K cd_m_init "Yard.__init__" = true)
    (k_m_init : PySem.W.keepIn K (.ref f_m_init) = true)
    (a_m_rooms : PySem.W.findIn K (.ref C) "rooms" = some (some (.ref f_m_rooms)))
    (i_m_rooms : PySem.W.isFn K (.ref f_m_rooms) = true)
    (l_m_rooms : K.lookup f_m_rooms = some ⟨oc_m_rooms, od_m_rooms, .func (PySem.W.fnOf "rooms" "Yard.rooms" (defArgs sRooms) (defBody sRooms) (defScope sRooms) .none kV_m_rooms dc_m_rooms pm_m_rooms an_m_rooms cd_m_rooms ct_m_rooms), sl_m_rooms⟩)
    (c_m_rooms : PySem.W.codeIn K cd_m_rooms "Yard.rooms" = true)
    (k_m_rooms : PySem.W.keepIn K (.ref f_m_rooms) = true)
    (a_m_waters : PySem.W.findIn K (.ref C) "waters" = some (some (.ref f_m_waters)))
    (i_m_waters : PySem.W.isFn K (.ref f_m_waters) = true)
    (l_m_waters : K.lookup f_m_waters = some ⟨oc_m_waters, od_m_waters, .func (PySem.W.fnOf "waters" "Yard.waters" (defArgs sWaters) (defBody sWaters) (defScope sWaters) .none kV_m_waters dc_m_waters pm_m_waters an_m_waters cd_m_waters ct_m_waters), sl_m_waters⟩)
    (c_m_waters : PySem.W.codeIn K cd_m_waters "Yard.waters" = true)
    (k_m_waters : PySem.W.keepIn K (.ref f_m_waters) = true)
    (a_m_day : PySem.W.findIn K (.ref C) "day" = some (some (.ref f_m_day)))
    (i_m_day : PySem.W.isFn K (.ref f_m_day) = true)
    (l_m_day : K.lookup f_m_day = some ⟨oc_m_day, od_m_day, .func (PySem.W.fnOf "day" "Yard.day" (defArgs sDay) (defBody sDay) (defScope sDay) .none kV_m_day dc_m_day pm_m_day an_m_day cd_m_day ct_m_day), sl_m_day⟩)
    (c_m_day : PySem.W.codeIn K cd_m_day "Yard.day" = true)
    (k_m_day : PySem.W.keepIn K (.ref f_m_day) = true)
    (a_law_drawn : PySem.W.nsIn K mainGlobals "_law_drawn" = some (some (.ref f_law_drawn)))
    (l_law_drawn : K.lookup f_law_drawn = some ⟨oc_law_drawn, od_law_drawn, .func (PySem.W.fnOf "_law_drawn" "_law_drawn" (defArgs sDrawn) (defBody sDrawn) (defScope sDrawn) .none kV_law_drawn dc_law_drawn pm_law_drawn an_law_drawn cd_law_drawn ct_law_drawn), sl_law_drawn⟩)
    (c_law_drawn : PySem.W.codeIn K cd_law_drawn "_law_drawn" = true)
    (k_law_drawn : PySem.W.keepIn K (.ref f_law_drawn) = true)
    (a_law_yard_by : PySem.W.nsIn K mainGlobals "_law_yard_by" = some (some (.ref f_law_yard_by)))
    (l_law_yard_by : K.lookup f_law_yard_by = some ⟨oc_law_yard_by, od_law_yard_by, .func (PySem.W.fnOf "_law_yard_by" "_law_yard_by" (defArgs sYardBy) (defBody sYardBy) (defScope sYardBy) .none kV_law_yard_by dc_law_yard_by pm_law_yard_by an_law_yard_by cd_law_yard_by ct_law_yard_by), sl_law_yard_by⟩)
    (c_law_yard_by : PySem.W.codeIn K cd_law_yard_by "_law_yard_by" = true)
    (k_law_yard_by : PySem.W.keepIn K (.ref f_law_yard_by) = true)
    (a_law_days_by : PySem.W.nsIn K mainGlobals "_law_days_by" = some (some (.ref f_law_days_by)))
    (l_law_days_by : K.lookup f_law_days_by = some ⟨oc_law_days_by, od_law_days_by, .func (PySem.W.fnOf "_law_days_by" "_law_days_by" (defArgs sDaysBy) (defBody sDaysBy) (defScope sDaysBy) .none kV_law_days_by dc_law_days_by pm_law_days_by an_law_days_by cd_law_days_by ct_law_days_by), sl_law_days_by⟩)
    (c_law_days_by : PySem.W.codeIn K cd_law_days_by "_law_days_by" = true)
    (k_law_days_by : PySem.W.keepIn K (.ref f_law_days_by) = true)
    (a_law_run : PySem.W.nsIn K mainGlobals "_law_run" = some (some (.ref f_law_run)))
    (l_law_run : K.lookup f_law_run = some ⟨oc_law_run, od_law_run, .func (PySem.W.fnOf "_law_run" "_law_run" (defArgs sRun) (defBody sRun) (defScope sRun) .none kV_law_run dc_law_run pm_law_run an_law_run cd_law_run ct_law_run), sl_law_run⟩)
    (c_law_run : PySem.W.codeIn K cd_law_run "_law_run" = true)
    (k_law_run : PySem.W.keepIn K (.ref f_law_run) = true)
    (a_law_lived : PySem.W.nsIn K mainGlobals "_law_lived" = some (some (.ref f_law_lived)))
    (l_law_lived : K.lookup f_law_lived = some ⟨oc_law_lived, od_law_lived, .func (PySem.W.fnOf "_law_lived" "_law_lived" (defArgs sLived) (defBody sLived) (defScope sLived) .none kV_law_lived dc_law_lived pm_law_lived an_law_lived cd_law_lived ct_law_lived), sl_law_lived⟩)
    (c_law_lived : PySem.W.codeIn K cd_law_lived "_law_lived" = true)
    (k_law_lived : PySem.W.keepIn K (.ref f_law_lived) = true)
    (a_law_plan_by : PySem.W.nsIn K mainGlobals "_law_plan_by" = some (some (.ref f_law_plan_by)))
    (l_law_plan_by : K.lookup f_law_plan_by = some ⟨oc_law_plan_by, od_law_plan_by, .func (PySem.W.fnOf "_law_plan_by" "_law_plan_by" (defArgs sPlanBy) (defBody sPlanBy) (defScope sPlanBy) .none kV_law_plan_by dc_law_plan_by pm_law_plan_by an_law_plan_by cd_law_plan_by ct_law_plan_by), sl_law_plan_by⟩)
    (c_law_plan_by : PySem.W.codeIn K cd_law_plan_by "_law_plan_by" = true)
    (k_law_plan_by : PySem.W.keepIn K (.ref f_law_plan_by) = true)
    (a_law : PySem.W.nsIn K mainGlobals "law" = some (some (.ref f_law)))
    (l_law : K.lookup f_law = some ⟨oc_law, od_law, .func (PySem.W.fnOf "law" "law" (defArgs sLaw) (defBody sLaw) (defScope sLaw) .none kV_law dc_law pm_law an_law cd_law ct_law), sl_law⟩)
    (c_law : PySem.W.codeIn K cd_law "law" = true)
    (k_law : PySem.W.keepIn K (.ref f_law) = true)
    (pg : PySem.W.plainGet K C Str.empty = true)
    (hd : PySem.W.hasDictIn K C = true)
    (po : PySem.W.plainOver K C = true)
    (sa : PySem.W.findIn K (.ref C) "__setattr__" = some (some (.builtin "object.__setattr__")))
    (nS : PySem.W.findIn K (.ref C) "sizes" = some none)
    (nL : PySem.W.findIn K (.ref C) "levels" = some none)
    (yB : PySem.W.excIn K cB [.type "ValueError", .type "Exception", .type "BaseException", .type "object"] "ValueError.__new__" = true)
    (yD : PySem.W.excIn K cD [.type "ValueError", .type "Exception", .type "BaseException", .type "object"] "ValueError.__new__" = true)
    (yL : PySem.W.excIn K cL [.type "ValueError", .type "Exception", .type "BaseException", .type "object"] "ValueError.__new__" = true)
    (z_len : PySem.W.nsIn K mainGlobals "len" = some none)
    (z_range : PySem.W.nsIn K mainGlobals "range" = some none)
    (z_isi : PySem.W.nsIn K mainGlobals "isinstance" = some none)
    (z_list : PySem.W.nsIn K mainGlobals "list" = some none)
    (z_all : PySem.W.nsIn K mainGlobals "all" = some none)
    (z_any : PySem.W.nsIn K mainGlobals "any" = some none)
    (z_zip : PySem.W.nsIn K mainGlobals "zip" = some none)
    (z_int : PySem.W.nsIn K mainGlobals "int" = some none)
    (z_bool : PySem.W.nsIn K mainGlobals "bool" = some none)
    (z_ve : PySem.W.nsIn K mainGlobals "ValueError" = some none)
    (z_min : PySem.W.nsIn K mainGlobals "min" = some none)
    (z_tup : PySem.W.nsIn K mainGlobals "tuple" = some none)
    (z_max : PySem.W.nsIn K mainGlobals "max" = some none)
    (z_sum : PySem.W.nsIn K mainGlobals "sum" = some none)
    (z_enu : PySem.W.nsIn K mainGlobals "enumerate" = some none)
    (z_str : PySem.W.nsIn K mainGlobals "str" = some none)
    (ki : PySem.W.kitOne K (.type "int") (.type "int") = some true)
    (kib : PySem.W.kitOne K (.type "int") (.type "bool") = some false)
    (kll : PySem.W.kitOne K (.type "list") (.type "list") = some true)
    (ktt : PySem.W.kitOne K (.type "tuple") (.type "tuple") = some true)
    (kbb : PySem.W.kitOne K (.type "bool") (.type "bool") = some true)
    (kss : PySem.W.kitOne K (.type "str") (.type "str") = some true)
    (mk : PySem.W.makesIn K C = true)
    (kc : PySem.W.keepIn K (.ref C) = true)
    : ∃ fd : FuncData, (∀ (s : Shared) (v : Value), BindsTo s fd ⟨[v], []⟩ [("script", v)]) ∧ ∀ base : Heap, K.In base → base.Ns mainGlobals mg → FnOk l.prog w K mg base CX0 8 fa fd ["script"] (spLaw K) := by
  have e := hfa.symm.trans (PySem.W.mg_of X G a_law)
  cases e
  have T : Txt K mg C cY cB cD cL cT := {
    cl := ⟨pg, hd, po, sa⟩
    nS := nS
    nL := nL
    mgC := PySem.W.mg_of X G aC
    mgY := PySem.W.mg_of X G acY
    exB := ⟨PySem.W.mg_of X G acB, yB⟩
    exD := ⟨PySem.W.mg_of X G acD, yD⟩
    exL := ⟨PySem.W.mg_of X G acL, yL⟩
    len := PySem.W.mg_none_of X G z_len
    range := PySem.W.mg_none_of X G z_range
    isi := PySem.W.mg_none_of X G z_isi
    list := PySem.W.mg_none_of X G z_list
    all := PySem.W.mg_none_of X G z_all
    any := PySem.W.mg_none_of X G z_any
    zip := PySem.W.mg_none_of X G z_zip
    int := PySem.W.mg_none_of X G z_int
    bool := PySem.W.mg_none_of X G z_bool
    ve := PySem.W.mg_none_of X G z_ve
    min := PySem.W.mg_none_of X G z_min
    tup := PySem.W.mg_none_of X G z_tup
    max := PySem.W.mg_none_of X G z_max
    sum := PySem.W.mg_none_of X G z_sum
    enu := PySem.W.mg_none_of X G z_enu
    str := PySem.W.mg_none_of X G z_str
    m50 := ⟨_, PySem.W.mg_of X G a_m50⟩
    m4 := ⟨_, PySem.W.mg_of X G a_m4⟩
    m30 := ⟨_, PySem.W.mg_of X G a_m30⟩
    m8 := ⟨_, PySem.W.mg_of X G a_m8⟩
    ki := ki
    kib := kib
    kll := kll
    ktt := ktt
    kbb := kbb
    kss := kss }
  have F_is_whole := fun_mk (st := sIsWhole) l_is_whole c_is_whole k_is_whole
  have b_is_whole := F_is_whole.binds (ps := ["value", "most"]) fun _ _ _ _ _ _ us hl => len_2 us hl (fun _ _ => rfl)
  have g_is_whole := PySem.W.mg_of X G a_is_whole
  have F_are_whole := fun_mk (st := sAreWhole) l_are_whole c_are_whole k_are_whole
  have b_are_whole := F_are_whole.binds (ps := ["values", "most"]) fun _ _ _ _ _ _ us hl => len_2 us hl (fun _ _ => rfl)
  have g_are_whole := PySem.W.mg_of X G a_are_whole
  have F_check_day := fun_mk (st := sCheckDay) l_check_day c_check_day k_check_day
  have b_check_day := F_check_day.binds (ps := ["tanks", "rain", "wishes"]) fun _ _ _ _ _ _ us hl => len_3 us hl (fun _ _ _ => rfl)
  have g_check_day := PySem.W.mg_of X G a_check_day
  have F_check_days := fun_mk (st := sCheckDays) l_check_days c_check_days k_check_days
  have b_check_days := F_check_days.binds (ps := ["tanks", "days"]) fun _ _ _ _ _ _ us hl => len_2 us hl (fun _ _ => rfl)
  have g_check_days := PySem.W.mg_of X G a_check_days
  have F_check_line := fun_mk (st := sCheckLine) l_check_line c_check_line k_check_line
  have b_check_line := F_check_line.binds (ps := ["tanks", "days", "line"]) fun _ _ _ _ _ _ us hl => len_3 us hl (fun _ _ _ => rfl)
  have g_check_line := PySem.W.mg_of X G a_check_line
  have F_check_days_and_line := fun_mk (st := sCheckDL) l_check_days_and_line c_check_days_and_line k_check_days_and_line
  have b_check_days_and_line := F_check_days_and_line.binds (ps := ["yard", "days", "line"]) fun _ _ _ _ _ _ us hl => len_3 us hl (fun _ _ _ => rfl)
  have g_check_days_and_line := PySem.W.mg_of X G a_check_days_and_line
  have F_water_above := fun_mk (st := sWater) l_water_above c_water_above k_water_above
  have b_water_above := F_water_above.binds (ps := ["yard", "days", "line"]) fun _ _ _ _ _ _ us hl => len_3 us hl (fun _ _ _ => rfl)
  have g_water_above := PySem.W.mg_of X G a_water_above
  have F_wishes_above := fun_mk (st := sWishes) l_wishes_above c_wishes_above k_wishes_above
  have b_wishes_above := F_wishes_above.binds (ps := ["yard", "days", "line"]) fun _ _ _ _ _ _ us hl => len_3 us hl (fun _ _ _ => rfl)
  have g_wishes_above := PySem.W.mg_of X G a_wishes_above
  have F_least_end := fun_mk (st := sLeastEnd) l_least_end c_least_end k_least_end
  have b_least_end := F_least_end.binds (ps := ["ends", "day", "lying", "above"]) fun _ _ _ _ _ _ us hl => len_4 us hl (fun _ _ _ _ => rfl)
  have g_least_end := PySem.W.mg_of X G a_least_end
  have F_tightest_line := fun_mk (st := sTightest) l_tightest_line c_tightest_line k_tightest_line
  have b_tightest_line := F_tightest_line.binds (ps := ["rooms", "waters", "days"]) fun _ _ _ _ _ _ us hl => len_3 us hl (fun _ _ _ => rfl)
  have g_tightest_line := PySem.W.mg_of X G a_tightest_line
  have F_has_form := fun_mk (st := sHasForm) l_has_form c_has_form k_has_form
  have b_has_form := F_has_form.binds (ps := ["pair", "tanks"]) fun _ _ _ _ _ _ us hl => len_2 us hl (fun _ _ => rfl)
  have g_has_form := PySem.W.mg_of X G a_has_form
  have F_day_holds := fun_mk (st := sDayHolds) l_day_holds c_day_holds k_day_holds
  have b_day_holds := F_day_holds.binds (ps := ["rooms", "lying", "day", "pair"]) fun _ _ _ _ _ _ us hl => len_4 us hl (fun _ _ _ _ => rfl)
  have g_day_holds := PySem.W.mg_of X G a_day_holds
  have F_holds := fun_mk (st := sHolds) l_holds c_holds k_holds
  have b_holds := F_holds.binds (ps := ["yard", "days", "plan"]) fun _ _ _ _ _ _ us hl => len_3 us hl (fun _ _ _ => rfl)
  have g_holds := PySem.W.mg_of X G a_holds
  have F_drawn_by := fun_mk (st := sDrawnBy) l_drawn_by c_drawn_by k_drawn_by
  have b_drawn_by := F_drawn_by.binds (ps := ["plan"]) fun _ _ _ _ _ _ us hl => len_1 us hl (fun _ => rfl)
  have g_drawn_by := PySem.W.mg_of X G a_drawn_by
  have F_most := fun_mk (st := sMost) l_most c_most k_most
  have b_most := F_most.binds (ps := ["yard", "days"]) fun _ _ _ _ _ _ us hl => len_2 us hl (fun _ _ => rfl)
  have g_most := PySem.W.mg_of X G a_most
  have F_check_yard := fun_mk (st := sCheck) l_check_yard c_check_yard k_check_yard
  have b_check_yard := F_check_yard.binds (ps := ["rooms", "waters"]) fun _ _ _ _ _ _ us hl => len_2 us hl (fun _ _ => rfl)
  have g_check_yard := PySem.W.mg_of X G a_check_yard
  have F_m_init := fun_mk (st := sInit) l_m_init c_m_init k_m_init
  have b_m_init := F_m_init.binds (ps := ["self", "rooms", "waters"]) fun _ _ _ _ _ _ us hl => len_3 us hl (fun _ _ _ => rfl)
  have M : Mk K C f_m_init := ⟨mk, a_m_init, i_m_init, kc⟩
  have F_m_rooms := fun_mk (st := sRooms) l_m_rooms c_m_rooms k_m_rooms
  have b_m_rooms := F_m_rooms.binds (ps := ["self"]) fun _ _ _ _ _ _ us hl => len_1 us hl (fun _ => rfl)
  have e_m_rooms : Meth K C "rooms" f_m_rooms := ⟨a_m_rooms, i_m_rooms, k_m_rooms⟩
  have F_m_waters := fun_mk (st := sWaters) l_m_waters c_m_waters k_m_waters
  have b_m_waters := F_m_waters.binds (ps := ["self"]) fun _ _ _ _ _ _ us hl => len_1 us hl (fun _ => rfl)
  have e_m_waters : Meth K C "waters" f_m_waters := ⟨a_m_waters, i_m_waters, k_m_waters⟩
  have F_m_day := fun_mk (st := sDay) l_m_day c_m_day k_m_day
  have b_m_day := F_m_day.binds (ps := ["self", "rain", "wishes"]) fun _ _ _ _ _ _ us hl => len_3 us hl (fun _ _ _ => rfl)
  have e_m_day : Meth K C "day" f_m_day := ⟨a_m_day, i_m_day, k_m_day⟩
  have F_law_drawn := fun_mk (st := sDrawn) l_law_drawn c_law_drawn k_law_drawn
  have b_law_drawn := F_law_drawn.binds (ps := ["script", "k", "many"]) fun _ _ _ _ _ _ us hl => len_3 us hl (fun _ _ _ => rfl)
  have g_law_drawn := PySem.W.mg_of X G a_law_drawn
  have F_law_yard_by := fun_mk (st := sYardBy) l_law_yard_by c_law_yard_by k_law_yard_by
  have b_law_yard_by := F_law_yard_by.binds (ps := ["script", "base"]) fun _ _ _ _ _ _ us hl => len_2 us hl (fun _ _ => rfl)
  have g_law_yard_by := PySem.W.mg_of X G a_law_yard_by
  have F_law_days_by := fun_mk (st := sDaysBy) l_law_days_by c_law_days_by k_law_days_by
  have b_law_days_by := F_law_days_by.binds (ps := ["script", "base", "many", "bound"]) fun _ _ _ _ _ _ us hl => len_4 us hl (fun _ _ _ _ => rfl)
  have g_law_days_by := PySem.W.mg_of X G a_law_days_by
  have F_law_run := fun_mk (st := sRun) l_law_run c_law_run k_law_run
  have b_law_run := F_law_run.binds (ps := ["rooms", "waters", "days"]) fun _ _ _ _ _ _ us hl => len_3 us hl (fun _ _ _ => rfl)
  have g_law_run := PySem.W.mg_of X G a_law_run
  have F_law_lived := fun_mk (st := sLived) l_law_lived c_law_lived k_law_lived
  have b_law_lived := F_law_lived.binds (ps := ["script", "rooms", "waters"]) fun _ _ _ _ _ _ us hl => len_3 us hl (fun _ _ _ => rfl)
  have g_law_lived := PySem.W.mg_of X G a_law_lived
  have F_law_plan_by := fun_mk (st := sPlanBy) l_law_plan_by c_law_plan_by k_law_plan_by
  have b_law_plan_by := F_law_plan_by.binds (ps := ["script", "rooms", "waters", "days", "way"]) fun _ _ _ _ _ _ us hl => len_5 us hl (fun _ _ _ _ _ => rfl)
  have g_law_plan_by := PySem.W.mg_of X G a_law_plan_by
  have F_law := fun_mk (st := sLaw) l_law c_law k_law
  have g_law := PySem.W.mg_of X G a_law
  refine ⟨PySem.W.fnOf "law" "law" (defArgs sLaw) (defBody sLaw) (defScope sLaw) .none kV_law dc_law pm_law an_law cd_law ct_law, fun s v => .of_eq rfl, fun base _ _ => ?_⟩
  have GCk := ok_ck (P := l.prog) (w := w) (base := base) F_check_yard T F_are_whole b_are_whole g_are_whole F_is_whole b_is_whole g_is_whole
  have GI := ok_in F_m_init T F_check_yard b_check_yard g_check_yard GCk
  have GCd := ok_cd (P := l.prog) (w := w) (base := base) F_check_day T F_are_whole b_are_whole g_are_whole F_is_whole b_is_whole g_is_whole
  have GDy := ok_dy F_m_day T F_check_day b_check_day g_check_day GCd
  have GCs := ok_cs F_check_days T F_check_day b_check_day g_check_day GCd
  have GCl := ok_cl (P := l.prog) (w := w) (base := base) F_check_line T F_are_whole b_are_whole g_are_whole F_is_whole b_is_whole g_is_whole
  have GRo := ok_ro (P := l.prog) (w := w) (base := base) F_m_rooms T
  have GWa := ok_wa (P := l.prog) (w := w) (base := base) F_m_waters T
  have GDl := ok_cdl F_check_days_and_line T F_check_days b_check_days g_check_days GCs F_check_line b_check_line g_check_line GCl e_m_rooms b_m_rooms GRo
  have GWr := ok_wr F_water_above T F_check_days_and_line b_check_days_and_line g_check_days_and_line GDl e_m_rooms b_m_rooms GRo e_m_waters b_m_waters GWa
  have GWs := ok_ws F_wishes_above T F_check_days_and_line b_check_days_and_line g_check_days_and_line GDl
  have GTi := ok_ti (P := l.prog) (w := w) (base := base) F_tightest_line T F_least_end b_least_end g_least_end
  have GMo := ok_mo F_most T F_check_days b_check_days g_check_days GCs F_tightest_line b_tightest_line g_tightest_line GTi F_water_above b_water_above g_water_above GWr F_wishes_above b_wishes_above g_wishes_above GWs e_m_rooms b_m_rooms GRo e_m_waters b_m_waters GWa
  have GHo := ok_ho F_holds T F_check_days b_check_days g_check_days GCs F_has_form b_has_form g_has_form (ok_hf F_has_form T) F_day_holds b_day_holds g_day_holds (ok_dh F_day_holds T F_is_whole b_is_whole g_is_whole) e_m_rooms b_m_rooms GRo e_m_waters b_m_waters GWa
  exact ok_lw F_law T F_law_yard_by b_law_yard_by g_law_yard_by (ok_yb F_law_yard_by T F_law_drawn b_law_drawn g_law_drawn) F_law_days_by b_law_days_by g_law_days_by (ok_db F_law_days_by T F_law_drawn b_law_drawn g_law_drawn)
    F_law_lived b_law_lived g_law_lived (ok_li F_law_lived T F_law_drawn b_law_drawn g_law_drawn M GI b_m_init e_m_day b_m_day GDy F_law_run b_law_run g_law_run)
    F_most b_most g_most GMo F_law_plan_by b_law_plan_by g_law_plan_by (ok_pb F_law_plan_by T F_law_drawn b_law_drawn g_law_drawn) F_holds b_holds g_holds GHo F_drawn_by b_drawn_by g_drawn_by (ok_dby F_drawn_by T)
    F_law_drawn b_law_drawn g_law_drawn (ok_dr F_law_drawn T) F_water_above b_water_above g_water_above GWr F_wishes_above b_wishes_above g_wishes_above GWs
theorem walk {l : PySem.W.OpenLaw} {q : Program} {loose : List Str} {XP : (Str → Option Value) → Heap → Prop} {YP : World → Heap → Prop} {d : DefRec} {K : Params → PySem.W.Frag} (hn : l.most = some 63) (hdf : d.params.defaults = [])
    (hY : ∀ (w : World) (h : Heap), YP w h → (K w.params).In h)
    (F : ∀ (w : World) (mg : Str → Option Value) (fa : Addr) (h : Heap), (K w.params).In h → h.Ns mainGlobals mg → mg d.name = some (.ref fa) →
      ∃ fd : FuncData, (∀ (s : Shared) (u : Value), BindsTo s fd ⟨[u], []⟩ [("script", u)]) ∧ ∀ base : Heap, (K w.params).In base → base.Ns mainGlobals mg → FnOk l.prog w (K w.params) mg base CX0 8 fa fd ["script"] (spLaw (K w.params))) :
    PySem.W.WalkO q loose XP YP l.row.toRowW d [] (fun f vs => PySem.call f vs) :=
  L2.walk_of (n := 63) (k := 8) (x := "script") (CX := fun _ => CX0) (sp := fun w => spLaw (K w.params)) hn (by decide) hdf ⟨rfl, by decide, by decide⟩ hY F (fun _ _ a ns hl _ hS => ⟨a, ns, rfl, hS, hl, fun _ => rfl⟩) fun _ _ _ _ _ z => z
end Z
def PySem.W.Fast.tw16448185129389632218 : Unit := ()
def PySem.W.Fast.tw6077780220091265348 : Unit := ()
def PySem.W.Fast.tw18403515181635415153 : Unit := ()
def PySem.W.Fast.tw15635943033401114946 : Unit := ()
def PySem.W.Fast.tw9921403201244845262 : Unit := ()
def PySem.W.Fast.tw4458764995925077856 : Unit := ()
def PySem.W.Fast.tw8254863559569692356 : Unit := ()
def PySem.W.Fast.tw8053655829875951410 : Unit := ()
def PySem.W.Fast.tw1290740075847921540 : Unit := ()
def PySem.W.Fast.tw1478905347188340471 : Unit := ()
def PySem.W.Fast.tw6326881016611029679 : Unit := ()
def PySem.W.Fast.tw7730973585800145013 : Unit := ()
def PySem.W.Fast.tw7010662839743072565 : Unit := ()
def PySem.W.Fast.tw7367922256805302377 : Unit := ()
def PySem.W.Fast.tw17428138450990361008 : Unit := ()
def PySem.W.Fast.tw12078460609681951802 : Unit := ()
def PySem.W.Fast.tw2610312199124025045 : Unit := ()
def PySem.W.Fast.tw9003022010775514087 : Unit := ()
def PySem.W.Fast.tw5158273645741115261 : Unit := ()
def PySem.W.Fast.tw3713548307629034385 : Unit := ()
def PySem.W.Fast.tw14221065303537612324 : Unit := ()
def PySem.W.Fast.tw17869260228068992721 : Unit := ()
def PySem.W.Fast.tw3852322385468986384 : Unit := ()
def PySem.W.Fast.tw10810129228152420416 : Unit := ()
def PySem.W.Fast.tw14732488090960719580 : Unit := ()
def PySem.W.Fast.tw9410138962159074114 : Unit := ()
def PySem.W.Fast.tw2006733489845924461 : Unit := ()
def PySem.W.Fast.tw13550575699062053079 : Unit := ()
def PySem.W.Fast.tw13227081890568253675 : Unit := ()
def PySem.W.Fast.tw8496267763746026744 : Unit := ()
def PySem.W.Fast.tw9163887873715487261 : Unit := ()
def PySem.W.Fast.tw6094688766918531722 : Unit := ()
def PySem.W.Fast.tw17937047107072532782 : Unit := ()
def PySem.W.Fast.tw15098476818718839506 : Unit := ()
def PySem.W.Fast.tw185734641288347927 : Unit := ()
def PySem.W.Fast.tw7928581746279885271 : Unit := ()
def PySem.W.Fast.tw14185745449594472923 : Unit := ()
def PySem.W.Fast.tw13542608643831713889 : Unit := ()
def PySem.W.Fast.tw8417509346861067831 : Unit := ()
def PySem.W.Fast.tw4203263308809170807 : Unit := ()
def PySem.W.Fast.tw6431945186940345794 : Unit := ()
def PySem.W.Fast.tw1268376454131470811 : Unit := ()
def PySem.W.Fast.tw3959479757168693559 : Unit := ()
def PySem.W.Fast.tw1840733778403828663 : Unit := ()
def PySem.W.Fast.tw1678437611907099688 : Unit := ()
def PySem.W.Fast.tw17785253216514519282 : Unit := ()
def PySem.W.Fast.tw4795964726993220209 : Unit := ()
def PySem.W.Fast.tw17635605658401378176 : Unit := ()
def PySem.W.Fast.tw11524236376746907545 : Unit := ()
def PySem.W.Fast.tw5464676647984977483 : Unit := ()
def PySem.W.Fast.tw13975893722937840184 : Unit := ()
def PySem.W.Fast.tw2866863088376917001 : Unit := ()
def PySem.W.Fast.tw17673618279556678023 : Unit := ()
def PySem.W.Fast.tw5768356770681067124 : Unit := ()
def PySem.W.Fast.tw9322725810949224566 : Unit := ()
def PySem.W.Fast.tw10418967303765703876 : Unit := ()
def PySem.W.Fast.tw833154289883049867 : Unit := ()
def PySem.W.Fast.tw15554967525038366158 : Unit := ()
def PySem.W.Fast.tw2889043302587746758 : Unit := ()
def PySem.W.Fast.tw12293282583728662216 : Unit := ()
def PySem.W.Fast.tw341807580550810310 : Unit := ()
def PySem.W.Fast.tw7939402808695979042 : Unit := ()
def PySem.W.Fast.tw7170236286345677098 : Unit := ()
def PySem.W.Fast.tw18133654111665317794 : Unit := ()
def PySem.W.Fast.tw700803839747664205 : Unit := ()
def PySem.W.Fast.tw14377392960815161964 : Unit := ()
def PySem.W.Fast.tw1932133162620466395 : Unit := ()
def PySem.W.Fast.tw551990507325002985 : Unit := ()
def PySem.W.Fast.tw7856077513167826777 : Unit := ()
def PySem.W.Fast.tw8320269187358847058 : Unit := ()
def PySem.W.Fast.tw369358056617332279 : Unit := ()
def PySem.W.Fast.tw11919246568854425393 : Unit := ()
def PySem.W.Fast.tw13648663316476375795 : Unit := ()
def PySem.W.Fast.tw4791986740908324990 : Unit := ()
def PySem.W.Fast.tw5466632283104010002 : Unit := ()
def PySem.W.Fast.tw9859970373176837040 : Unit := ()
def PySem.W.Fast.tw8924337161486042405 : Unit := ()
def PySem.W.Fast.tw10140777935840436750 : Unit := ()
def PySem.W.Fast.tw3684547630051636785 : Unit := ()
def PySem.W.Fast.tw3949420719348442789 : Unit := ()
def PySem.W.Fast.tw13312880276964725776 : Unit := ()
def PySem.W.Fast.tw2056781570222080623 : Unit := ()
def PySem.W.Fast.tw9672206634012630025 : Unit := ()
def PySem.W.Fast.tw8461299416997354105 : Unit := ()
def PySem.W.Fast.tw16718343007391353407 : Unit := ()
def PySem.W.Fast.tw11565549549788133251 : Unit := ()
def PySem.W.Fast.tw3738815730814124223 : Unit := ()
def PySem.W.Fast.tw13475994058720261634 : Unit := ()
def PySem.W.Fast.tw5734832110963877043 : Unit := ()
def PySem.W.Fast.tw11872460998145623214 : Unit := ()
def PySem.W.Fast.tw8456435128804575275 : Unit := ()
def PySem.W.Fast.tw14328730001175841285 : Unit := ()
def PySem.W.Fast.tw16761661576552809036 : Unit := ()
def PySem.W.Fast.tw4761079231119144361 : Unit := ()
def PySem.W.Fast.tw15659843471462523303 : Unit := ()
def PySem.W.Fast.tw772567790343390673 : Unit := ()
def PySem.W.Fast.tw1237726614670201816 : Unit := ()
def PySem.W.Fast.tw16529504138016563970 : Unit := ()
def PySem.W.Fast.tw3546813609944612667 : Unit := ()
def PySem.W.Fast.tw15222732738636530094 : Unit := ()
def PySem.W.Fast.tw8652661926471841590 : Unit := ()
def PySem.W.Fast.tw6392153082368421359 : Unit := ()
def PySem.W.Fast.tw13001500856118294751 : Unit := ()
def PySem.W.Fast.tw13026074226390628519 : Unit := ()
def PySem.W.Fast.tw3941813663666462636 : Unit := ()
def PySem.W.Fast.tw4738565976846611054 : Unit := ()
def PySem.W.Fast.tw13093775697923137027 : Unit := ()
def PySem.W.Fast.tw14158626955134484523 : Unit := ()
def PySem.W.Fast.tw12719262996443904741 : Unit := ()
def PySem.W.Fast.tw7271913170928292081 : Unit := ()
def PySem.W.Fast.tw5424105973967528435 : Unit := ()
def PySem.W.Fast.tw15903941790211505350 : Unit := ()
def PySem.W.Fast.tw13281897806658485374 : Unit := ()
def PySem.W.Fast.tw17155611599158729565 : Unit := ()
def PySem.W.Fast.tw6358211372012084745 : Unit := ()
def PySem.W.Fast.tw13276148201340405789 : Unit := ()
def PySem.W.Fast.tw2955626213108184151 : Unit := ()
def PySem.W.Fast.tw1239718833024324668 : Unit := ()
def PySem.W.Fast.tw15728873392458614566 : Unit := ()
def PySem.W.Fast.tw14210427356918654458 : Unit := ()
def PySem.W.Fast.tw14244124602138283436 : Unit := ()
def PySem.W.Fast.tw15539340795150270764 : Unit := ()
def PySem.W.Fast.tw14265627654479969777 : Unit := ()
def PySem.W.Fast.tw15952986424413779666 : Unit := ()
def PySem.W.Fast.tw17461267800133837430 : Unit := ()
def PySem.W.Fast.tw17265157402242736856 : Unit := ()
def PySem.W.Fast.tw3084329555085533576 : Unit := ()
def PySem.W.Fast.tw18024061526155768832 : Unit := ()
def PySem.W.Fast.tw399758207875715137 : Unit := ()
def PySem.W.Fast.tw4588446894124872801 : Unit := ()
def PySem.W.Fast.tw1794579758541554206 : Unit := ()
def PySem.W.Fast.tw11795553045918352759 : Unit := ()
def PySem.W.Fast.tw15721424460865478356 : Unit := ()
def PySem.W.Fast.tw10585703713343197035 : Unit := ()
def PySem.W.Fast.tw11473386589875026092 : Unit := ()
def PySem.W.Fast.tw10876655407415501173 : Unit := ()
def PySem.W.Fast.tw5855255059342433775 : Unit := ()
def PySem.W.Fast.tw10192645645056123553 : Unit := ()
def PySem.W.Fast.tw879841572954698330 : Unit := ()
def PySem.W.Fast.tw17359402512494351892 : Unit := ()
def PySem.W.Fast.tw18061564449531544857 : Unit := ()
def PySem.W.Fast.tw11432901325650800303 : Unit := ()
def PySem.W.Fast.tw443084872964307423 : Unit := ()
def PySem.W.Fast.tw4537897126445378210 : Unit := ()
def PySem.W.Fast.tw4352488649569807861 : Unit := ()
def PySem.W.Fast.tw6345861387455480917 : Unit := ()
def PySem.W.Fast.tw2940369509872994998 : Unit := ()
def PySem.W.Fast.tw7134480975822501751 : Unit := ()
def PySem.W.Fast.tw11579572673373205496 : Unit := ()
def PySem.W.Fast.tw15108891382099600801 : Unit := ()
def PySem.W.Fast.tw10647619143547938719 : Unit := ()
def PySem.W.Fast.tw11624448387175840399 : Unit := ()
def PySem.W.Fast.tw2330738999307892638 : Unit := ()
def PySem.W.Fast.tw13512980351213222580 : Unit := ()
def PySem.W.Fast.tw14752329703483116421 : Unit := ()
def PySem.W.Fast.tw18421948555014721567 : Unit := ()
def PySem.W.Fast.tw5427843534723610609 : Unit := ()
def PySem.W.Fast.tw13454312373584349238 : Unit := ()
def PySem.W.Fast.tw7358121227393827882 : Unit := ()
def PySem.W.Fast.tw8872189596241117291 : Unit := ()
def PySem.W.Fast.tw4454928314310387177 : Unit := ()
def PySem.W.Fast.tw10714112347587453870 : Unit := ()
def PySem.W.Fast.tw15483996213434703244 : Unit := ()
def PySem.W.Fast.tw11422003719456975218 : Unit := ()
def PySem.W.Fast.tw2751254152206778774 : Unit := ()
def PySem.W.Fast.tw15862857681755708031 : Unit := ()
def PySem.W.Fast.tw8840968645573281786 : Unit := ()
def PySem.W.Fast.tw11053369930754577030 : Unit := ()
def PySem.W.Fast.tw15442684902030103666 : Unit := ()
def PySem.W.Fast.tw11700423141215875606 : Unit := ()
def PySem.W.Fast.tw17655317367731036205 : Unit := ()
def PySem.W.Fast.tw3030755749208456885 : Unit := ()
def PySem.W.Fast.tw17592439681092091224 : Unit := ()
def PySem.W.Fast.tw15127691130840531584 : Unit := ()
def PySem.W.Fast.tw17341579327816836696 : Unit := ()
def PySem.W.Fast.tw10458376502232283712 : Unit := ()
def PySem.W.Fast.tw894435541688663859 : Unit := ()
def PySem.W.Fast.tw9436774760246069071 : Unit := ()
def PySem.W.Fast.tw4653388255731643541 : Unit := ()
def PySem.W.Fast.tw12551471730960070809 : Unit := ()
def PySem.W.Fast.tw10765180715487722862 : Unit := ()
def PySem.W.Fast.tw15857617983375334795 : Unit := ()
def PySem.W.Fast.tw17807185557929350382 : Unit := ()
def PySem.W.Fast.tw3176607878622429781 : Unit := ()
def PySem.W.Fast.tw14897949692956042411 : Unit := ()
def PySem.W.Fast.tw10284803984050199560 : Unit := ()
def PySem.W.Fast.tw11229341033995183070 : Unit := ()
def PySem.W.Fast.tw3204873494347324652 : Unit := ()
def PySem.W.Fast.tw9943122318464486757 : Unit := ()
def PySem.W.Fast.tw7994804716549121752 : Unit := ()
def PySem.W.Fast.tw18001225457828636988 : Unit := ()
def PySem.W.Fast.tw5969503869048595878 : Unit := ()
def PySem.W.Fast.tw279322579015351231 : Unit := ()
def PySem.W.Fast.tw1028488117168173550 : Unit := ()
def PySem.W.Fast.tw11769689723154529781 : Unit := ()
def PySem.W.Fast.tw1197744662356591784 : Unit := ()
def PySem.W.Fast.tw17164105138647805918 : Unit := ()
def PySem.W.Fast.tw16435330785633319212 : Unit := ()
def PySem.W.Fast.tw891971724172202250 : Unit := ()
def PySem.W.Fast.tw518003349792058600 : Unit := ()
def PySem.W.Fast.tw6926529673759561938 : Unit := ()
def PySem.W.Fast.tw13797623341289950027 : Unit := ()
def PySem.W.Fast.tw299030430217500821 : Unit := ()
def PySem.W.Fast.tw4265399021483603023 : Unit := ()
def PySem.W.Fast.tw17153534632215096758 : Unit := ()
def PySem.W.Fast.tw7448156289233905415 : Unit := ()
def PySem.W.Fast.tw8329678689534029799 : Unit := ()
def PySem.W.Fast.tw2158055760240690070 : Unit := ()
def PySem.W.Fast.tw12839267674633267032 : Unit := ()
def PySem.W.Fast.tw6158143518796105572 : Unit := ()
def PySem.W.Fast.tw14847388769956525466 : Unit := ()
def PySem.W.Fast.tw15972866739598101118 : Unit := ()
def PySem.W.Fast.tw13620812530765198769 : Unit := ()
def PySem.W.Fast.tw11336748130349053281 : Unit := ()
def PySem.W.Fast.tw2082507370072050448 : Unit := ()
def PySem.W.Fast.tw4399631201112046994 : Unit := ()
def PySem.W.Fast.tw13370103423903371635 : Unit := ()
def PySem.W.Fast.tw17137676440932537676 : Unit := ()
def PySem.W.Fast.tw7888761993515544983 : Unit := ()
def PySem.W.Fast.tw5139235676485651402 : Unit := ()
def PySem.W.Fast.tw17666162545228820624 : Unit := ()
def PySem.W.Fast.tw12114985510079610050 : Unit := ()
def PySem.W.Fast.tw9524360718033371053 : Unit := ()
def PySem.W.Fast.tw13849368659942888613 : Unit := ()
def PySem.W.Fast.tw7277757787969576329 : Unit := ()
def PySem.W.Fast.tw14492084925326979484 : Unit := ()
def PySem.W.Fast.tw8579447661675418124 : Unit := ()
def PySem.W.Fast.tw11223900205163781474 : Unit := ()
def PySem.W.Fast.tw315905970375592023 : Unit := ()
def PySem.W.Fast.tw15419594368176501509 : Unit := ()
def PySem.W.Fast.tw2318306061813325054 : Unit := ()
def PySem.W.Fast.tw15484262596040804190 : Unit := ()
def PySem.W.Fast.tw2019648786448301081 : Unit := ()
def PySem.W.Fast.tw1952675157512431994 : Unit := ()
def PySem.W.Fast.tw6264774859354084328 : Unit := ()
def PySem.W.Fast.tw4671225901169155153 : Unit := ()
def PySem.W.Fast.tw11711643571173938401 : Unit := ()
open PySem PySem.W PyProof.Rows
set_option maxRecDepth 100000 in
set_option maxHeartbeats 0 in
theorem PySem.Challenge.cw_cisternyard_k07_whole_no_plan_beats_a_li_holds : PySem.Challenge.rw_cisternyard_k07_whole_no_plan_beats_a_li.Holds := by
  w_on; o_law; k_head; (case hw => w_witness2)
  k_fill
  refine Z.walk (l := PySem.Challenge.rw_cisternyard_k07_whole_no_plan_beats_a_li) rfl rfl (fun w h Y => PySem.W.kIn_of Y) ?F
  case F =>
    intro w mg fa h KX G hmg
    refine' Z.all_mk (cT := 0) KX G hmg ?aC ?acY ?acB ?acD ?acL ?a_m50 ?a_m4 ?a_m30 ?a_m8 ?a_is_whole ?l_is_whole ?c_is_whole ?k_is_whole ?a_are_whole ?l_are_whole ?c_are_whole ?k_are_whole ?a_check_day ?l_check_day ?c_check_day ?k_check_day ?a_check_days ?l_check_days ?c_check_days ?k_check_days ?a_check_line ?l_check_line ?c_check_line ?k_check_line ?a_check_days_and_line ?l_check_days_and_line ?c_check_days_and_line ?k_check_days_and_line ?a_water_above ?l_water_above ?c_water_above ?k_water_above ?a_wishes_above ?l_wishes_above ?c_wishes_above ?k_wishes_above ?a_least_end ?l_least_end ?c_least_end ?k_least_end ?a_tightest_line ?l_tightest_line ?c_tightest_line ?k_tightest_line ?a_has_form ?l_has_form ?c_has_form ?k_has_form ?a_day_holds ?l_day_holds ?c_day_holds ?k_day_holds ?a_holds ?l_holds ?c_holds ?k_holds ?a_drawn_by ?l_drawn_by ?c_drawn_by ?k_drawn_by ?a_most ?l_most ?c_most ?k_most ?a_check_yard ?l_check_yard ?c_check_yard ?k_check_yard ?a_m_init ?i_m_init ?l_m_init ?c_m_init ?k_m_init ?a_m_rooms ?i_m_rooms ?l_m_rooms ?c_m_rooms ?k_m_rooms ?a_m_waters ?i_m_waters ?l_m_waters ?c_m_waters ?k_m_waters ?a_m_day ?i_m_day ?l_m_day ?c_m_day ?k_m_day ?a_law_drawn ?l_law_drawn ?c_law_drawn ?k_law_drawn ?a_law_yard_by ?l_law_yard_by ?c_law_yard_by ?k_law_yard_by ?a_law_days_by ?l_law_days_by ?c_law_days_by ?k_law_days_by ?a_law_run ?l_law_run ?c_law_run ?k_law_run ?a_law_lived ?l_law_lived ?c_law_lived ?k_law_lived ?a_law_plan_by ?l_law_plan_by ?c_law_plan_by ?k_law_plan_by ?a_law ?l_law ?c_law ?k_law ?pg ?hd ?po ?sa ?nS ?nL ?yB ?yD ?yL ?z_len ?z_range ?z_isi ?z_list ?z_all ?z_any ?z_zip ?z_int ?z_bool ?z_ve ?z_min ?z_tup ?z_max ?z_sum ?z_enu ?z_str ?ki ?kib ?kll ?ktt ?kbb ?kss ?mk ?kc
    (case aC => k_is)
    (case acY => k_is)
    (case acB => k_is)
    (case acD => k_is)
    (case acL => k_is)
    (case a_m50 => k_is)
    (case a_m4 => k_is)
    (case a_m30 => k_is)
    (case a_m8 => k_is)
    (case a_is_whole => k_is)
    (case l_is_whole => k_is)
    (case c_is_whole => k_is)
    (case k_is_whole => k_is)
    (case a_are_whole => k_is)
    (case l_are_whole => k_is)
    (case c_are_whole => k_is)
    (case k_are_whole => k_is)
    (case a_check_day => k_is)
    (case l_check_day => k_is)
    (case c_check_day => k_is)
    (case k_check_day => k_is)
    (case a_check_days => k_is)
    (case l_check_days => k_is)
    (case c_check_days => k_is)
    (case k_check_days => k_is)
    (case a_check_line => k_is)
    (case l_check_line => k_is)
    (case c_check_line => k_is)
    (case k_check_line => k_is)
    (case a_check_days_and_line => k_is)
    (case l_check_days_and_line => k_is)
    (case c_check_days_and_line => k_is)
    (case k_check_days_and_line => k_is)
    (case a_water_above => k_is)
    (case l_water_above => k_is)
    (case c_water_above => k_is)
    (case k_water_above => k_is)
    (case a_wishes_above => k_is)
    (case l_wishes_above => k_is)
    (case c_wishes_above => k_is)
    (case k_wishes_above => k_is)
    (case a_least_end => k_is)
    (case l_least_end => k_is)
    (case c_least_end => k_is)
    (case k_least_end => k_is)
    (case a_tightest_line => k_is)
    (case l_tightest_line => k_is)
    (case c_tightest_line => k_is)
    (case k_tightest_line => k_is)
    (case a_has_form => k_is)
    (case l_has_form => k_is)
    (case c_has_form => k_is)
    (case k_has_form => k_is)
    (case a_day_holds => k_is)
    (case l_day_holds => k_is)
    (case c_day_holds => k_is)
    (case k_day_holds => k_is)
    (case a_holds => k_is)
    (case l_holds => k_is)
    (case c_holds => k_is)
    (case k_holds => k_is)
    (case a_drawn_by => k_is)
    (case l_drawn_by => k_is)
    (case c_drawn_by => k_is)
    (case k_drawn_by => k_is)
    (case a_most => k_is)
    (case l_most => k_is)
    (case c_most => k_is)
    (case k_most => k_is)
    (case a_check_yard => k_is)
    (case l_check_yard => k_is)
    (case c_check_yard => k_is)
    (case k_check_yard => k_is)
    (case a_m_init => k_is)
    (case i_m_init => k_is)
    (case l_m_init => k_is)
    (case c_m_init => k_is)
    (case k_m_init => k_is)
    (case a_m_rooms => k_is)
    (case i_m_rooms => k_is)
    (case l_m_rooms => k_is)
    (case c_m_rooms => k_is)
    (case k_m_rooms => k_is)
    (case a_m_waters => k_is)
    (case i_m_waters => k_is)
    (case l_m_waters => k_is)
    (case c_m_waters => k_is)
    (case k_m_waters => k_is)
    (case a_m_day => k_is)
    (case i_m_day => k_is)
    (case l_m_day => k_is)
    (case c_m_day => k_is)
    (case k_m_day => k_is)
    (case a_law_drawn => k_is)
    (case l_law_drawn => k_is)
    (case c_law_drawn => k_is)
    (case k_law_drawn => k_is)
    (case a_law_yard_by => k_is)
    (case l_law_yard_by => k_is)
    (case c_law_yard_by => k_is)
    (case k_law_yard_by => k_is)
    (case a_law_days_by => k_is)
    (case l_law_days_by => k_is)
    (case c_law_days_by => k_is)
    (case k_law_days_by => k_is)
    (case a_law_run => k_is)
    (case l_law_run => k_is)
    (case c_law_run => k_is)
    (case k_law_run => k_is)
    (case a_law_lived => k_is)
    (case l_law_lived => k_is)
    (case c_law_lived => k_is)
    (case k_law_lived => k_is)
    (case a_law_plan_by => k_is)
    (case l_law_plan_by => k_is)
    (case c_law_plan_by => k_is)
    (case k_law_plan_by => k_is)
    (case a_law => k_is)
    (case l_law => k_is)
    (case c_law => k_is)
    (case k_law => k_is)
    (case pg => k_is)
    (case hd => k_is)
    (case po => k_is)
    (case sa => k_is)
    (case nS => k_is)
    (case nL => k_is)
    (case yB => k_exc)
    (case yD => k_exc)
    (case yL => k_exc)
    (case z_len => k_is)
    (case z_range => k_is)
    (case z_isi => k_is)
    (case z_list => k_is)
    (case z_all => k_is)
    (case z_any => k_is)
    (case z_zip => k_is)
    (case z_int => k_is)
    (case z_bool => k_is)
    (case z_ve => k_is)
    (case z_min => k_is)
    (case z_tup => k_is)
    (case z_max => k_is)
    (case z_sum => k_is)
    (case z_enu => k_is)
    (case z_str => k_is)
    (case ki => kit_is)
    (case kib => kit_is)
    (case kll => kit_is)
    (case ktt => kit_is)
    (case kbb => kit_is)
    (case kss => kit_is)
    (case mk => k_is)
    (case kc => k_is)
